import PyProof.Rows.All
import Wide.All
import OpenK.AllK
import Wide.FinOn
import Lean
import PyProof.EqAt
import PyProof.EqKinds
import PyProof.TupleCall
import PySem.Challenge.RW_moodtree_k59_the_least_table
set_option Elab.async false
set_option linter.all false
set_option maxRecDepth 100000
set_option maxHeartbeats 4000000
set_option hygiene false
local macro_rules | `($x:ident) => let u:=Lean.Macro.throwUnsupported; match x.getId with
 | .str (.str .anonymous "Q") s => (match s.front with
|'a'=>(match s with
|"a"=>`((by omega))
|_=>u)
|'b'=>(match s with
|"b"=>`((by decide +kernel))
|_=>u)
|'c'=>(match s with
|"c"=>`((by decide))
|_=>u)
|'d'=>(match s with
|"d"=>`(Str -> Addr)
|_=>u)
|'e'=>(match s with
|"e"=>`(List (Option T))
|_=>u)
|'f'=>(match s with
|"f"=>`(model X.prog X.w)
|_=>u)
|'g'=>(match s with
|"g"=>`(Inv X pins σ H s)
|_=>u)
|'h'=>(match s with
|"h"=>`(PySem.W.Frag)
|_=>u)
|'i'=>(match s with
|"i"=>`((by decide +kernel))
|_=>u)
|'j'=>(match s with
|"j"=>`(List (Addr × Obj))
|_=>u)
|'k'=>(match s with
|"k"=>`(Value -> Shared -> Prop)
|_=>u)
|'l'=>(match s with
|"l"=>`(.bM o (.dT gs))
|_=>u)
|'m'=>(match s with
|"m"=>`(List (List Key × V))
|_=>u)
|'n'=>(match s with
|"n"=>`(List (bz × List R7))
|_=>u)
|'o'=>(match s with
|"o"=>`(fun _ _ _ => trivial)
|_=>u)
|'p'=>(match s with
|"p"=>`((x == ("__debug__" : Str)) = false)
|_=>u)
|'q'=>(match s with
|"q"=>`(fun _ _ h r => .cons h r)
|_=>u)
|'r'=>(match s with
|"r"=>`(fun _ _ _ _ => trivial)
|_=>u)
|'s'=>(match s with
|"s"=>`(eW R hs F (cn F * hs.length))
|_=>u)
|'t'=>(match s with
|"t"=>`(r fun a ha => k a (ahP _ ha))
|_=>u)
|'u'=>(match s with
|"u"=>`(ah (v_ (cy (i := 0) rfl Q.b)))
|_=>u)
|'v'=>(match s with
|"v"=>`(fun _ _ h r k => .cons (h fun a ha => k a (ahR _ ha)) (r fun a ha => k a (ahM _ ha)))
|_=>u)
|'w'=>(match s with
|"w"=>`(starEach (e :: es) X.env = (false, eval e X.env) :: starEach es X.env)
|_=>u)
|'x'=>(match s with
|"x"=>`(starEach [e] X.env = (false, eval e X.env) :: starEach [] X.env)
|_=>u)
|'y'=>(match s with
|"y"=>`(e.keep h (fun _ z => nomatch z) fun _ _ z => nomatch z)
|_=>u)
|'z'=>(match s with
|"z"=>`(.sh (.lst [.lst (bs.map bJ), .lst (hs.map .str), .tup (bg.map It.d), .lst pr, .dct (cR (cg R))]))
|_=>u)
|'A'=>(match s with
|"A"=>`(.ins "Table" (fG (bs.map bJ ++ [.tup [.str "more0", .int 1]]) (cO.map .str ++ [.str "more0"]) ((bg.filter It.told).map It.d) (jZ pr F ++ [p0]) ((cg (eW R cO F (cn F * cO.length))).map Dh)))
|_=>u)
|'B'=>(match s with
|"B"=>`(ah (c_ ((s, 0)) E.bK E.aM (ai (aS E.aN) (ai (ah aj) aD)) (show (0 : Int) <= 0 by omega) rfl))
|_=>u)
|'C'=>(match s with
|"C"=>`(((backTo pb (starEach [e] X.env)).all (fun x => !x.1) && (backToKw pb (keywordEach [] X.env)).all (fun x => x.1.isSome) && decide ([e].length + ([] : List Keyword).length + (if ([] : List Keyword).isEmpty then 0 else 1) < 30)) = true)
|_=>u)
 |_=>u)
 | _ => u
noncomputable section
namespace L2
open PySem PySem.Spec PyProof.Rows
abbrev ahJ := @wpAny_bind
abbrev ahK := @List.length_map
abbrev ahL := @List.mem_cons_self
abbrev ahM := @List.mem_append_right
abbrev ahN := @List.getElem?_eq_getElem
abbrev ahO := @wpAny_pure
abbrev ahP := @List.mem_cons_of_mem
abbrev ahQ := @List.append_assoc
abbrev ahR := @List.mem_append_left
abbrev ahS := @Nat.le_of_ble_eq_true
abbrev ahT := @List.mem_cons
abbrev ahU := @List.getElem?_map
abbrev ahV := @List.getD_eq_getElem?_getD
abbrev ahW := @List.getElem?_eq_some_iff
abbrev ahX := @if_neg
abbrev ahY := @List.mem_map
abbrev ahZ := @List.mem_append
abbrev ah0 := @Nat.le_refl
abbrev ah1 := @List.length_append
abbrev ah2 := @List.map_append
abbrev ah3 := @List.mem_of_getElem?
abbrev ah4 := @List.length_range
abbrev ah5 := @Heap.get?_push_of_some
abbrev ah6 := @List.map_cons
abbrev ah7 := @if_pos
abbrev ah8 := @Bool.false_ne_true
abbrev ah9 := @List.not_mem_nil
abbrev aia := @List.map_map
abbrev aib := @Option.map_eq_some_iff
abbrev aic := @sizeLine_eq
abbrev aid := @Heap.lt_size
abbrev aie := @Option.some.inj
abbrev aif := @Heap.get?_push_size
abbrev aih := @Bool.and_eq_true
abbrev aii := @List.size_toArray
abbrev aij := @Int.toNat_natCast
abbrev aik := @List.map_congr_left
abbrev ail := @List.length_take
abbrev aim := @List.perm_append_comm
abbrev ain := @List.lookup_cons
abbrev aio := @decide_eq_false
abbrev aip := @List.append_nil
abbrev aiq := @List.getElem?_append_left
abbrev air := @List.Sublist.append
abbrev ais := @List.nodup_append
abbrev ait := @Int.emod_nonneg
abbrev aiu := @List.mem_range
abbrev aiv := @List.Sublist.refl
abbrev aiw := @List.mem_singleton
abbrev aix := @of_decide_eq_true
abbrev aiy := @Int.emod_lt_of_pos
abbrev aiz := @List.cons_append
abbrev aiA := @List.idxOf_lt_length_iff
abbrev aiB := @Nat.zero_le
abbrev aiC := @Nat.lt_of_lt_of_le
abbrev aiD := @Nat.le_trans
abbrev aiE := @List.nodup_cons
abbrev aiF := @Nat.ne_of_lt
abbrev aiG := @wpAny_call_entry
abbrev aiH := @List.Perm.append_left
abbrev aiI := @List.getElem?_eq_none
abbrev aiJ := @List.getElem?_range
abbrev aiK := @Int.zero_add
abbrev aiL := @of_decide_eq_false
abbrev aiM := @PySem.W.mg_none_of
abbrev aiN := @wpAny_newObj_type
abbrev aiO := @List.take_add_one
abbrev aiP := @wpAny_dictEntries
abbrev aiQ := @List.sublist_append_right
abbrev aiR := @List.length_cons
abbrev aiS := @or_false
abbrev aiT := @List.take_append_drop
abbrev aiU := @List.reverse_cons
abbrev aiV := @PyProof.Rows.slot_tuple_getitem
abbrev aiW := @wpAny_callSpecial?_slot
abbrev aiX := @List.range_succ
abbrev aiY := @beq_eq_false_iff_ne
abbrev aiZ := @List.replicate_succ
abbrev ai0 := @decide_eq_true
abbrev ai1 := @List.mem_iff_getElem?
abbrev ai2 := @List.perm_middle
abbrev ai3 := @Array.length_toList
abbrev ai4 := @Heap.SameBut.update
abbrev ai5 := @List.mem_or_eq_of_mem_set
abbrev ai6 := @List.length_replicate
abbrev ai7 := @List.take_length
abbrev ai8 := @List.getElem_idxOf
abbrev ai9 := @Paired.length
abbrev aja := @wpAny_mono
abbrev ajb := @List.mem_of_mem_take
abbrev ajc := @PySem.F.slot_dict_itemiterator_next
abbrev ajd := @PySem.F.slot_dict_keyiterator_next
abbrev aje := @List.idxOf_append
abbrev ajf := @List.nil_append
abbrev ajg := @PySem.mem_of_lookup
abbrev ajh := @Nat.le_of_lt
abbrev aji := @wpAny_field
abbrev ajj := @wpAny_holding
abbrev ajk := @beq_self_eq_true
abbrev ajl := @List.getElem_mem
abbrev ajm := @List.flatMap_def
abbrev ajn := @List.nodup_nil
abbrev ajo := @Bool.false_eq_true
abbrev ajp := @Array.getElem?_toList
abbrev ajq := @Array.getElem?_eq_getElem
abbrev ajr := @List.mem_filter
abbrev ajs := @if_false
abbrev ajt := @List.find?_cons
abbrev aju := @wpAny_typeNameOfWhole_itemiter
abbrev ajv := @List.flatten_cons
abbrev ajw := @wpAny_typeNameOfWhole_keyiter
abbrev ajx := @List.filterMap_cons
abbrev ajy := @List.length_drop
abbrev ajz := @List.map_nil
abbrev ajA := @tupleKind_room_in1
abbrev ajB := @Obj.data_mapFields
abbrev ajC := @wpAny_passesOwn
abbrev ajD := @Heap.get?_update_self
abbrev ajE := @PySem.W.kia_one
abbrev ajF := @wpAny_dictEpoch
abbrev ajG := @List.map_take
abbrev ajH := @List.ext_getElem?
abbrev ajI := @List.all_eq_true
abbrev ajJ := @List.perm_iff_count
abbrev ajK := @Int.toNat_of_nonneg
abbrev ajL := @wpAny_getItem_str_slice
abbrev ajM := @Ne.symm
abbrev ajN := @wpAny_attempt
abbrev ajO := @PySem.W.mg_of
abbrev ajP := @wpAny_Call_Name_kw
abbrev ajQ := @Nat.lt_of_le_of_lt
abbrev ajR := @wpAny_specialOf
abbrev ajS := @wpAny_setField_rec
abbrev ajT := @Nat.div_add_mod
abbrev ajU := @List.filter_map
abbrev ajV := @Calls.callWith_builtin
abbrev ajW := @List.count_append
abbrev ajX := @F.slot_tuple_hash
abbrev ajY := @if_true
abbrev ajZ := @wpAny_setField
abbrev aj0 := @wpAny_notOrdered_dict
abbrev aj1 := @PySem.F.slot_dict_len
abbrev aj2 := @List.length_filter_le
abbrev aj3 := @PyProof.Rows.callWith_type1
abbrev aj4 := @wpAny_isInstance
abbrev aj5 := @List.idxOf_cons_self
abbrev aj6 := @Nat.lt_irrefl
abbrev aj7 := @List.any_cons
abbrev aj8 := @List.getElem?_append_right
abbrev aj9 := @Array.getElem?_eq_some_iff
abbrev aka := @Bool.eq_iff_iff
abbrev akb := @List.length_set
abbrev akc := @PySem.F.slot_dict_getitem
abbrev akd := @size_of_entries
abbrev ake := @PySem.F.args_tuple_add_2
abbrev akf := @List.getElem_range
abbrev akg := @List.eq_of_mem_replicate
abbrev akh := @beq_iff_eq
abbrev aki := @List.Perm.refl
abbrev akj := @Nat.mul_le_mul
abbrev akk := @PySem.F.entry_tuple_add
abbrev akl := @PySem.F.plainAttrs_dict
abbrev akm := @List.pairwise_singleton
abbrev akn := @wpAny_truthy_bool
abbrev ako := @eqIsQuiet_byValue
abbrev akp := @List.getElem?_inj
abbrev Key := Sum Int Str
def xB : Key -> Value -> Bool
 | .inl k, v => Value.isInt k v
 | .inr x, v => Value.isStrOf x v
def ab4 (w : World) : Key -> Int
 | .inl k => hashInt k
 | .inr x => hashStr w x
theorem dY : ∀ {k : Key} {v : Value}, xB k v = true -> (∃ i t, k = Sum.inl i /\ v = Value.int i t) \/ (∃ x t, k = Sum.inr x /\ v = Value.str x t)
 | .inl i, v, h => by
   obtain ⟨t, e⟩ := Value.isInt_shape (k := i) (v := v) h
   exact .inl ⟨i, t, rfl, e⟩
 | .inr x, v, h => by
   obtain ⟨t, e⟩ := Value.isStrOf_shape (x := x) (v := v) h
   exact .inr ⟨x, t, rfl, e⟩
theorem F5 (i : Int) (t : Tok) : xB (.inl i) (.int i t) = true := by simp [xB, Value.isInt]
theorem F6 (x : Str) (t : Tok) : xB (.inr x) (.str x t) = true := by simp [xB, Value.isStrOf]
theorem Ua (a b : Int) : decide ((Sum.inl a : Key) = Sum.inl b) = (a == b) := by
 by_cases e : a = b
 . subst e; simp
 . have h : ¬ (Sum.inl a : Key) = Sum.inl b := fun q => e (Sum.inl.inj q)
   rw [aio h]
   exact (aiY.mpr e).symm
theorem Ub (a b : Str) : decide ((Sum.inr a : Key) = Sum.inr b) = decide (a = b) := by
 by_cases e : a = b
 . subst e; simp
 . have h : ¬ (Sum.inr a : Key) = Sum.inr b := fun q => e (Sum.inr.inj q)
   rw [aio h, aio e]
theorem Uc (a : Int) (b : Str) : decide ((Sum.inl a : Key) = Sum.inr b) = false := aio (fun q => nomatch q)
theorem Ud (a : Str) (b : Int) : decide ((Sum.inr a : Key) = Sum.inl b) = false := aio (fun q => nomatch q)
def eU (prog : Program) (w : World) : PySem.KeyKind prog w Key where
 is := xB
 hash := ab4 w
 inj := fun v a b ha hb => by
   rcases dY ha with ⟨i, t, rfl, rfl⟩ | ⟨x, t, rfl, rfl⟩
   . rcases dY hb with ⟨j, u, rfl, e⟩ | ⟨y, u, rfl, e⟩
     . injection e with e1 _; rw [e1]
     . exact nomatch e
   . rcases dY hb with ⟨j, u, rfl, e⟩ | ⟨y, u, rfl, e⟩
     . exact nomatch e
     . injection e with e1 _; rw [e1]
 byValue := fun k v h => by
   rcases dY h with ⟨i, t, rfl, rfl⟩ | ⟨x, t, rfl, rfl⟩ <;> rfl
 pyHash := fun hv h => by
   rcases dY hv with ⟨i, t, rfl, rfl⟩ | ⟨x, t, rfl, rfl⟩
   . exact wpAny_pyHash_int h
   . exact wpAny_pyHash_str h
 eqBool := fun hu hv h => by
   rcases dY hu with ⟨i, t, rfl, rfl⟩ | ⟨x, t, rfl, rfl⟩
   . rcases dY hv with ⟨j, u, rfl, rfl⟩ | ⟨y, u, rfl, rfl⟩
     . rw [Ua] at h; exact wpAny_eqBool_int h
     . rw [Uc] at h; exact SeqAt.EqAt.int_str i t y u _ _ _ _ h
   . rcases dY hv with ⟨j, u, rfl, rfl⟩ | ⟨y, u, rfl, rfl⟩
     . rw [Ud] at h; exact SeqAt.EqAt.str_int x t j u _ _ _ _ h
     . rw [Ub] at h; exact wpAny_eqBool_str h
 «strs» := fun k x t v h => by
   rcases dY h with ⟨i, u, rfl, e⟩ | ⟨y, u, rfl, e⟩
   . exact nomatch e
   . injection e with e1 _
     subst e1
     cases v <;> rfl
theorem AQ (prog : Program) (w : World) (i : Int) (t : Tok) : (eU prog w).is (.inl i) (.int i t) = true := F5 i t
theorem AU (prog : Program) (w : World) (x : Str) (t : Tok) : (eU prog w).is (.inr x) (.str x t) = true := F6 x t
inductive V where
 | non | bl (b : Bool) | int (i : Int) | str (x : Str) | N5 (b : Array UInt8) | flt (b : UInt64) | ref (a : Addr) | ty (n : String)
 deriving DecidableEq
def RelV : V -> Value -> Prop
 | .non, u => u = Value.none
 | .bl b, u => u = Value.bool b
 | .int i, u => ∃ t, u = Value.int i t
 | .str x, u => ∃ t, u = Value.str x t
 | .N5 b, u => ∃ t, u = Value.bytes b t
 | .flt b, u => ∃ t, u = Value.float b t
 | .ref a, u => u = Value.ref a
 | .ty n, u => u = Value.type n
abbrev Vals : List V -> List Value -> Prop := Paired RelV
variable {us : List Value}
theorem Vals.length {xs : List V} (r : Vals xs us) : xs.length = us.length := ai9 r
theorem Vals.get : ∀ {xs : List V} {us : List Value} {i : Nat} {x : V}, Vals xs us -> xs[i]? = some x -> ∃ u, us[i]? = some u /\ RelV x u
 | _, _, _, _, .nil, e => by simp at e
 | _, _, 0, _, .cons r _, e => by simp at e; subst e; exact ⟨_, rfl, r⟩
 | _, _, i + 1, x, .cons _ t, e => by
   obtain ⟨u, h1, h2⟩ := Vals.get (i := i) (x := x) t (by simpa using e)
   exact ⟨u, by simpa using h1, h2⟩
theorem Vals.set {x : V} {u : Value} (r : RelV x u) : ∀ {xs : List V} {us : List Value} (i : Nat), Vals xs us -> Vals (xs.set i x) (us.set i u)
 | _, _, _, .nil => .nil
 | _, _, 0, .cons _ t => .cons r t
 | _, _, i + 1, .cons q t => .cons q (Vals.set r i t)
theorem Vals.append : ∀ {xs ys : List V} {us ws : List Value}, Vals xs us -> Vals ys ws -> Vals (xs ++ ys) (us ++ ws)
 | _, _, _, _, .nil, s => s
 | _, _, _, _, .cons r t, s => .cons r (Vals.append t s)
theorem Vals.take : ∀ {xs : List V} {us : List Value} (n : Nat), Vals xs us -> Vals (xs.take n) (us.take n)
 | _, _, 0, _ => .nil
 | _, _, _ + 1, .nil => .nil
 | _, _, n + 1, .cons r t => .cons r (Vals.take n t)
theorem Vals.drop : ∀ {xs : List V} {us : List Value} (n : Nat), Vals xs us -> Vals (xs.drop n) (us.drop n)
 | _, _, 0, r => r
 | _, _, _ + 1, .nil => .nil
 | _, _, n + 1, .cons _ t => Vals.drop n t
def oY : Option V -> Option Value -> Prop
 | some v, some u => RelV v u
 | none, none => True
 | _, _ => False
def KV {κ : Type} : List (κ × V) -> List (κ × Value) -> Prop := Paired fun (p : κ × V) (q : κ × Value) => p.1 = q.1 /\ RelV p.2 q.2
def kV : Key -> V
 | .inl i => .int i
 | .inr x => .str x
inductive HO where
 | lst (xs : List V)
 | tup (xs : List V)
 | dK (kvs : List (Key × V)) | dT (kvs : Q.m)
 | set (S : Int -> Bool) (n : Nat)
 | ins (C dx : Addr) (fs : List (Str × V))
 | own (x : Addr)
 | xd (fs : List (Str × V))
 | met (f x : Addr)
 | Ue (lo hi : Int)
 | bM (o : Obj) (u : HO)
 | Sw (ps : Array Value)
 | tabs (q : Str)
 | Sx (q : Str)
 | ext (φ : Heap -> Prop)
abbrev Hp := Addr -> Option HO
def upd (H : Hp) (a : Addr) (o : HO) : Hp := fun b => if b = a then some o else H b
variable {H : Hp} {a : Addr} {o : HO}
theorem aB : upd H a o a = some o := by unfold upd; rw [ah7 rfl]
variable {b : Addr}
theorem ao (h : b ≠ a) : upd H a o b = H b := by unfold upd; rw [ahX h]
theorem Sy {u : HO} (h : H a = some o) (h' : H b = some u) (d : o ≠ u) : a ≠ b := by
 intro e; subst e; rw [h] at h'; exact d (aie h')
theorem bG (h : H a = some o) (h' : H b = none) : a ≠ b := by
 intro e; subst e; rw [h] at h'; cases h'
section
variable (P : Program) (w : World)
def cQ (H : Hp) (h : Heap) (a : Addr) : HO -> Prop
 | .lst xs => xs.length <= sizeLine /\ ∃ (its : List Value) (n : Nat), Vals xs its /\ h.get? a = some { cls := .type "list", data := .seq its.toArray n }
 | .tup xs => xs.length <= sizeLine /\ ∃ its : List Value, Vals xs its /\ IsTup h a its.toArray
 | .dK kvs => kvs.length <= sizeLine /\ (a == sysModules) = false /\ ∃ vs, KV kvs vs /\ h.DictOf (eU P w) a vs
 | .dT kvs => kvs.length <= sizeLine /\ (a == sysModules) = false /\ ∃ xs : List (List Key × Addr × Value),
     Paired (fun (p : List Key × V) (q : List Key × Addr × Value) => p.1 = q.1 /\ H q.2.1 = some (.tup (p.1.map kV)) /\ RelV p.2 q.2.2) kvs xs ∧
     ∃ o es ep, h.get? a = some o /\ o.ExactDict /\ o.data = .dict es ep /\ es.toList = xs.map (entryOfKey (tupleKind (eU P w))) /\ (xs.map (·.1)).Nodup
 | .set S n => h.SetOf (intKind P w) a S n
 | .ins C dx fs => H dx = some (.own a) /\ fs.length <= 1000 /\ dx ≠ a /\ h.get? a = some (PySem.W.instObj C dx) ∧
     ∃ mA, h.Ns1 dx mA /\ (∀ f, oY (fs.lookup f) (mA f)) /\ PySem.Within mA (fs.map (·.1))
 | .own _ => ∃ o, h.get? a = some o
 | .xd fs => ∃ mA, h.Ns1 a mA /\ ∀ f, oY (fs.lookup f) (mA f)
 | .Ue lo hi => ∃ t u v, h.get? a = some { cls := .type "range", data := .fields #[.int lo t, .int hi u, .int 1 v] }
 | .bM o u => h.get? a = some o /\ cQ H h a u
 | .Sw ps => h.get? a = some { cls := .none, data := .fields ps }
 | .tabs q => ∃ ps : Array Value, h.get? a = some { cls := .none, data := .fields ps } /\ TriplesOk ps.toList /\ ∀ pos cv, codeAmong pos ps.toList = some cv -> ∃ c, cv = .ref c /\ H c = some (.Sx q)
 | .Sx q => ∃ o vs t, h.get? a = some o /\ o.data = .fields vs /\ vs[1]? = some (.str q t)
 | .met f x => h.get? a = some (PySem.W.methodObj (.ref f) (.ref x))
 | .ext φ => φ h /\ (∃ o, h.get? a = some o) /\ ∀ h1 h2 : Heap, φ h1 -> (∀ o, h1.get? a = some o -> h2.get? a = some o) -> φ h2
def qi (H : Hp) (h : Heap) : Prop := ∀ a o, H a = some o -> cQ P w H h a o
end
variable {P : Program} {w : World} {H' : Hp} {h h' : Heap}
theorem cQ.lt (x : cQ P w H h a o) : a < h.objs.size := by
 cases o with
 | lst xs => obtain ⟨_, _, _, _, e⟩ := x; exact aid e
 | tup xs => obtain ⟨_, _, _, p⟩ := x; exact p.lt
 | dK kvs => obtain ⟨_, _, _, _, o, _, _, e, _⟩ := x; exact aid e
 | dT kvs => obtain ⟨_, _, _, _, o, _, _, e, _⟩ := x; exact aid e
 | set S n => obtain ⟨o, _, _, _, e, _⟩ := x; exact aid e
 | ins C dx fs => obtain ⟨_, _, _, e, _⟩ := x; exact aid e
 | own y => obtain ⟨_, e⟩ := x; exact aid e
 | xd fs => obtain ⟨_, ⟨_, _, _, e, _⟩, _⟩ := x; exact aid e
 | Ue lo hi => obtain ⟨_, _, _, e⟩ := x; exact aid e
 | bM ob u => obtain ⟨e, _⟩ := x; exact aid e
 | Sw ps => exact aid (show h.get? a = some _ from x)
 | tabs q => obtain ⟨_, e, _⟩ := x; exact aid e
 | Sx q => obtain ⟨_, _, _, e, _⟩ := x; exact aid e
 | met f y => exact aid (show h.get? a = some _ from x)
 | ext φ => obtain ⟨_, ⟨_, e⟩, _⟩ := x; exact aid e
theorem Paired.Ug {α β : Type} {F G : α -> β -> Prop} : ∀ {l₁ : List α} {l₂ : List β}, Paired F l₁ l₂ -> (∀ a b, F a b -> G a b) -> Paired G l₁ l₂
 | _, _, .nil, _ => .nil
 | _, _, .cons r t, f => .cons (f _ _ r) (Paired.Ug t f)
theorem cQ.uV (x : cQ P w H h a o) (k : ∀ b u, (b = a \/ H b = some (.own a)) -> h.get? b = some u -> h'.get? b = some u)
   (ho : ∀ b, H b = some (.own a) -> H' b = some (.own a)) (ht : ∀ b xs, H b = some (.tup xs) -> H' b = some (.tup xs)) (kE : ∀ b q, H b = some (.Sx q) -> H' b = some (.Sx q) := by intro _ _ q; exact q) : cQ P w H' h' a o := by
 induction o with
 | lst xs => obtain ⟨z, its, n, r, e⟩ := x; exact ⟨z, its, n, r, k _ _ (.inl rfl) e⟩
 | tup xs => obtain ⟨z, its, r, ob, e, c⟩ := x; exact ⟨z, its, r, ob, k _ _ (.inl rfl) e, c⟩
 | dK kvs => obtain ⟨z, y, vs, r, ob, es, ep, e, c⟩ := x; exact ⟨z, y, vs, r, ob, es, ep, k _ _ (.inl rfl) e, c⟩
 | dT kvs =>
   obtain ⟨z, y, xs, r, ob, es, ep, e, c⟩ := x
   exact ⟨z, y, xs, Paired.Ug r fun p q z => ⟨z.1, ht _ _ z.2.1, z.2.2⟩, ob, es, ep, k _ _ (.inl rfl) e, c⟩
 | set S n => obtain ⟨ob, es, ep, t, e, c⟩ := x; exact ⟨ob, es, ep, t, k _ _ (.inl rfl) e, c⟩
 | ins C dx fs =>
   obtain ⟨d, z, ne, e, mA, ⟨od, es, ep, e2, c⟩, r⟩ := x
   exact ⟨ho _ d, z, ne, k _ _ (.inl rfl) e, mA, ⟨od, es, ep, k _ _ (.inr d) e2, c⟩, r⟩
 | own y => obtain ⟨ob, e⟩ := x; exact ⟨ob, k _ _ (.inl rfl) e⟩
 | xd fs => obtain ⟨mA, ⟨od, es, ep, e, c⟩, r⟩ := x; exact ⟨mA, ⟨od, es, ep, k _ _ (.inl rfl) e, c⟩, r⟩
 | Ue lo hi => obtain ⟨t, u, v, e⟩ := x; exact ⟨t, u, v, k _ _ (.inl rfl) e⟩
 | bM ob u ih => obtain ⟨e, q⟩ := x; exact ⟨k _ _ (.inl rfl) e, ih q⟩
 | Sw ps =>
   have e : h.get? a = some { cls := .none, data := .fields ps } := x
   show h'.get? a = some { cls := .none, data := .fields ps }
   exact k a _ (.inl rfl) e
 | met f y =>
   have e : h.get? a = some (PySem.W.methodObj (.ref f) (.ref y)) := x
   show h'.get? a = some (PySem.W.methodObj (.ref f) (.ref y))
   exact k a _ (.inl rfl) e
 | tabs q => obtain ⟨ps, e, tr, cs⟩ := x; exact ⟨ps, k _ _ (.inl rfl) e, tr, fun pos cv z => let ⟨c, e1, e2⟩ := cs pos cv z; ⟨c, e1, kE _ _ e2⟩⟩
 | Sx q => obtain ⟨ob, vs, t, e, r⟩ := x; exact ⟨ob, vs, t, k _ _ (.inl rfl) e, r⟩
 | ext φ => obtain ⟨p, ⟨o, e⟩, st⟩ := x; exact ⟨st _ _ p fun o q => k _ _ (.inl rfl) q, ⟨o, k _ _ (.inl rfl) e⟩, st⟩
theorem qi.lt (x : qi P w H h) (e : H a = some o) : a < h.objs.size := (x a o e).lt
theorem qi.fresh (x : qi P w H h) (e : h.objs.size <= a) : H a = none := by
 cases q : H a with
 | none => rfl
 | some u => exact absurd (aiC (x.lt q) e) (aj6 _)
theorem qi.kept (x : qi P w H h) (k : ∀ b u, h.get? b = some u -> h'.get? b = some u) : qi P w H h' := fun a o e =>
 (x a o e).uV (fun b u _ q => k b u q) (fun _ q => q) fun _ _ q => q
theorem qi.laid (x : qi P w H h) (k : ∀ b u, h.get? b = some u -> h'.get? b = some u) (hp : h.objs.size <= a) (new : cQ P w (upd H a o) h' a o) : qi P w (upd H a o) h' := fun b u e => by
 have hn := x.fresh hp
 by_cases hb : b = a
 . subst hb; rw [aB] at e; cases e; exact new
 . rw [ao hb] at e
   exact (x b u e).uV (fun c v _ q => k c v q) (fun c q => by rw [ao (bG q hn)]; exact q) (fun c xs q => by rw [ao (bG q hn)]; exact q) fun c z q => by rw [ao (bG q hn)]; exact q
def Rd (H : Hp) (a : Addr) (u : HO) : Prop := H a = some u \/ ∃ o, H a = some (.bM o u)
theorem Rd.ok {u : HO} (r : Rd H a u) (x : qi P w H h) : cQ P w H h a u := by
 rcases r with r | ⟨o, r⟩
 . exact x a u r
 . obtain ⟨_, q⟩ := x a _ r
   exact q
def Yt : Option HO -> Prop
 | some (.lst _) => True
 | some (.dK _) => True
 | some (.dT _) => True
 | some (.set _ _) => True
 | some (.ins _ _ _) => True
 | some (.ext _) => True
 | some (.tabs _) => True
 | _ => False
variable {x e : Addr} {o' : HO}
theorem qi.write (ok : qi P w H h) (mu : Yt (H x)) (he : e = x \/ H e = some (.own x)) (k : ∀ b u, b ≠ e -> h.get? b = some u -> h'.get? b = some u) (X8 : ∃ u, h'.get? e = some u)
   (new : cQ P w (upd H x o') h' x o') : qi P w (upd H x o') h' := fun b u q => by
 have Yu : ∀ c y, H c = some (.own y) -> c ≠ x := fun c y r z => by subst z; rw [r] at mu; exact mu
 have ab5 : ∀ c xs, H c = some (.tup xs) -> c ≠ x := fun c xs r z => by subst z; rw [r] at mu; exact mu
 have ab6 : ∀ c q, H c = some (.Sx q) -> c ≠ x := fun c q r z => by subst z; rw [r] at mu; exact mu
 by_cases hb : b = x
 . subst hb; rw [aB] at q; cases q; exact new
 . rw [ao hb] at q
   by_cases Uh : b = e
   . have q' : H b = some (.own x) := by
       rcases he with z | z
       . exact absurd (Uh.trans z) hb
       . rw [Uh]; exact z
     rw [q] at q'; cases q'
     obtain ⟨v, hv⟩ := X8
     exact ⟨v, by rw [Uh]; exact hv⟩
   . refine (ok b u q).uV (fun c v hc r => k c v ?_ r) (fun c r => by rw [ao (Yu c b r)]; exact r) (fun c xs r => by rw [ao (ab5 c xs r)]; exact r) fun c z r => by rw [ao (ab6 c z r)]; exact r
     rcases hc with rfl | hc
     . exact Uh
     . rintro rfl
       rcases he with z | z
       . exact Yu c b hc z
       . rw [hc] at z; cases z; exact hb rfl
structure Un (fs ex : List Addr) (H H' : Hp) (h h' : Heap) : Prop where
 keep : ∀ b o, h.get? b = some o -> H b = none -> b ∉ fs -> b ∉ ex -> h'.get? b = some o
 slot : ∀ b o, h.get? b = some o -> H b = none -> b ∈ fs -> b ∉ ex -> ∃ sl, h'.get? b = some { o with slots := sl }
 free : ∀ b o, h.get? b = some o -> H b = none -> b ∉ ex -> H' b = none
 there : ∀ b o, h.get? b = some o -> b ∉ ex -> ∃ o', h'.get? b = some o'
 wO : ∀ b xs, H b = some (.tup xs) -> H' b = some (.tup xs)
 gj : ∀ b o u, H b = some (.bM o u) -> H' b = some (.bM o u)
 wQ : ∀ b ps, H b = some (.Sw ps) -> ∃ more, H' b = some (.Sw (ps ++ more))
section
variable {fs ex : List Addr} {H1 : Hp} {h1 : Heap}
theorem Un.any (u : Un fs ex H H1 h h1) {ob : Obj} (q : h.get? b = some ob) (n : H b = none) (hx : b ∉ ex) : ∃ sl, h1.get? b = some { ob with slots := sl } := by
 by_cases hb : b ∈ fs
 . exact u.slot b ob q n hb hx
 . exact ⟨ob.slots, u.keep b ob q n hb hx⟩
theorem Un.kept (k : ∀ b u, h.get? b = some u -> h'.get? b = some u) : Un fs ex H H h h' :=
 ⟨fun b ob q _ _ _ => k b ob q, fun b ob q _ _ _ => ⟨ob.slots, k b ob q⟩, fun _ _ _ n _ => n, fun b ob q _ => ⟨ob, k b ob q⟩, fun _ _ q => q, fun _ _ _ q => q, fun _ ps q => ⟨#[], by rw [q]; simp⟩⟩
theorem Un.refl : Un fs ex H H h h := Un.kept fun _ _ q => q
theorem Un.laid (k : ∀ b u, h.get? b = some u -> h'.get? b = some u) (hp : h.objs.size <= a) (hn : H a = none) : Un fs ex H (upd H a o) h h' where
 keep := fun b u q _ _ _ => k b u q
 slot := fun b u q _ _ _ => ⟨u.slots, k b u q⟩
 free := fun b u q n _ => by rw [ao (aiF (aiC (aid q) hp))]; exact n
 there := fun b u q _ => ⟨u, k b u q⟩
 wO := fun b xs q => by rw [ao (bG q hn)]; exact q
 gj := fun b u xs q => by rw [ao (bG q hn)]; exact q
 wQ := fun b ps q => ⟨#[], by rw [ao (bG q hn), q]; simp⟩
theorem Un.write (mu : Yt (H x)) (he : e = x \/ H e = some (.own x)) (k : ∀ b u, b ≠ e -> h.get? b = some u -> h'.get? b = some u) (X8 : ∃ u, h'.get? e = some u) : Un fs ex H (upd H x o) h h' := by
 have hx : ∀ b, H b = none -> b ≠ x := fun b n z => by subst z; rw [n] at mu; exact mu
 have hb : ∀ b, H b = none -> b ≠ e := fun b n z => by
   subst z
   rcases he with r | r
   . exact hx b n r
   . rw [n] at r; cases r
 have hm : ∀ b u, H b = some u -> ¬ Yt (some u) -> b ≠ x := fun b u q nm z => by subst z; rw [q] at mu; exact nm mu
 refine ⟨fun b u q n _ _ => k b u (hb b n) q, fun b u q n _ _ => ⟨u.slots, k b u (hb b n) q⟩, fun b u q n _ => by rw [ao (hx b n)]; exact n, fun b u q _ => ?_,
   fun b xs q => by rw [ao (hm b _ q fun z => z)]; exact q, fun b u xs q => by rw [ao (hm b _ q fun z => z)]; exact q, fun b ps q => ⟨#[], by rw [ao (hm b _ q fun z => z), q]; simp⟩⟩
 by_cases Uh : b = e
 . subst Uh; exact X8
 . exact ⟨u, k b u Uh q⟩
end
def trk (h : Heap) (H : Hp) : List Addr := (List.range h.objs.size).filter fun a => (H a).isSome
def yp (h : Heap) (H : Hp) : Heap := PySem.W.hideAll h (trk h H)
theorem F8 (h : Heap) (H : Hp) : (yp h H).objs.size = h.objs.size := PySem.W.hideAll_size _ _
theorem IW {o : Obj} (e : h.get? b = some o) (n : H b = none) : (yp h H).get? b = some o :=
 PySem.W.hideAll_get _ e fun hm => by
   have q : (H b).isSome = true := (ajr.mp hm).2
   rw [n] at q; simp at q
theorem Ol {o : Obj} (e : (yp h H).get? b = some o) : h.get? b = some o /\ H b = none := by
 have e' : h.get? b = some o := PySem.W.of_hideAll (trk h H) e
 refine ⟨e', ?_⟩
 cases q : H b with
 | none => rfl
 | some x =>
   have hm : b ∈ trk h H := ajr.mpr ⟨aiu.mpr (aid e'), by simp [q]⟩
   have z : (yp h H).get? b = none := PySem.W.hideAll_none (trk h H) hm
   rw [z] at e; cases e
def Om (g h : Heap) (L : Addr) : List (Addr × Obj) := (List.range h.objs.size).filterMap fun a => if a = L \/ (g.get? a).isSome = true then none else (h.get? a).map fun o => (a, o)
def rest (g h : Heap) (L d : Addr) : List (Addr × Obj) := (Om g h L).filter fun p => decide (p.1 ≠ d)
structure Mod (K : Q.h) (mg : Str -> Option Value) (base : Heap) : Prop where
 kin : K.In base
 glob : base.Ns mainGlobals mg
 blt : ∃ mb, base.Ns builtinsNs mb /\ ∀ x : Str, x ≠ "__name__" -> mb x = bootBuiltins x
 nolimit : base.NoLimit
structure Cx where
 prog : Program
 w : World
 K : PySem.W.Frag
 mg : Str -> Option Value
 base : Heap
 A : Around
 N : List Str
 s₀ : Shared
 H₀ : Hp
 env : Env
 outer : List Env
 stack : List Env
 ex : List Addr
 fn : Str -> Bool
 calm : Bool
 pn : List (Addr × Obj)
 xe : Value -> Shared -> Prop
def Iz (l : List Env) : List Addr := l.filterMap (·.frame)
abbrev Cx.fs (X : Cx) : List Addr := Iz X.outer
def X9 (sc : Scope) (x : Str) : Prop := sc.names.lookup x = some .local \/ sc.names.lookup x = some .cell \/ sc.names.lookup x = some .free
def Loc (sc : Scope) (x : Str) : Prop := sc.names.lookup x = some .local \/ sc.names.lookup x = some .cell
def Look (env : Env) (h : Heap) (m : Str -> Option Value) (x : Str) (u : Value) : Prop :=
 (env.kindOf x = some .local /\ m x = some u) \/ ((env.kindOf x = some .cell \/ env.kindOf x = some .free) /\ ∃ c, env.cells.lookup x = some c /\ h.IsCell c (some u))
structure Cx.Ok (X : Cx) : Prop where
 mod : Mod X.K X.mg X.base
 kind : X.env.scope.kind = .function
 glob : X.env.globals = mainGlobals
 blt : X.env.builtins = builtinsNs
 above : X.s₀.heap.objs.size <= X.env.locals
 inj : ∀ x y c, X.env.cells.lookup x = some c -> X.env.cells.lookup y = some c -> x = y
 has : ∀ x, (X.env.kindOf x = some .cell \/ X.env.kindOf x = some .free) -> ∃ c, X.env.cells.lookup x = some c
 Yv : ∀ x c, X.fn x = true -> X.env.cells.lookup x = some c -> X.s₀.heap.objs.size <= c
 hd : X.calm = true -> X.A.handled = none
 frames : X.A.frames = some X.stack
 stk : X.stack = X.outer \/ (X.stack = X.env :: X.outer /\ X.env.frame = some X.env.locals)
 exf : ∀ b ∈ X.ex, b ≠ X.env.locals /\ ∀ x c, X.env.cells.lookup x = some c -> c ≠ b
 bs : ∀ b o, X.base.get? b = some o -> X.s₀.heap.get? b = some o /\ X.H₀ b = none
 N6 : X.base.objs.size <= X.s₀.heap.objs.size
 IX : ∀ b o, X.base.get? b = some o -> b ∉ X.ex
 Oo : ∀ b ∈ X.ex, b ∉ X.fs
 rQ : X.s₀.heap.FunFrames X.base X.outer
 Sz : ∀ b ∈ X.fs, X.H₀ b = none
structure Inv (X : Cx) (pins : Q.j) (σ : List (Option V)) (H : Hp) (s : Shared) : Prop where
 ok : X.Ok
 os : s.os = X.s₀.os
 bare : AllBare s.gens
 base : Un X.fs X.ex X.H₀ H X.s₀.heap s.heap
 loc : ∃ m, s.heap.Ns X.env.locals m /\ ∀ (i : Nat) (x : Str) (v : V), X.N[i]? = some x -> σ[i]? = some (some v) -> X9 X.env.scope x -> ∃ u, RelV v u /\ Look X.env s.heap m x u
 cell : ∀ x c, X.env.cells.lookup x = some c -> ∃ v, s.heap.IsCell c v
 free : H X.env.locals = none
 mj : ∀ x c, X.env.cells.lookup x = some c -> H c = none
 pin : ∀ p ∈ X.pn ++ pins, s.heap.get? p.1 = some p.2 /\ H p.1 = none /\ p.1 ≠ X.env.locals /\ p.1 ∉ X.fs /\ ∀ v, p.2.data ≠ .cell v
 cP : qi X.prog X.w H s.heap
 len : σ.length = X.N.length
variable {X : Cx} {pins : Q.j} {σ : List (Option V)} {s : Shared}
theorem Cx.Ok.ab7 (ok : X.Ok) {o : Obj} (e : X.base.get? b = some o) : b ∉ X.fs := fun hb => by
 have := (ok.rQ.mem hb).1
 rw [e] at this; cases this
theorem Inv.bs (I : Q.g) : ∀ b o, X.base.get? b = some o -> s.heap.get? b = some o /\ H b = none := fun b o e =>
 ⟨I.base.keep b o (I.ok.bs b o e).1 (I.ok.bs b o e).2 (I.ok.ab7 e) (I.ok.IX b o e), I.base.free b o (I.ok.bs b o e).1 (I.ok.bs b o e).2 (I.ok.IX b o e)⟩
theorem Inv.bk (I : Q.g) : ∀ b o, X.base.get? b = some o -> s.heap.get? b = some o := fun b o e => (I.bs b o e).1
theorem Inv.mod (I : Q.g) : Mod X.K X.mg X.base := I.ok.mod
theorem Inv.yq (I : Q.g) : X.K.In s.heap := I.ok.mod.kin.keeps I.bk
theorem Inv.lt (I : Q.g) : X.env.locals < s.heap.objs.size := let ⟨_, hn, _⟩ := I.loc; hn.lt
theorem Inv.sz (I : Q.g) : X.s₀.heap.objs.size <= s.heap.objs.size := aiD I.ok.above (ajh I.lt)
theorem Inv.ab8 (I : Q.g) (h : s.heap.objs.size <= a) : a ∉ X.fs := fun hb => by
 obtain ⟨_, o, ho, _⟩ := I.ok.rQ.mem hb
 exact absurd (aiC (aid ho) (aiD I.sz h)) (aj6 _)
theorem Inv.Ui (I : Q.g) : ∀ x c, X.env.cells.lookup x = some c -> c ≠ X.env.locals := fun x c e z => by
 obtain ⟨v, o, ho, hd⟩ := I.cell x c e
 obtain ⟨m, ⟨o', es, ep, Oq, yr, _⟩, _⟩ := I.loc
 rw [z, Oq] at ho; cases ho; rw [yr] at hd; cases hd
theorem Inv.rQ (I : Q.g) : s.heap.FunFrames X.base X.outer := by
 have all : ∀ (l : List Env), (∀ b ∈ Iz l, b ∈ X.fs) -> X.s₀.heap.FunFrames X.base l -> s.heap.FunFrames X.base l := by
   intro l
   induction l with
   | nil => intro _ _; trivial
   | cons env r ih =>
     intro hs hl
     obtain ⟨hk, ⟨L, o, hf, hn, ho, hd⟩, hr⟩ := hl
     have hL : L ∈ X.fs := hs L (by unfold Iz; rw [ajx, hf]; exact ahL)
     obtain ⟨sl, e⟩ := I.base.slot L o ho (I.ok.Sz L hL) hL fun z => I.ok.Oo L z hL
     exact ⟨hk, ⟨L, _, hf, hn, e, hd⟩, ih (fun b hb => hs b (by unfold Iz; rw [ajx, hf]; exact ahP _ hb)) hr⟩
 exact all X.outer (fun _ hb => hb) I.ok.rQ
theorem Inv.stack (I : Q.g) : s.heap.FunFrames X.base X.stack := by
 rcases I.ok.stk with e | ⟨e, hf⟩
 . rw [e]; exact I.rQ
 . rw [e]
   obtain ⟨m, hn, _⟩ := I.loc
   refine .cons (by rw [I.ok.kind]; decide) hf hn ?_ I.rQ
   exact Heap.get?_none_of_le (aiD I.ok.N6 I.ok.above)
theorem Inv.yt (I : Q.g) : ∀ b ∈ Iz X.stack, b ∈ X.env.locals :: X.fs := fun b hb => by
 rcases I.ok.stk with e | ⟨e, hf⟩
 . rw [e] at hb; exact ahP _ hb
 . rw [e] at hb
   unfold Iz at hb
   rw [ajx, hf] at hb
   exact hb
theorem Inv.Eb (I : Q.g) : ∀ b ∈ Iz X.stack, H b = none := fun b hb => by
 rcases ahT.mp (I.yt b hb) with e | hb
 . rw [e]; exact I.free
 . obtain ⟨_, o, ho, _⟩ := I.ok.rQ.mem hb
   exact I.base.free b o ho (I.ok.Sz b hb) fun z => I.ok.Oo b z hb
variable {t' : Nat}
theorem Inv.step {g' : Array GenState} {d' : Drawn} {ch : List Addr} (I : Q.g)
   (Ec : ∀ b ∈ ch, (b ∈ X.ex \/ X.s₀.heap.objs.size <= b) /\ b ≠ X.env.locals /\ (∀ x c, X.env.cells.lookup x = some c -> c ≠ b) /\ ∀ p ∈ X.pn ++ pins, p.1 ≠ b)
   (keep : ∀ b o, b ≠ X.env.locals -> b ∉ X.fs -> b ∉ ch -> s.heap.get? b = some o -> H b = none -> h'.get? b = some o)
   (slot : ∀ b o, b ≠ X.env.locals -> b ∈ X.fs -> b ∉ ch -> s.heap.get? b = some o -> H b = none -> ∃ sl, h'.get? b = some { o with slots := sl }) (free : ∀ b o, b ∉ ch -> s.heap.get? b = some o -> H b = none -> H' b = none)
   (there : ∀ b o, b ∉ ch -> s.heap.get? b = some o -> ∃ o', h'.get? b = some o')
   (wO : ∀ b xs, H b = some (.tup xs) -> H' b = some (.tup xs)) (gj : ∀ b o u, H b = some (.bM o u) -> H' b = some (.bM o u)) (wQ : ∀ b ps, H b = some (.Sw ps) -> ∃ more, H' b = some (.Sw (ps ++ more)))
   (ns : ∀ m, s.heap.Ns X.env.locals m -> h'.Ns X.env.locals m) (cP : qi X.prog X.w H' h') (hg : AllBare g') :
   Inv X pins σ H' { s with heap := h', gens := g', drawn := d', toks := t' } := by
 have neL : ∀ b o, X.s₀.heap.get? b = some o -> b ≠ X.env.locals := fun b o e => aiF (aiC (aid e) I.ok.above)
 have neC : ∀ b o, X.s₀.heap.get? b = some o -> b ∉ X.ex -> b ∉ ch := fun b o e hx hb => by
   rcases (Ec b hb).1 with z | z
   . exact hx z
   . exact absurd (aiC (aid e) z) (aj6 _)
 have cellK : ∀ x c, X.env.cells.lookup x = some c -> ∀ v, s.heap.IsCell c v -> h'.IsCell c v := fun x c e v ⟨o, ho, hd⟩ => by
   have Yw : c ∉ ch := fun z => (Ec c z).2.2.1 x c e rfl
   by_cases hc : c ∈ X.fs
   . obtain ⟨sl, q⟩ := slot c o (I.Ui x c e) hc Yw ho (I.mj x c e)
     exact ⟨_, q, hd⟩
   . exact ⟨o, keep c o (I.Ui x c e) hc Yw ho (I.mj x c e), hd⟩
 refine ⟨I.ok, I.os, hg, ⟨fun b o e n hb hx => ?_, fun b o e n hb hx => ?_, fun b o e n hx => ?_, fun b o e hx => ?_, fun b xs e => wO b xs (I.base.wO b xs e), fun b o xs e => gj b o xs (I.base.gj b o xs e), fun b ps e => ?_⟩, ?_, fun x c e => ?_, ?_, fun x c e => ?_, fun p hp => ?_, cP, I.len⟩
 . exact keep b o (neL b o e) hb (neC b o e hx) (I.base.keep b o e n hb hx) (I.base.free b o e n hx)
 . obtain ⟨sl, e1⟩ := I.base.slot b o e n hb hx
   obtain ⟨sl', e2⟩ := slot b _ (neL b o e) hb (neC b o e hx) e1 (I.base.free b o e n hx)
   exact ⟨sl', e2⟩
 . obtain ⟨o', e1⟩ := I.base.there b o e hx
   exact free b o' (neC b o e hx) e1 (I.base.free b o e n hx)
 . obtain ⟨o', e1⟩ := I.base.there b o e hx
   exact there b o' (neC b o e hx) e1
 . obtain ⟨m1, e1⟩ := I.base.wQ b ps e
   obtain ⟨m2, e2⟩ := wQ b _ e1
   exact ⟨m1 ++ m2, by rw [e2, Array.append_assoc]⟩
 . obtain ⟨m, hn, hl⟩ := I.loc
   refine ⟨m, ns m hn, fun i x v e1 e2 e3 => ?_⟩
   obtain ⟨u, r, l⟩ := hl i x v e1 e2 e3
   refine ⟨u, r, ?_⟩
   rcases l with l | ⟨k, c, e, z⟩
   . exact .inl l
   . exact .inr ⟨k, c, e, cellK x c e _ z⟩
 . obtain ⟨v, z⟩ := I.cell x c e
   exact ⟨v, cellK x c e v z⟩
 . obtain ⟨m, ⟨o, _, _, ho, _⟩, _⟩ := I.loc
   exact free _ o (fun z => (Ec _ z).2.1 rfl) ho I.free
 . obtain ⟨v, o, ho, hd⟩ := I.cell x c e
   exact free c o (fun z => (Ec c z).2.2.1 x c e rfl) ho (I.mj x c e)
 . obtain ⟨e, n, ne, nf, d⟩ := I.pin p hp
   have Yw : p.1 ∉ ch := fun z => (Ec p.1 z).2.2.2 p hp rfl
   exact ⟨keep p.1 p.2 ne nf Yw e n, free p.1 p.2 Yw e n, ne, nf, d⟩
theorem Inv.un (I : Q.g) (u : Un X.fs [] H H' s.heap h') (cP : qi X.prog X.w H' h') : Inv X pins σ H' { s with heap := h', toks := t' } := by
 obtain ⟨m, ⟨o, es, ep, ho, r⟩, _⟩ := id I.loc
 obtain ⟨sl, hL⟩ := u.any ho I.free (by simp)
 exact I.step (g' := s.gens) (d' := s.drawn) (ch := []) (fun _ z => nomatch z) (fun b o _ hb _ e n => u.keep b o e n hb (by simp)) (fun b o _ hb _ e n => u.slot b o e n hb (by simp)) (fun b o _ e n => u.free b o e n (by simp)) (fun b o _ e => u.there b o e (by simp)) u.wO u.gj u.wQ (fun m' hm => by
   obtain ⟨o', F9, SD, Oq, r'⟩ := hm
   rw [ho] at Oq; cases Oq
   exact ⟨_, F9, SD, hL, r'⟩) cP I.bare
theorem Inv.call {g' : Array GenState} {d' : Drawn} {ch : List Addr} (I : Q.g) (u : Un (Iz X.stack) ch H H' s.heap h') (cP : qi X.prog X.w H' h') (hg : AllBare g')
   (Ec : ∀ b ∈ ch, (b ∈ X.ex \/ X.s₀.heap.objs.size <= b) /\ b ≠ X.env.locals /\ (∀ x c, X.env.cells.lookup x = some c -> c ≠ b) /\ ∀ p ∈ X.pn ++ pins, p.1 ≠ b) :
   Inv X pins σ H' { s with heap := h', gens := g', drawn := d', toks := t' } := by
 obtain ⟨m, ⟨o, es, ep, ho, r⟩, _⟩ := id I.loc
 obtain ⟨sl, hL⟩ := u.any ho I.free fun z => (Ec _ z).2.1 rfl
 exact I.step (ch := ch) Ec (fun b o hL hb hc e n => u.keep b o e n (fun z => (ahT.mp (I.yt b z)).elim hL hb) hc) (fun b o _ _ hc e n => u.any e n hc) (fun b o hc e n => u.free b o e n hc) (fun b o hc e => u.there b o e hc) u.wO u.gj u.wQ (fun m' hm => by
   obtain ⟨o', F9, SD, Oq, r'⟩ := hm
   rw [ho] at Oq; cases Oq
   exact ⟨_, F9, SD, hL, r'⟩) cP hg
theorem Inv.turned {it : Addr} (I : Q.g) (k : ∀ b o, b ≠ it -> s.heap.get? b = some o -> h'.get? b = some o) (hn : H it = none) (hL : it ≠ X.env.locals)
   (h1 : it ∈ X.ex \/ X.s₀.heap.objs.size <= it) (h2 : ∀ x c, X.env.cells.lookup x = some c -> c ≠ it) (h3 : ∀ p ∈ X.pn ++ pins, p.1 ≠ it) : Inv X pins σ H { s with heap := h', toks := t' } := by
 have nit : ∀ b u, H b = some u -> b ≠ it := fun b u e z => by rw [z, hn] at e; cases e
 refine I.step (g' := s.gens) (d' := s.drawn) (ch := [it]) (fun b hb => ?_) (fun b o _ _ hc e _ => k b o (fun z => hc (by simp [z])) e) (fun b o _ _ hc e _ => ⟨o.slots, k b o (fun z => hc (by simp [z])) e⟩) (fun _ _ _ _ n => n)
   (fun b o hc e => ⟨o, k b o (fun z => hc (by simp [z])) e⟩) (fun _ _ e => e) (fun _ _ _ e => e) (fun b ps e => ⟨#[], by rw [e]; simp⟩) (fun m hm => ?_) (fun b u e => ?_) I.bare
 . have e : b = it := by simpa using hb
   subst e
   exact ⟨h1, hL, h2, h3⟩
 . obtain ⟨o, es, ep, ho, r⟩ := hm
   exact ⟨o, es, ep, k _ o (ajM hL) ho, r⟩
 . refine (I.cP b u e).uV (fun c v hc q => k c v ?_ q) (fun _ q => q) fun _ _ q => q
   rcases hc with z | z
   . rw [z]; exact nit b u e
   . exact nit c _ z
theorem Inv.tok (I : Q.g) (t : Nat) : Inv X pins σ H { s with toks := t } := I.un (h' := s.heap) (t' := t) Un.refl I.cP
theorem Inv.kept (I : Q.g) (k : ∀ b u, s.heap.get? b = some u -> h'.get? b = some u) : Inv X pins σ H { s with heap := h', toks := t' } := I.un (Un.kept k) (I.cP.kept k)
theorem Inv.laid (I : Q.g) (k : ∀ b u, s.heap.get? b = some u -> h'.get? b = some u) (hp : s.heap.objs.size <= a) (new : cQ X.prog X.w (upd H a o) h' a o) :
   Inv X pins σ (upd H a o) { s with heap := h', toks := t' } := I.un (Un.laid k hp (I.cP.fresh hp)) (I.cP.laid k hp new)
theorem Inv.write (I : Q.g) (mu : Yt (H x)) (he : e = x \/ H e = some (.own x)) (k : ∀ b u, b ≠ e -> s.heap.get? b = some u -> h'.get? b = some u) (X8 : ∃ u, h'.get? e = some u)
   (new : cQ X.prog X.w (upd H x o) h' x o) : Inv X pins σ (upd H x o) { s with heap := h', toks := t' } := I.un (Un.write mu he k X8) (I.cP.write mu he k X8 new)
theorem Inv.tU {Ed : Q.j} (I : Q.g) (h : ∀ p ∈ Ed, s.heap.get? p.1 = some p.2 /\ H p.1 = none /\ p.1 ≠ X.env.locals /\ p.1 ∉ X.fs /\ ∀ v, p.2.data ≠ .cell v) : Inv X Ed σ H s :=
 ⟨I.ok, I.os, I.bare, I.base, I.loc, I.cell, I.free, I.mj, fun p hp => (ahZ.mp hp).elim (fun z => I.pin p (ahR _ z)) (h p), I.cP, I.len⟩
variable {i : Nat}
theorem AV {N : List Str} (hN : N.Nodup) {j : Nat} {x : Str} (a : N[i]? = some x) (b : N[j]? = some x) : i = j := by
 obtain ⟨h1, e1⟩ := ahW.mp a
 obtain ⟨h2, e2⟩ := ahW.mp b
 exact (List.getElem_inj hN).mp (e1.trans e2.symm)
variable {M : Model} {A : Around} {E : Q.k} {v : V} {u : Value} {Q : Unit -> Shared -> Prop}
theorem Ga {x : Str} (I : Q.g) (hN : X.N.Nodup) (hi : X.N[i]? = some x) (hx : Loc X.env.scope x) (r : RelV v u)
   (h : ∀ s', Inv X pins (σ.set i (some v)) H s' -> (∃ a, Heap.SameBut a s.heap s'.heap /\ (a = X.env.locals \/ X.env.cells.lookup x = some a)) -> Q () s') (hf : X.fn x = true \/ X.env.scope.names.lookup x = some .local := by first | exact .inl rfl | exact .inr rfl | assumption) : wpAny M A (storeName X.env x u) Q E s := by
 obtain ⟨m, hn, hl⟩ := id I.loc
 have ab9 : (X.env.scope.kind == .class || (X.env.scope.kind == .module && X.env.locals != X.env.globals)) = false := by rw [I.ok.kind]; rfl
 have Yx : i < σ.length := by rw [I.len]; exact (ahW.mp hi).1
 have Ui := I.Ui
 have tracked : ∀ {a : Addr} {h' : Heap}, (∃ o, s.heap.get? a = some o /\ H a = none) -> Heap.SameBut a s.heap h' -> qi X.prog X.w H h' := fun {a h'} ha hs b ob e => by
   obtain ⟨_, _, SG⟩ := ha
   refine (I.cP b ob e).uV (fun c w' hc q => (hs.2 c ?_).trans q) (fun _ q => q) fun _ _ q => q
   rintro rfl
   rcases hc with rfl | hc
   . rw [SG] at e; cases e
   . rw [SG] at hc; cases hc
 rcases hx with hk | hk
 . refine wpAny_storeName_local hk hn (fun h' hn' hs => ?_) ab9
   obtain ⟨oL, _, _, hoL, _⟩ := id hn
   refine h _ ⟨I.ok, I.os, I.bare, ⟨fun b o e n hb hx => ?_, fun b o e n hb hx => ?_, I.base.free, fun b o e hx => ?_, I.base.wO, I.base.gj, I.base.wQ⟩, ⟨_, hn', fun j y v' e1 e2 e3 => ?_⟩, fun y c e => ?_, I.free, I.mj, fun p hp => ?_, tracked ⟨oL, hoL, I.free⟩ hs, by simpa using I.len⟩ ⟨_, hs, .inl rfl⟩
   . exact (hs.2 b (aiF (aiC (aid e) I.ok.above))).trans (I.base.keep b o e n hb hx)
   . obtain ⟨sl, e1⟩ := I.base.slot b o e n hb hx
     exact ⟨sl, (hs.2 b (aiF (aiC (aid e) I.ok.above))).trans e1⟩
   . obtain ⟨o', e1⟩ := I.base.there b o e hx
     exact ⟨o', (hs.2 b (aiF (aiC (aid e) I.ok.above))).trans e1⟩
   . by_cases hj : j = i
     . subst hj
       rw [hi] at e1; cases e1
       rw [List.getElem?_set_self Yx] at e2
       cases e2
       exact ⟨u, r, .inl ⟨hk, by simp⟩⟩
     . rw [List.getElem?_set_ne (ajM hj)] at e2
       obtain ⟨u', r', q⟩ := hl j y v' e1 e2 e3
       refine ⟨u', r', ?_⟩
       rcases q with ⟨k, e⟩ | ⟨k, c, e, z⟩
       . refine .inl ⟨k, ?_⟩
         have : y ≠ x := fun e => hj (AV hN e1 (e ▸ hi))
         simp [this, e]
       . exact .inr ⟨k, c, e, z.sameBut hs (Ui y c e)⟩
   . obtain ⟨w', z⟩ := I.cell y c e
     exact ⟨w', z.sameBut hs (Ui y c e)⟩
   . obtain ⟨e, n, ne, nf, d⟩ := I.pin p hp
     exact ⟨(hs.2 p.1 ne).trans e, n, ne, nf, d⟩
 . have Yb : X.fn x = true := by
     rcases hf with z | z
     . exact z
     . rw [z] at hk; cases hk
   obtain ⟨c, hc⟩ := I.ok.has x (.inl hk)
   obtain ⟨w', z⟩ := I.cell x c hc
   refine wpAny_storeName_cell I.ok.kind hk hc z (fun h' Uj hs => ?_)
   obtain ⟨oc, hoc, acd⟩ := id z
   refine h { s with heap := h' } ⟨I.ok, I.os, I.bare, ⟨fun b o e n hb hx => ?_, fun b o e n hb hx => ?_, I.base.free, fun b o e hx => ?_, I.base.wO, I.base.gj, I.base.wQ⟩, ⟨m, hn.sameBut hs (Ne.symm (Ui x c hc)), fun j y v' e1 e2 e3 => ?_⟩, fun y c' e => ?_, I.free, I.mj, fun p hp => ?_, tracked ⟨oc, hoc, I.mj x c hc⟩ hs, by simpa using I.len⟩ ⟨c, hs, .inr hc⟩
   . exact (hs.2 b (aiF (aiC (aid e) (I.ok.Yv x c Yb hc)))).trans (I.base.keep b o e n hb hx)
   . obtain ⟨sl, e1⟩ := I.base.slot b o e n hb hx
     exact ⟨sl, (hs.2 b (aiF (aiC (aid e) (I.ok.Yv x c Yb hc)))).trans e1⟩
   . obtain ⟨o', e1⟩ := I.base.there b o e hx
     exact ⟨o', (hs.2 b (aiF (aiC (aid e) (I.ok.Yv x c Yb hc)))).trans e1⟩
   . by_cases hj : j = i
     . subst hj
       rw [hi] at e1; cases e1
       rw [List.getElem?_set_self Yx] at e2
       cases e2
       exact ⟨u, r, .inr ⟨.inl hk, c, hc, Uj⟩⟩
     . rw [List.getElem?_set_ne (ajM hj)] at e2
       obtain ⟨u', r', q⟩ := hl j y v' e1 e2 e3
       refine ⟨u', r', ?_⟩
       rcases q with q | ⟨k, c', e, z'⟩
       . exact .inl q
       . refine .inr ⟨k, c', e, z'.sameBut hs ?_⟩
         rintro rfl
         exact hj (AV hN e1 (I.ok.inj _ _ _ e hc ▸ hi))
   . by_cases hcc : c' = c
     . subst hcc; exact ⟨_, Uj⟩
     . obtain ⟨w2, z2⟩ := I.cell y c' e
       exact ⟨w2, z2.sameBut hs hcc⟩
   . obtain ⟨e, n, ne, nf, d⟩ := I.pin p hp
     refine ⟨(hs.2 p.1 ?_).trans e, n, ne, nf, d⟩
     intro q
     rw [q, hoc] at e
     have q' : oc = p.2 := aie e
     exact d w' (by rw [← q']; exact acd)
theorem AW {x : Str} (I : Q.g) (hN : X.N.Nodup) (hi : X.N[i]? = some x) (hx : Loc X.env.scope x) (r : RelV v u)
   (h : ∀ s', Inv X pins (σ.set i (some v)) H s' -> Q () s') (hf : X.fn x = true \/ X.env.scope.names.lookup x = some .local := by first | exact .inl rfl | exact .inr rfl | assumption) : wpAny M A (storeName X.env x u) Q E s :=
 Ga I hN hi hx r (fun s' I' _ => h s' I') hf
abbrev XK := Value -> Option Addr -> Hp -> Prop
abbrev St := List (Option V)
abbrev VK := V -> Hp -> Prop
abbrev TE := St -> Hp -> VK -> Prop
abbrev TT := St -> Hp -> (Bool -> Hp -> Prop) -> Prop
abbrev TA := St -> Hp -> (List V -> Hp -> Prop) -> Prop
structure Ends where
 nx : St -> Hp -> Prop
 rt : VK
 bk : St -> Hp -> Prop := fun _ _ => False
 ct : St -> Hp -> Prop := fun _ _ => False
abbrev TS := Ends -> St -> Hp -> Prop
def EP (X : Cx) (pins : Q.j) (σ : St) (Q : VK) (u : Value) (s' : Shared) : Prop := ∃ v H', Inv X pins σ H' s' /\ RelV v u /\ Q v H'
def TP (X : Cx) (pins : Q.j) (σ : St) (Q : Bool -> Hp -> Prop) (b : Bool) (s' : Shared) : Prop := ∃ H', Inv X pins σ H' s' /\ Q b H'
def AP (X : Cx) (pins : Q.j) (σ : St) (Q : List V -> Hp -> Prop) (us : List Value) (s' : Shared) : Prop := ∃ vs H', Inv X pins σ H' s' /\ Vals vs us /\ Q vs H'
def SP (X : Cx) (pins : Q.j) (D : Ends) (f : Flow) (s' : Shared) : Prop :=
 match f with
 | .next => ∃ σ' H', Inv X pins σ' H' s' /\ D.nx σ' H'
 | .brk => ∃ σ' H', Inv X pins σ' H' s' /\ D.bk σ' H'
 | .cont => ∃ σ' H', Inv X pins σ' H' s' /\ D.ct σ' H'
 | .ret u => ∃ v σ' H', Inv X pins σ' H' s' /\ RelV v u /\ D.rt v H'
def PE (X : Cx) (e : Expr) (t : TE) : Prop :=
 ∀ (pins : Q.j) (s : Shared) (σ : St) (H : Hp) (Q : VK), Inv X pins σ H s -> t σ H Q -> wpAny Q.f X.A (eval e X.env) (EP X pins σ Q) X.xe s
def PT (X : Cx) (e : Expr) (t : TT) : Prop :=
 ∀ (pins : Q.j) (s : Shared) (σ : St) (H : Hp) (Q : Bool -> Hp -> Prop), Inv X pins σ H s -> t σ H Q -> wpAny Q.f X.A (isTrue e X.env (eval e X.env)) (TP X pins σ Q) X.xe s
def PW (X : Cx) (e : Expr) (t : TT) : Prop :=
 ∀ (whole : Sem Value) (pins : Q.j) (s : Shared) (σ : St) (H : Hp) (Q : Bool -> Hp -> Prop), Inv X pins σ H s -> t σ H Q -> wpAny Q.f X.A (isTrue e X.env whole) (TP X pins σ Q) X.xe s
def PA (X : Cx) (es : List Expr) (t : TA) : Prop :=
 ∀ (pos : Pos) (pins : Q.j) (s : Shared) (σ : St) (H : Hp) (Q : List V -> Hp -> Prop), Inv X pins σ H s -> t σ H Q -> wpAny Q.f X.A (spliced (backTo pos (starEach es X.env))) (AP X pins σ Q) X.xe s
def PS (X : Cx) (st : Stmt) (t : TS) : Prop :=
 ∀ (pins : Q.j) (s : Shared) (σ : St) (H : Hp) (D : Ends), Inv X pins σ H s -> t D σ H -> wpAny Q.f X.A (exec st X.env) (SP X pins D) X.xe s
def Ef (X : Cx) (st : List Stmt) (t : TS) : Prop :=
 ∀ (pins : Q.j) (s : Shared) (σ : St) (H : Hp) (D : Ends), Inv X pins σ H s -> t D σ H -> wpAny Q.f X.A (execs st X.env) (SP X pins D) X.xe s
theorem eO {α : Type} {t : Sem α} {Q Q' : α -> Shared -> Prop} (h : wpAny M A t Q E s) (hQ : ∀ a s, Q a s -> Q' a s) : wpAny M A t Q' E s := aja h hQ fun _ _ x => x
section
def ace (i : Nat) : TE := fun σ H Q => ∃ v, σ[i]? = some (some v) /\ Q v H
def tC (v : V) : TE := fun _ H Q => Q v H
theorem iX {x : Str} {pos : Pos} (hN : X.N[i]? = some x) (hv : X9 X.env.scope x) (hd : Q.p := by decide) (kE : (x == ("__classdict__" : Str)) = false := by decide) : PE X (.Name x pos) (ace i) := by
 intro pins s σ H Q I h
 obtain ⟨v, e, h⟩ := h
 obtain ⟨m, hn, hl⟩ := I.loc
 obtain ⟨u, r, l⟩ := hl i x v hN e hv
 have fin : EP X pins σ Q u s := ⟨v, H, I, r, h⟩
 rcases l with ⟨hk, hm⟩ | ⟨hk, c, hc, xC⟩
 . exact wpAny_Name (wpAny_loadName_local I.ok.kind hk hn hm fin) hd
 . rcases hk with hk | hk
   . exact wpAny_Name (wpAny_loadName_cell I.ok.kind hk hc xC fin) hd
   . exact wpAny_Name (wpAny_loadName_free I.ok.kind hk hc xC fin kE) hd
theorem Uk {i j pos} : PE X (.Constant (.int i) j pos) (tC (.int i)) := fun _ _ _ H _ I h => wpAny_Constant_int ⟨.int i, H, I.tok _, ⟨_, rfl⟩, h⟩
theorem Yy {b j pos} : PE X (.Constant (.bool b) j pos) (tC (.bl b)) := fun _ _ _ H _ I h => Constant_bool ⟨.bl b, H, I, rfl, h⟩
theorem Ul {j pos} : PE X (.Constant .none j pos) (tC .non) := fun _ _ _ H _ I h => Constant_none ⟨.non, H, I, rfl, h⟩
theorem Um {x j pos} : PE X (.Constant (.str x) j pos) (tC (.str x)) := fun _ _ _ H _ I h => Calls.Constant_str ⟨.str x, H, I.tok _, ⟨_, rfl⟩, h⟩
def Gl (X : Cx) (x : Str) : Prop := X.env.kindOf x = some .globalImplicit
theorem tV {σ : St} {x : Str} {pos : Pos} {Q : Q.k} (I : Q.g) (hg : Gl X x) (hm : X.mg x = some u) (h : Q u s)
   (hd : Q.p := by decide) : wpAny Q.f X.A (eval (.Name x pos) X.env) Q E s :=
 Calls.Name_function_global I.ok.kind hg (Calls.loadGlobal_global (by rw [I.ok.glob]; exact I.mod.glob.keeps I.bk) hm h) hd
theorem uW {σ : St} {x : Str} {pos : Pos} {Q : Q.k} (I : Q.g) (hg : Gl X x) (hm : X.mg x = none) (hv : bootBuiltins x = some u) (h : Q u s)
   (hn : x ≠ "__name__" := by decide) (hd : Q.p := by decide) : wpAny Q.f X.A (eval (.Name x pos) X.env) Q E s := by
 obtain ⟨mb, h1, h2⟩ := I.mod.blt
 exact Calls.Name_function_global I.ok.kind hg (Calls.loadGlobal_builtin (by rw [I.ok.glob]; exact I.mod.glob.keeps I.bk) hm (by rw [I.ok.blt]; exact h1.keeps I.bk) ((h2 x hn).trans hv) h) hd
theorem Eg {x : Str} {pos : Pos} (hg : Gl X x) (hm : X.mg x = some u) (r : RelV v u) (hd : Q.p := by decide) : PE X (.Name x pos) (tC v) :=
 fun _ _ _ H _ I h => tV I hg hm ⟨v, H, I, r, h⟩ hd
theorem Ot {x : Str} {pos : Pos} (hg : Gl X x) (hm : X.mg x = none) (hv : bootBuiltins x = some u) (r : RelV v u) (hn : x ≠ "__name__" := by decide) (hd : Q.p := by decide) : PE X (.Name x pos) (tC v) :=
 fun _ _ _ H _ I h => uW I hg hm hv ⟨v, H, I, r, h⟩ hn hd
variable {a b : Expr} {ta tb : TE} {pos : Pos}
def tB (t : TE) : TT := fun σ H Q => t σ H fun x H1 => ∃ c, x = .bl c /\ Q c H1
theorem Uo {e : Expr} {t : TE} (h : PE X e t) (he : ∀ whole, isTrue e X.env whole = (do let v ← whole; standAt e.pos; holding [v] (truthy v)) := by intro _; rfl) : PT X e (tB t) := by
 intro pins s σ H Q I hw
 refine isTrue_plain (eO (h pins s σ H _ I hw) fun v s1 zz => ?_) (he _)
 obtain ⟨x, H1, I1, r1, q1⟩ := zz
 obtain ⟨d, rfl, q⟩ := q1
 cases r1
 exact akn ⟨H1, I1, q⟩
variable {tA tB' : TT} {rest : List Expr}
def acf (t u : TT) : TT := fun σ H Q => t σ H fun c H1 => if c = true then u σ H1 Q else Q false H1
def tOr (t u : TT) : TT := fun σ H Q => t σ H fun c H1 => if c = true then Q true H1 else u σ H1 Q
def acg (t : TT) : TT := fun σ H Q => t σ H fun c H1 => Q (!c) H1
theorem Ou (ha : PT X a tA) : PW X (.BoolOp .And [a] pos) tA := by
 intro wh pins s σ H Q I h
 refine isTrue_and (eO (ha pins s σ H Q I h) fun c s1 e => ?_)
 cases c with
 | true => exact isTrue_and_nil e
 | false => exact e
theorem Up (ha : PT X a tA) : PW X (.BoolOp .Or [a] pos) tA := by
 intro wh pins s σ H Q I h
 refine isTrue_or (eO (ha pins s σ H Q I h) fun c s1 e => ?_)
 cases c with
 | false => exact isTrue_or_nil e
 | true => exact e
theorem Uq (ha : PT X a tA) (hb : PW X (.BoolOp .And (b :: rest) pos) tB') : PW X (.BoolOp .And (a :: b :: rest) pos) (acf tA tB') := by
 intro wh pins s σ H Q I h
 refine isTrue_and (eO (ha pins s σ H _ I h) fun c s1 zz => ?_)
 obtain ⟨H1, I1, q1⟩ := zz
 cases c with
 | true => exact hb wh pins s1 σ H1 Q I1 q1
 | false => exact ⟨H1, I1, q1⟩
theorem Yz (ha : PT X a tA) (hb : PW X (.BoolOp .Or (b :: rest) pos) tB') : PW X (.BoolOp .Or (a :: b :: rest) pos) (tOr tA tB') := by
 intro wh pins s σ H Q I h
 refine isTrue_or (eO (ha pins s σ H _ I h) fun c s1 zz => ?_)
 obtain ⟨H1, I1, q1⟩ := zz
 cases c with
 | true => exact ⟨H1, I1, q1⟩
 | false => exact hb wh pins s1 σ H1 Q I1 q1
theorem Ur (ha : PT X a tA) : PT X (.UnaryOp .Not a pos) (acg tA) := by
 intro pins s σ H Q I h
 exact isTrue_not (ha pins s σ H (fun c H1 => Q (!c) H1) I h)
def YB (ta tb : TE) : TE := fun σ H Q => ta σ H fun x H1 => ∃ c, x = .bl c /\ if c = true then tb σ H1 Q else Q (.bl false) H1
def YC (ta : TE) : TE := fun σ H Q => ta σ H fun x H1 => ∃ c, x = .bl c /\ Q (.bl (!c)) H1
theorem Us {op} {t : TE} (h : PE X a t) : PE X (.BoolOp op [a] pos) t := fun pins s σ H Q I hw => BoolOp_one (h pins s σ H Q I hw)
theorem Ut (ha : PE X a ta) (hb : PE X (.BoolOp .And (b :: rest) pos) tb) : PE X (.BoolOp .And (a :: b :: rest) pos) (YB ta tb) := by
 intro pins s σ H Q I h
 refine BoolOp_and (eO (ha pins s σ H _ I h) fun v s1 zz => ?_)
 obtain ⟨x, H1, I1, r1, q1⟩ := zz
 obtain ⟨c, rfl, q1⟩ := q1
 cases r1
 refine akn ?_
 cases c with
 | true => exact hb pins s1 σ H1 Q I1 q1
 | false => exact ⟨.bl false, H1, I1, rfl, q1⟩
theorem Uu (ha : PE X a ta) : PE X (.UnaryOp .Not a pos) (YC ta) := by
 intro pins s σ H Q I h
 refine UnaryOp_ (eO (ha pins s σ H _ I h) fun v s1 zz => ?_)
 obtain ⟨x, H1, I1, r1, q1⟩ := zz
 obtain ⟨c, rfl, q1⟩ := q1
 cases r1
 exact not_of (akn ⟨.bl (!c), H1, I1, rfl, q1⟩)
end
def kZ (K : Q.h) (H : Hp) (a : Addr) (xs : List V) : Prop :=
 Rd H a (.lst xs) ∨
   ∃ (o : Obj) (its : Array Value) (n : Nat), K.lookup a = some o /\ o.cls = .type "list" /\ o.dict = none /\ o.data = .seq its n /\ its.size <= sizeLine /\ Vals xs its.toList
def kD (K : Q.h) (H : Hp) (a : Addr) (xs : List V) : Prop :=
 Rd H a (.tup xs) ∨
   ∃ (o : Obj) (its : Array Value) (n : Nat), K.lookup a = some o /\ o.cls = .type "tuple" /\ o.data = .seq its n /\ its.size <= sizeLine /\ Vals xs its.toList
def ach : Value -> Option V
 | .none => some .non
 | .bool b => some (.bl b)
 | .int i _ => some (.int i)
 | .str x _ => some (.str x)
 | .bytes b _ => some (.N5 b)
 | .float b _ => some (.flt b)
 | .ref a => some (.ref a)
 | .type n => some (.ty n)
 | _ => none
theorem RelV.abs {x : V} (r : RelV x u) : ach u = some x := by
 cases x with
 | non => cases r; rfl
 | bl _ => cases r; rfl
 | int _ => obtain ⟨t, rfl⟩ := r; rfl
 | str _ => obtain ⟨t, rfl⟩ := r; rfl
 | N5 _ => obtain ⟨t, rfl⟩ := r; rfl
 | flt _ => obtain ⟨t, rfl⟩ := r; rfl
 | ref _ => cases r; rfl
 | ty _ => cases r; rfl
theorem RelV.inj {x y : V} (r : RelV x u) (q : RelV y u) : x = y := aie (r.abs.symm.trans q.abs)
theorem Vals.inj {xs ys : List V} (h : Vals xs us) (q : Vals ys us) : xs = ys := by
 induction h generalizing ys with
 | nil => cases q; rfl
 | cons r _ i => cases q with
   | cons r' t' => rw [r.inj r', i t']
variable {σ : St} {xs ys : List V} {K : Q.h}
theorem kZ.of (h : H a = some (.lst xs)) : kZ K H a xs := .inl (.inl h)
theorem kD.of (h : H a = some (.tup xs)) : kD K H a xs := .inl (.inl h)
theorem Inv.list (I : Q.g) (h : kZ X.K H a xs) : ∃ its : List Value, Vals xs its /\ PlainL s.heap a its.toArray /\ xs.length <= sizeLine := by
 rcases h with h | ⟨o, its, n, hk, hc, hd, hs, hz, r⟩
 . obtain ⟨z, its, n, r, e⟩ := h.ok I.cP
   exact ⟨its, r, ⟨_, n, e, rfl, rfl, rfl⟩, z⟩
 . refine ⟨its.toList, r, ⟨o, n, I.yq a o hk, hc, hd, by simpa using hs⟩, ?_⟩
   have e := r.length
   simp only [ai3] at e
   omega
theorem Inv.tuple (I : Q.g) (h : kD X.K H a xs) : ∃ its : List Value, Vals xs its /\ IsTup s.heap a its.toArray /\ xs.length <= sizeLine := by
 rcases h with h | ⟨o, its, n, hk, hc, hs, hz, r⟩
 . obtain ⟨z, its, r, p⟩ := h.ok I.cP
   exact ⟨its, r, p, z⟩
 . refine ⟨its.toList, r, ⟨o, I.yq a o hk, hc, n, by simpa using hs⟩, ?_⟩
   have e := r.length
   simp only [ai3] at e
   omega
theorem Inv.AX (I : Q.g) (h : kZ X.K H a xs) (h' : kZ X.K H a ys) : xs = ys := by
 obtain ⟨its, r, ⟨o, n, e, _, _, d⟩, _⟩ := I.list h
 obtain ⟨its', r', ⟨o', n', e', _, _, d'⟩, _⟩ := I.list h'
 rw [e] at e'; cases e'
 rw [d] at d'
 injection d' with d1 _
 have : its = its' := by simpa using congrArg Array.toList d1
 subst this
 exact r.inj r'
theorem Inv.Gb (I : Q.g) (h : kD X.K H a xs) (h' : kD X.K H a ys) : xs = ys := by
 obtain ⟨its, r, ⟨o, e, _, n, d⟩, _⟩ := I.tuple h
 obtain ⟨its', r', ⟨o', e', _, n', d'⟩, _⟩ := I.tuple h'
 rw [e] at e'; cases e'
 rw [d] at d'
 injection d' with d1 _
 have : its = its' := by simpa using congrArg Array.toList d1
 subst this
 exact r.inj r'
abbrev Cx.wish (X : Cx) (E : Q.k) : Cx := { X with xe := E }
abbrev Cx.Ov (X : Cx) : Cx := X.wish fun _ _ => False
theorem Cx.Ok.wish (ok : X.Ok) (E : Q.k) : (X.wish E).Ok :=
 ⟨ok.mod, ok.kind, ok.glob, ok.blt, ok.above, ok.inj, ok.has, ok.Yv, ok.hd, ok.frames, ok.stk, ok.exf, ok.bs, ok.N6, ok.IX, ok.Oo, ok.rQ, ok.Sz⟩
theorem Cx.Ok.mF (ok : (X.wish E).Ok) : X.Ok :=
 ⟨ok.mod, ok.kind, ok.glob, ok.blt, ok.above, ok.inj, ok.has, ok.Yv, ok.hd, ok.frames, ok.stk, ok.exf, ok.bs, ok.N6, ok.IX, ok.Oo, ok.rQ, ok.Sz⟩
theorem Inv.wish (I : Q.g) (E : Q.k) : Inv (X.wish E) pins σ H s := ⟨I.ok.wish E, I.os, I.bare, I.base, I.loc, I.cell, I.free, I.mj, I.pin, I.cP, I.len⟩
theorem Inv.mF (I : Inv (X.wish E) pins σ H s) : Inv X pins σ H s := ⟨I.ok.mF, I.os, I.bare, I.base, I.loc, I.cell, I.free, I.mj, I.pin, I.cP, I.len⟩
theorem SP.mF {D : Ends} {f : Flow} {s' : Shared} (h : SP (X.wish E) pins D f s') : SP X pins D f s' := by
 cases f with
 | next => obtain ⟨σ', H', I, q⟩ := h; exact ⟨σ', H', I.mF, q⟩
 | brk => obtain ⟨σ', H', I, q⟩ := h; exact ⟨σ', H', I.mF, q⟩
 | cont => obtain ⟨σ', H', I, q⟩ := h; exact ⟨σ', H', I.mF, q⟩
 | ret u => obtain ⟨v, σ', H', I, r, q⟩ := h; exact ⟨v, σ', H', I.mF, r, q⟩
theorem Ef.Ov {st : List Stmt} {t : TS} (h : Ef X.Ov st t) : Ef X st t := fun pins s σ H D I hw =>
 aja (h pins s σ H D (I.wish _) hw) (fun _ _ q => q.mF) fun _ _ z => False.elim z
section
variable {st : Stmt} {rest : List Stmt} {t u : TS} {e : Expr} {te : TE} {pos : Pos}
def YD : TS := fun D σ H => D.nx σ H
def aci (t u : TS) : TS := fun D σ H => t { D with nx := u D } σ H
theorem Ow : Ef X [] YD := fun _ _ σ H _ I h => wpAny_execs_nil ⟨σ, H, I, h⟩
theorem IY (h1 : PS X st t) (h2 : Ef X rest u) : Ef X (st :: rest) (aci t u) := by
 intro pins s σ H D I h
 refine wpAny_execs_cons (eO (h1 pins s σ H { D with nx := u D } I h) fun f s1 q => ?_)
 cases f with
 | next =>
   obtain ⟨σ', H', I', q⟩ := q
   exact h2 pins s1 σ' H' D I' q
 | ret v => exact q
 | brk => exact q
 | cont => exact q
theorem Inv.quiet (I : Q.g) : interactive X.env = false := by simp [interactive, I.ok.kind]
def YF (te : TE) : TS := fun D σ H => te σ H fun _ H1 => D.nx σ H1
theorem yu (he : PE X e te) (hs : swapsWith e none pos.line X.env = pure false := by rfl) : PS X (.Expr e pos) (YF te) := by
 intro pins s σ H D I h
 exact wpAny_Expr_any (eO (he pins s σ H _ I h) fun v s1 ⟨x, H1, I1, r1, q1⟩ => ⟨σ, H1, I1, q1⟩) I.quiet hs
def acj (te : TE) : TS := fun D σ H => te σ H D.rt
theorem Uv (he : PE X e te) : PS X (.Return (some e) pos) (acj te) := by
 intro pins s σ H D I h
 exact wpAny_Return_some (eO (he pins s σ H _ I h) fun v s1 ⟨x, H1, I1, r1, q1⟩ => ⟨x, σ, H1, I1, r1, q1⟩)
def ack (c : TT) (t u : TS) : TS := fun D σ H => c σ H fun b H1 => if b = true then t D σ H1 else u D σ H1
theorem YG {c : Expr} {a b : List Stmt} {tc : TT} (hc : PT X c tc) (ha : Ef X a t) (hb : Ef X b u) : PS X (.If c a b pos) (ack tc t u) := by
 intro pins s σ H D I h
 refine wpAny_If (eO (hc pins s σ H _ I h) fun d s1 zz => ?_)
 obtain ⟨H1, I1, q1⟩ := zz
 cases d with
 | true => exact ha pins s1 σ H1 D I1 q1
 | false => exact hb pins s1 σ H1 D I1 q1
end
abbrev TG := V -> St -> Hp -> (St -> Hp -> Prop) -> Prop
abbrev Uw := List V -> St -> Hp -> (St -> Hp -> Prop) -> Prop
def PG (X : Cx) (target : Expr) (t : TG) : Prop :=
 ∀ (pins : Q.j) (s : Shared) (σ : St) (H : Hp) (v : V) (u : Value) (Q : St -> Hp -> Prop), Inv X pins σ H s -> RelV v u -> t v σ H Q →
   wpAny Q.f X.A (assign target X.env u) (fun _ s' => ∃ σ' H', Inv X pins σ' H' s' /\ Q σ' H') X.xe s
def PGs (X : Cx) (ts : List Expr) (t : Uw) : Prop :=
 ∀ (pins : Q.j) (s : Shared) (σ : St) (H : Hp) (vs : List V) (us : List Value) (Q : St -> Hp -> Prop), Inv X pins σ H s -> Vals vs us -> t vs σ H Q →
   wpAny Q.f X.A (assignInOrder ((assignEach ts X.env).map (·.2)) us) (fun _ s' => ∃ σ' H', Inv X pins σ' H' s' /\ Q σ' H') X.xe s
abbrev Ux := V -> V -> V -> Hp -> (Hp -> Prop) -> Prop
def YH (X : Cx) (t : Ux) : Prop :=
 ∀ (pins : Q.j) (s : Shared) (σ : St) (H : Hp) (o i v : V) (ov iv u : Value) (Q : Hp -> Prop), Inv X pins σ H s -> RelV o ov -> RelV i iv -> RelV v u -> t o i v H Q →
   wpAny Q.f X.A (setItem ov iv u) (fun _ s' => ∃ H', Inv X pins σ H' s' /\ Q H') X.xe s
variable {pos : Pos}
def sN (i : Nat) : TG := fun v σ H Q => Q (σ.set i (some v)) H
theorem jS {x : Str} (hN : X.N.Nodup) (hi : X.N[i]? = some x) (hx : Loc X.env.scope x) (hf : X.fn x = true \/ X.env.scope.names.lookup x = some .local := by first | exact .inl rfl | exact .inr rfl | assumption) : PG X (.Name x pos) (sN i) := by
 intro pins s σ H v u Q I r h
 exact wpAny_assign_Name (AW I hN hi hx r (fun s' I' => ⟨_, H, I', h⟩) hf)
def Uy : Uw := fun vs σ H Q => vs = [] /\ Q σ H
def AY (t : TG) (u : Uw) : Uw := fun vs σ H Q => ∃ v r, vs = v :: r /\ t v σ H fun σ' H' => u r σ' H' Q
theorem Eh : PGs X [] Uy := by
 intro pins s σ H vs us Q I r h
 obtain ⟨e, h⟩ := h
 subst e
 cases r
 exact assignInOrder_nil ⟨σ, H, I, h⟩
variable {es : List Expr}
theorem qj {e : Expr} {t : TG} {u : Uw} (h1 : PG X e t) (h2 : PGs X es u)
   (hs : (assignEach (e :: es) X.env).map (·.2) = assign e X.env :: (assignEach es X.env).map (·.2) := by rfl) : PGs X (e :: es) (AY t u) := by
 intro pins s σ H vs us Q I r h
 obtain ⟨v, vr, e1, h⟩ := h
 subst e1
 cases r with
 | cons r rr =>
   rw [hs]
   refine assignInOrder_cons (eO (h1 pins s σ H _ _ _ I r h) fun _ s1 zz => ?_)
   obtain ⟨σ1, H1, I1, q1⟩ := zz
   exact h2 pins s1 σ1 H1 _ _ Q I1 rr q1
def Uz (K : Q.h) (n : Nat) (t : Uw) : TG := fun v σ H Q => ∃ a xs, v = .ref a /\ kD K H a xs /\ xs.length = n /\ t xs σ H Q
variable {k : Nat}
theorem IZ {t : Uw} {n : Nat} (hc : X.calm = true) (h : PGs X es t)
   (hn : (assignEach es X.env).length = n := by rfl) (UA : (assignEach es X.env).findIdx? (·.1) = none := by rfl) : PG X (.Tuple es k pos) (Uz X.K n t) := by
 intro pins s σ H v u Q I r hw
 obtain ⟨a, xs, e1, hq, hl, hw⟩ := hw
 subst e1
 cases r
 obtain ⟨its, rv, ht, hz⟩ := I.tuple hq
 refine assign_Tuple_tuple (I.ok.hd hc) ht (by simp [hn, ← hl, rv.length]) UA fun h' hx => ?_
 have I1 : Inv X pins σ H { s with heap := h' } := I.kept (t' := s.toks) fun b o e => hx b o (aiF (aid e)) e
 exact h pins _ σ H xs _ Q I1 (by simpa using rv) hw
def acm (to ti : TE) (t : Ux) : TG := fun v σ H Q => to σ H fun o H1 => ti σ H1 fun i H2 => t o i v H2 fun H3 => Q σ H3
theorem UB {o i : Expr} {to ti : TE} {t : Ux} (ho : PE X o to) (hi : PE X i ti) (hs : YH X t)
   (ha : ∀ v, assign (.Subscript o i pos) X.env v = (do
     let ov ← holding [v] (eval o X.env)
     let iv ← holding [v, ov] (eval i X.env)
     standAt pos
     holding [v, ov, iv] (setItem ov iv v)
     release [v, ov, iv] []) := by intro _; rfl) : PG X (.Subscript o i pos) (acm to ti t) := by
 intro pins s σ H v u Q I r h
 rw [ha]
 refine ahJ (ajj (eO (ho pins s σ H _ I h) fun ov s1 zz => ?_))
 obtain ⟨x, H1, I1, r1, q1⟩ := zz
 refine ahJ (ajj (eO (hi pins s1 σ H1 _ I1 q1) fun iv s2 zz => ?_))
 obtain ⟨y, H2, I2, r2, q2⟩ := zz
 refine ahJ (wpAny_standAt (ahJ (ajj (eO (hs pins s2 σ H2 x y v ov iv u _ I2 r1 r2 r q2) fun _ s3 zz => ?_))))
 obtain ⟨H3, I3, q3⟩ := zz
 exact wpAny_release ⟨σ, H3, I3, q3⟩
def YJ (te : TE) (g : TG) : TS := fun D σ H => te σ H fun x H1 => g x σ H1 D.nx
variable {tg : Expr} {te : TE}
theorem UC {e : Expr} {g : TG} (he : PE X e te) (hg : PG X tg g) (hs : swapsWithSole [tg] e pos.line X.env = pure false := by rfl) (hw : swappedStores [tg] e X.env = pure none := by rfl)
   (h1 : (assignEach [tg] X.env).map (·.2) = [assign tg X.env] := by rfl) : PS X (.Assign [tg] e pos) (YJ te g) := by
 intro pins s σ H D I h
 refine wpAny_Assign_stores (eO (he pins s σ H _ I h) fun v s1 zz => ?_) hs hw
 obtain ⟨x, H1, I1, r1, q1⟩ := zz
 rw [h1]
 exact eO (hg pins s1 σ H1 x v _ I1 r1 q1) fun _ s2 q => q
theorem UD {x : Str} {e : Expr} {pos' : Pos} (hN : X.N.Nodup) (hi : X.N[i]? = some x) (hx : Loc X.env.scope x) (he : PE X e te) (hs : swapsWith e (some (.Name x pos')) pos.line X.env = pure false := by rfl) (hf : X.fn x = true \/ X.env.scope.names.lookup x = some .local := by first | exact .inl rfl | exact .inr rfl | assumption) :
   PS X (.Assign [.Name x pos'] e pos) (YJ te (sN i)) := by
 intro pins s σ H D I h
 refine wpAny_Assign_Name (eO (he pins s σ H _ I h) fun v s1 zz => ?_) hs
 obtain ⟨y, H1, I1, r1, q1⟩ := zz
 exact AW I1 hN hi hx r1 (fun s2 I2 => ⟨_, H1, I2, q1⟩) hf
def UE (c : TT) (tb : TS) : TS := fun D σ H => ∃ W : Nat -> St -> Hp -> Prop, (∃ m, W m σ H) /\ ∀ m σ H, W m σ H →
 c σ H fun b H1 => if b = true then ∃ N : St -> Hp -> Prop, (∀ σ' H', N σ' H' -> ∃ m', m' < m /\ W m' σ' H') /\ tb { D with nx := N, ct := N, bk := D.nx } σ H1 else D.nx σ H1
theorem I0 {c : Expr} {body : List Stmt} {tc : TT} {tb : TS} (hp : PassesOwn Q.f X.A X.env X.xe) (hc : PT X c tc) (hb : Ef X body tb) : PS X (.While c body [] pos) (UE tc tb) := by
 intro pins s σ H D I h
 obtain ⟨W, ⟨m0, w0⟩, turn⟩ := h
 refine wpAny_While (codeAny_whileLoop (fun n s' => ∃ σ' H', Inv X pins σ' H' s' /\ W n σ' H') ?_ m0 ⟨σ, H, I, w0⟩)
 rintro n s1 ⟨σ1, H1, I1, w1⟩
 refine ajC hp (eO (hc pins s1 σ1 H1 _ I1 (turn n σ1 H1 w1)) fun b s2 zz => ?_)
 obtain ⟨H2, I2, q2⟩ := zz
 cases b with
 | true =>
   obtain ⟨N, hN, q2⟩ := q2
   rw [ah7 rfl]
   refine ajC hp (eO (hb pins s2 σ1 H2 _ I2 q2) fun f s3 q3 => ?_)
   cases f with
   | next =>
     obtain ⟨σ3, H3, I3, n3⟩ := q3
     obtain ⟨m', hm, w3⟩ := hN σ3 H3 n3
     exact ⟨m', hm, σ3, H3, I3, w3⟩
   | cont =>
     obtain ⟨σ3, H3, I3, n3⟩ := q3
     obtain ⟨m', hm, w3⟩ := hN σ3 H3 n3
     exact ⟨m', hm, σ3, H3, I3, w3⟩
   | brk => exact q3
   | ret v => exact q3
 | false =>
   rw [ahX ah8]
   exact wpAny_execs_nil ⟨σ1, H2, I2, q2⟩
structure It where
 go : Nat -> Hp -> Prop
 SJ : Nat -> Hp -> V -> Hp -> Prop
 stop : Nat -> Hp -> Prop
def tG (X : Cx) (pins : Q.j) (H : Hp) (b : Addr) : Prop :=
 H b = none /\ b ≠ X.env.locals /\ b ∉ X.fs /\ (b ∈ X.ex \/ X.s₀.heap.objs.size <= b) /\ (∀ x c, X.env.cells.lookup x = some c -> c ≠ b) /\ ∀ p ∈ X.pn ++ pins, p.1 ≠ b
theorem Inv.wR (I : Q.g) (hb : s.heap.objs.size <= b) (hn : H' b = none) : tG X pins H' b := by
 refine ⟨hn, Nat.ne_of_gt (aiC I.lt hb), I.ab8 hb, .inr (aiD I.sz hb), fun x c e z => ?_, fun p hp z => ?_⟩
 . obtain ⟨v, q⟩ := I.cell x c e
   exact absurd (aiC q.lt (by rw [z]; exact hb)) (aj6 _)
 . exact absurd (aiC (aid (I.pin p hp).1) (by rw [z]; exact hb)) (aj6 _)
structure Turn (P : Program) (w : World) (K : Q.h) (tg : Expr) (J : It) (fp : List Addr) (it : Addr) (tn : Nat -> Heap -> Prop) : Prop where
 mem : it ∈ fp
 obj : ∀ i h, tn i h -> ∀ b ∈ fp, ∃ o, h.get? b = some o /\ ∀ v, o.data ≠ .cell v
 keep : ∀ i h h', tn i h -> (∀ b ∈ fp, ∀ o, h.get? b = some o -> h'.get? b = some o) -> tn i h'
 item : ∀ (X : Cx), X.prog = P -> X.w = w -> X.K = K -> X.calm = true -> ∀ (i : Nat) (pins : Q.j) (s : Shared) (σ : St) (H : Hp) (E : Q.k), Inv X pins σ H s -> (∀ b ∈ fp, tG X pins H b) -> tn i s.heap -> J.go i H →
   wpAny (model P w) X.A (pyNext (.ref it)) (fun r s1 => ∃ u, r = some u ∧
     wpAny (model P w) X.A (letOwnedTupleGo tg (.ref it) u) (fun _ s2 => ∃ x H', Inv X pins σ H' s2 /\ RelV x u /\ J.SJ i H x H' /\ tn (i + 1) s2.heap /\ ∀ b ∈ fp, H' b = none) E s1) E s
 done : ∀ (X : Cx), X.prog = P -> X.w = w -> X.K = K -> X.calm = true -> ∀ (i : Nat) (pins : Q.j) (s : Shared) (σ : St) (H : Hp) (E : Q.k), Inv X pins σ H s -> (∀ b ∈ fp, tG X pins H b) -> tn i s.heap -> J.stop i H →
   wpAny (model P w) X.A (pyNext (.ref it)) (fun r s1 => r = none /\ Inv X pins σ H s1) E s
 self : ∀ (A : Around) (i : Nat) (s : Shared) (Q : Q.k) (E : Q.k), tn i s.heap -> Q (.ref it) s -> wpAny (model P w) A (pyIter (.ref it)) Q E s
abbrev TI := St -> Hp -> (It -> Hp -> Prop) -> Prop
def YK (X : Cx) (pins : Q.j) (σ : St) (tg : Expr) (R : It -> Hp -> Prop) (itv : Value) (s2 : Shared) : Prop :=
 ∃ (it : Addr) (fp : List Addr) (tn : Nat -> Heap -> Prop) (J : It) (H' : Hp), itv = .ref it /\ Inv X pins σ H' s2 /\ Turn X.prog X.w X.K tg J fp it tn /\ tn 0 s2.heap /\ (∀ b ∈ fp, tG X pins H' b) /\ R J H'
def PI (X : Cx) (tg iter : Expr) (wi : TI) : Prop :=
 ∀ (pins : Q.j) (s : Shared) (σ : St) (H : Hp) (R : It -> Hp -> Prop), Inv X pins σ H s -> wi σ H R →
   wpAny Q.f X.A (eval iter X.env) (fun v s1 => wpAny Q.f X.A (pyIter v) (YK X pins σ tg R) X.xe s1) X.xe s
theorem Ei {it : Addr} {o : Obj} {n : String} {vs : Array Value} (ho : s.heap.get? it = some o) (hc : o.cls = .type n) (hd : o.data = .fields vs)
   (hn : ["enumerate", "zip", "dict_itemiterator", "dict_reverseitemiterator", "odict_iterator", "itertools.zip_longest", "itertools.pairwise"].contains n = false) (hQ : Q () s) : wpAny M A (letOwnedTupleGo tg (.ref it) u) Q E s := by
 unfold letOwnedTupleGo
 cases tg <;> first
   | exact ahO hQ
   | (cases u <;> first
       | exact ahO hQ
       | (refine ahJ (wpAny_load ho ?_)
          rw [hc, hd]
          show wpAny M A (if (["enumerate", "zip", "dict_itemiterator", "dict_reverseitemiterator", "odict_iterator", "itertools.zip_longest", "itertools.pairwise"].contains n && vs[0]? == some (rawInt _)) = true then _ else _) Q E s
          rw [ahX (by intro h; rw [hn, Bool.false_and] at h; cases h)]
          exact ahO hQ))
def Itl (K : Q.h) (a : Addr) : It :=
 ⟨fun i H => ∃ xs x, kZ K H a xs /\ xs[i]? = some x, fun i H x H' => H' = H /\ ∀ xs, kZ K H a xs -> xs[i]? = some x, fun i H => ∃ xs, kZ K H a xs /\ xs.length <= i⟩
def Itt (K : Q.h) (a : Addr) : It :=
 ⟨fun i H => ∃ xs x, kD K H a xs /\ xs[i]? = some x, fun i H x H' => H' = H /\ ∀ xs, kD K H a xs -> xs[i]? = some x, fun i H => ∃ xs, kD K H a xs /\ xs.length <= i⟩
def Itr (lo : Int) (n : Nat) : It := ⟨fun i _ => i < n, fun i H x H' => H' = H /\ x = .int (lo + i), fun i _ => n <= i⟩
theorem Gd (a it : Addr) : Turn P w K tg (Itl K a) [it] it (fun i h => h.IsListIter it a i) where
 mem := by simp
 obj := fun i h st b hb => by
   have e : b = it := by simpa using hb
   subst e
   obtain ⟨o, e, c, d⟩ := st
   exact ⟨o, e, fun v z => by rw [d] at z; cases z⟩
 keep := fun i h h' st k => st.at fun o e => k it (by simp) o e
 item := by
   intro X hP hw hK hc i pins s σ H E I hf st hg
   subst hP hw hK
   obtain ⟨xs, x, hq, hx⟩ := hg
   obtain ⟨its, rv, p, hz⟩ := I.list hq
   obtain ⟨u, hu, ru⟩ := rv.get hx
   obtain ⟨f0, f1, f2, f3, f4, f5⟩ := hf it (by simp)
   refine wpAny_pyNext_list_item st p.isList (x := u) (by simpa using hu) fun h' Ja sb => ?_
   have I1 : Inv X pins σ H { s with heap := h' } := I.turned (t' := s.toks) (fun b o hb e => (sb.2 b hb).trans e) f0 f1 f3 f4 f5
   obtain ⟨o, e, c, d⟩ := id Ja
   exact ⟨u, rfl, Ei (s := { s with heap := h' }) e c d Q.c ⟨x, H, I1, ru, ⟨rfl, fun ys hy => by rw [I.AX hy hq]; exact hx⟩, Ja, fun b hb => (hf b hb).1⟩⟩
 done := by
   intro X hP hw hK hc i pins s σ H E I hf st hg
   subst hP hw hK
   obtain ⟨xs, hq, hx⟩ := hg
   obtain ⟨its, rv, p, hz⟩ := I.list hq
   obtain ⟨f0, f1, f2, f3, f4, f5⟩ := hf it (by simp)
   have hl := rv.length
   exact wpAny_pyNext_list_end (I.ok.hd hc) st p.isList (by simp; omega) fun h' eb => ⟨rfl, I.turned (t' := s.toks) (fun b o hb e => eb b o hb e) f0 f1 f3 f4 f5⟩
 self := fun _ _ _ _ _ st h => wpAny_pyIter_listiter st h
theorem B9 (a it : Addr) : Turn P w K tg (Itt K a) [it] it (fun i h => h.IsTupleIter it a i) where
 mem := by simp
 obj := fun i h st b hb => by
   have e : b = it := by simpa using hb
   subst e
   obtain ⟨o, e, c, d⟩ := st
   exact ⟨o, e, fun v z => by rw [d] at z; cases z⟩
 keep := fun i h h' st k => st.at fun o e => k it (by simp) o e
 item := by
   intro X hP hw hK hc i pins s σ H E I hf st hg
   subst hP hw hK
   obtain ⟨xs, x, hq, hx⟩ := hg
   obtain ⟨its, rv, p, hz⟩ := I.tuple hq
   obtain ⟨u, hu, ru⟩ := rv.get hx
   obtain ⟨f0, f1, f2, f3, f4, f5⟩ := hf it (by simp)
   refine wpAny_pyNext_tuple_item st (show s.heap.IsTuple a its.toArray from p) (x := u) (by simpa using hu) fun h' Ja sb => ?_
   have I1 : Inv X pins σ H { s with heap := h' } := I.turned (t' := s.toks) (fun b o hb e => (sb.2 b hb).trans e) f0 f1 f3 f4 f5
   obtain ⟨o, e, c, d⟩ := id Ja
   exact ⟨u, rfl, Ei (s := { s with heap := h' }) e c d Q.c ⟨x, H, I1, ru, ⟨rfl, fun ys hy => by rw [I.Gb hy hq]; exact hx⟩, Ja, fun b hb => (hf b hb).1⟩⟩
 done := by
   intro X hP hw hK hc i pins s σ H E I hf st hg
   subst hP hw hK
   obtain ⟨xs, hq, hx⟩ := hg
   obtain ⟨its, rv, p, hz⟩ := I.tuple hq
   obtain ⟨f0, f1, f2, f3, f4, f5⟩ := hf it (by simp)
   have hl := rv.length
   exact wpAny_pyNext_tuple_end (I.ok.hd hc) st (show s.heap.IsTuple a its.toArray from p) (by simp; omega) fun h' eb => ⟨rfl, I.turned (t' := s.toks) (fun b o hb e => eb b o hb e) f0 f1 f3 f4 f5⟩
 self := fun _ _ _ _ _ st h => wpAny_pyIter_tupleiter st h
theorem Ca (it : Addr) (lo : Int) (n : Nat) : Turn P w K tg (Itr lo n) [it] it (fun i h => IsRangeIter h it (lo + (i : Nat) * 1) ((n : Int) - (i : Nat)) 1) where
 mem := by simp
 obj := fun i h st b hb => by
   have e : b = it := by simpa using hb
   subst e
   exact ⟨_, st, fun v z => by
     have z' : Data.fields _ = Data.cell v := z
     cases z'⟩
 keep := fun i h h' st k => k it (by simp) _ st
 item := by
   intro X hP hw hK hc i pins s σ H E I hf st hg
   subst hP hw hK
   obtain ⟨f0, f1, f2, f3, f4, f5⟩ := hf it (by simp)
   have W := Walks.range (prog := X.prog) (w := X.w) (I.ok.hd hc) it lo 1 n
   refine W.item i s _ _ hg st fun v h' tk hv Ja kk => ?_
   obtain ⟨t, rfl⟩ := hv
   have I1 : Inv X pins σ H { s with heap := h', toks := tk } := I.turned (fun b o hb e => kk b o (by simpa using hb) e) f0 f1 f3 f4 f5
   refine ⟨_, rfl, Ei (s := { s with heap := h', toks := tk }) (n := "range_iterator") Ja rfl rfl Q.c ⟨.int (lo + i), H, I1, ⟨t, ?_⟩, ⟨rfl, rfl⟩, Ja, fun b hb => (hf b hb).1⟩⟩
   rw [Int.mul_one]
 done := by
   intro X hP hw hK hc i pins s σ H E I hf st hg
   subst hP hw hK
   obtain ⟨f0, f1, f2, f3, f4, f5⟩ := hf it (by simp)
   exact wpAny_pyNext_range_end (I.ok.hd hc) st (by have : n <= i := hg; omega) fun h' eb => ⟨rfl, I.turned (t' := s.toks) (fun b o hb e => eb b o hb e) f0 f1 f3 f4 f5⟩
 self := fun _ _ _ _ _ st h => wpAny_pyIter_rangeiter st h
def YL (K : Q.h) (tl : TE) : TI := fun σ H R => tl σ H fun x H1 => ∃ a, x = .ref a /\ (∃ xs, kZ K H1 a xs) /\ R (Itl K a) H1
def aco (K : Q.h) (tl : TE) : TI := fun σ H R => tl σ H fun x H1 => ∃ a, x = .ref a /\ (∃ xs, kD K H1 a xs) /\ R (Itt K a) H1
theorem Ox {l : Expr} {tl : TE} (hl : PE X l tl) : PI X tg l (YL X.K tl) := by
 intro pins s σ H R I h
 refine eO (hl pins s σ H _ I h) fun v s1 zz => ?_
 obtain ⟨x, H1, I1, r1, q1⟩ := zz
 obtain ⟨a, e, ⟨xs, hq⟩, q⟩ := q1
 subst e
 cases r1
 obtain ⟨its, rv, p, hz⟩ := I1.list hq
 refine wpAny_pyIter_list p.isList ?_
 refine ⟨s1.heap.objs.size, [s1.heap.objs.size], _, _, H1, rfl, I1.kept (t' := s1.toks) fun b o e => ah5 _ e, Gd a _, ⟨_, aif _ rfl, rfl, rfl⟩, fun b hb => ?_, q⟩
 have e : b = s1.heap.objs.size := by simpa using hb
 subst e
 exact I1.wR (ah0 _) (I1.cP.fresh (ah0 _))
theorem UG {l : Expr} {tl : TE} (hl : PE X l tl) : PI X tg l (aco X.K tl) := by
 intro pins s σ H R I h
 refine eO (hl pins s σ H _ I h) fun v s1 zz => ?_
 obtain ⟨x, H1, I1, r1, q1⟩ := zz
 obtain ⟨a, e, ⟨xs, hq⟩, q⟩ := q1
 subst e
 cases r1
 obtain ⟨its, rv, p, hz⟩ := I1.tuple hq
 refine wpAny_pyIter_tuple (show s1.heap.IsTuple a its.toArray from p) ?_
 refine ⟨s1.heap.objs.size, [s1.heap.objs.size], _, _, H1, rfl, I1.kept (t' := s1.toks) fun b o e => ah5 _ e, B9 a _, ⟨_, aif _ rfl, rfl, rfl⟩, fun b hb => ?_, q⟩
 have e : b = s1.heap.objs.size := by simpa using hb
 subst e
 exact I1.wR (ah0 _) (I1.cP.fresh (ah0 _))
theorem Jb {R : It -> Hp -> Prop} {lo hi : Int} {t u v : Tok} {tk : Nat} (I : Q.g) (h1 : -(2 ^ 62) <= lo) (h2 : lo < 2 ^ 62) (h3 : -(2 ^ 62) <= hi) (h4 : hi < 2 ^ 62)
   (q : R (Itr lo (hi - lo).toNat) H) : wpAny Q.f X.A (pyIter (.ref s.heap.objs.size)) (YK X pins σ tg R) E { s with heap := s.heap.push { cls := .type "range", data := .fields #[.int lo t, .int hi u, .int 1 v] }, toks := tk } := by
 refine wpAny_pyIter_range (IsRange.new ..) (small_one h1 h2 h3 h4) ?_
 have I1 : Inv X pins σ H { s with heap := s.heap.push { cls := .type "range", data := .fields #[.int lo t, .int hi u, .int 1 v] }, toks := tk } := I.kept fun b o e => ah5 _ e
 refine ⟨(s.heap.push { cls := .type "range", data := .fields #[.int lo t, .int hi u, .int 1 v] }).objs.size, [(s.heap.push { cls := .type "range", data := .fields #[.int lo t, .int hi u, .int 1 v] }).objs.size], _, _, H, rfl,
   I1.kept (t' := tk) fun b o e => ah5 _ e, Ca _ lo (hi - lo).toNat, ?_, fun b hb => ?_, q⟩
 . have e1 : lo + ((0 : Nat) : Int) * 1 = lo := by simp
   have e2 : (((hi - lo).toNat : Nat) : Int) - ((0 : Nat) : Int) = Builtin.Range.rangeSize lo hi 1 := by rw [rangeSize_one]; split <;> omega
   show IsRangeIter _ _ (lo + ((0 : Nat) : Int) * 1) ((((hi - lo).toNat : Nat) : Int) - ((0 : Nat) : Int)) 1
   rw [e1, e2]
   exact aif _ rfl
 . have e : b = (s.heap.push { cls := .type "range", data := .fields #[.int lo t, .int hi u, .int 1 v] }).objs.size := by simpa using hb
   subst e
   exact I1.wR (ah0 _) (I1.cP.fresh (ah0 _))
def YM (ta : TA) : TI := fun σ H R => ta σ H fun vs H1 => ∃ j : Int, vs = [.int j] /\ -(2 ^ 62) <= j /\ j < 2 ^ 62 /\ R (Itr 0 j.toNat) H1
theorem Ge {a : Expr} {ta : TA} {p : Pos} (hg : Gl X "range") (hm : X.mg "range" = none) (ha : PA X [a] ta) (hs : starEach [a] X.env = [(false, eval a X.env)] := by rfl) : PI X tg (.Call (.Name "range" p) [a] [] pos) (YM ta) := by
 intro pins s σ H R I h
 refine Call_ (uW I hg hm boot_range (aj3 (eO (ha pos pins s σ H _ I h) fun us s1 zz => ?_) hs rfl))
 obtain ⟨vs, H1, I1, r1, q1⟩ := zz
 obtain ⟨j, e, q1, q2, q⟩ := q1
 subst e
 cases r1 with
 | cons r rr =>
   cases rr
   obtain ⟨t, rfl⟩ := r
   exact call_range_1 (Jb I1 Q.a Q.a q1 q2 (by simpa using q))
def acp (wi : TI) (g : TG) (tb : TS) : TS := fun D σ H => wi σ H fun J H1 => ∃ W : Nat -> Nat -> St -> Hp -> Prop, (∃ m, W 0 m σ H1) /\ ∀ i m σ H, W i m σ H →
 (J.stop i H /\ D.nx σ H) \/ (J.go i H /\ ∃ N : St -> Hp -> Prop, (∀ σ' H', N σ' H' -> ∃ m', m' < m /\ W (i + 1) m' σ' H') /\ ∀ x H', J.SJ i H x H' -> g x σ H' fun σ2 H2 => tb { D with nx := N, ct := N, bk := D.nx } σ2 H2)
def uX (fp : List Addr) (h : Heap) : List (Addr × Obj) := fp.filterMap fun b => (h.get? b).map fun o => (b, o)
theorem k6 {fp : List Addr} {o : Obj} (hb : b ∈ fp) (e : h.get? b = some o) : (b, o) ∈ uX fp h := List.mem_filterMap.mpr ⟨b, hb, by rw [e]; rfl⟩
theorem Gf {fp : List Addr} {p : Addr × Obj} (hp : p ∈ uX fp h) : p.1 ∈ fp /\ h.get? p.1 = some p.2 := by
 obtain ⟨b, hb, e⟩ := List.mem_filterMap.mp hp
 cases q : h.get? b with
 | none => rw [q] at e; cases e
 | some o =>
   rw [q] at e
   have e' : (b, o) = p := aie e
   subst e'
   exact ⟨hb, q⟩
theorem Inv.pinned {fp : List Addr} (I : Q.g) (hf : ∀ b ∈ fp, tG X pins H b) (ho : ∀ b ∈ fp, ∃ o, s.heap.get? b = some o /\ ∀ v, o.data ≠ .cell v) : Inv X (pins ++ uX fp s.heap) σ H s :=
 I.tU fun p hp => (ahZ.mp hp).elim (fun z => I.pin p (ahM _ z)) fun z => by
   obtain ⟨hb, e⟩ := Gf z
   obtain ⟨f0, f1, f2, _⟩ := hf p.1 hb
   obtain ⟨o, e', d⟩ := ho p.1 hb
   rw [e] at e'; cases e'
   exact ⟨e, f0, f1, f2, d⟩
theorem Inv.qk {pl : Q.j} (I : Inv X (pins ++ pl) σ H s) : Inv X pins σ H s := I.tU fun p hp => I.pin p (ahM _ (ahR _ hp))
theorem yw {iter : Expr} {body : List Stmt} {wi : TI} {g : TG} {tb : TS} (hp : PassesOwn Q.f X.A X.env X.xe) (hc : X.calm = true) (hi : PI X tg iter wi) (hg : PG X tg g) (hb : Ef X body tb)
   (hs : ∀ x, foldedSetIterable iter X.env x = pure x := by intro _; rfl) : PS X (.For tg iter body [] pos) (acp wi g tb) := by
 intro pins s σ H D I h
 refine wpAny_For (eO (hi pins s σ H _ I h) fun v s1 h1 => eO h1 fun itv s2 h2 => ?_) hs
 obtain ⟨it, fp, tn, J, H2, e, I2, T, st2, f2, W, ⟨m0, w0⟩, turn⟩ := h2
 subst e
 have stat : ∀ {H' : Hp}, (∀ b ∈ fp, H' b = none) -> ∀ b ∈ fp, tG X pins H' b := fun hn b hb => ⟨hn b hb, (f2 b hb).2⟩
 refine codeAny_forLoop_any (fun n s' => ∃ i σ' H', Inv X pins σ' H' s' /\ tn i s'.heap /\ (∀ b ∈ fp, H' b = none) /\ W i n σ' H') ?_ m0 ⟨0, σ, H2, I2, st2, fun b hb => (f2 b hb).1, w0⟩
 rintro n s3 ⟨i, σ3, H3, I3, YN, fr3, w3⟩
 rcases turn i n σ3 H3 w3 with ⟨stop, qn⟩ | ⟨go, N, hN, step⟩
 . refine ajC hp (eO (T.done X rfl rfl rfl hc i pins s3 σ3 H3 X.xe I3 (stat fr3) YN stop) fun r s4 zz => ?_)
   obtain ⟨hr, I4⟩ := zz
   subst hr
   exact wpAny_execs_nil ⟨σ3, H3, I4, qn⟩
 . refine ajC hp (eO (T.item X rfl rfl rfl hc i pins s3 σ3 H3 X.xe I3 (stat fr3) YN go) fun r s4 zz => ?_)
   obtain ⟨u, hr, h4⟩ := zz
   subst hr
   refine ajC hp (eO h4 fun _ s5 zz => ?_)
   obtain ⟨x, H5, I5, r5, y5, Yc, fr5⟩ := zz
   have I5' := I5.pinned (stat fr5) (T.obj _ _ Yc)
   refine ajC hp (eO (hg _ s5 σ3 H5 x u _ I5' r5 (step x H5 y5)) fun _ s6 zz => ?_)
   obtain ⟨σ6, H6, I6, q6⟩ := zz
   refine ajC hp (eO (hb _ s6 σ6 H6 _ I6 q6) fun f s7 q7 => ?_)
   have again : ∀ {σ7 : St} {H7 : Hp}, Inv X (pins ++ uX fp s5.heap) σ7 H7 s7 -> N σ7 H7 -> ∃ m, m < n /\ ∃ i σ' H', Inv X pins σ' H' s7 /\ tn i s7.heap /\ (∀ b ∈ fp, H' b = none) /\ W i m σ' H' := fun {σ7 H7} I7 n7 => by
     obtain ⟨m', hm, w7⟩ := hN σ7 H7 n7
     refine ⟨m', hm, i + 1, σ7, H7, I7.qk, T.keep _ _ _ Yc fun b hb o e => (I7.pin (b, o) (ahM _ (ahM _ (k6 hb e)))).1, fun b hb => ?_, w7⟩
     obtain ⟨o, e, d⟩ := T.obj _ _ Yc b hb
     exact (I7.pin (b, o) (ahM _ (ahM _ (k6 hb e)))).2.1
   cases f with
   | next => obtain ⟨σ7, H7, I7, n7⟩ := q7; exact again I7 n7
   | cont => obtain ⟨σ7, H7, I7, n7⟩ := q7; exact again I7 n7
   | brk => obtain ⟨σ7, H7, I7, q7⟩ := q7; exact ⟨σ7, H7, I7.qk, q7⟩
   | ret v => obtain ⟨x7, σ7, H7, I7, r7, q7⟩ := q7; exact ⟨x7, σ7, H7, I7.qk, r7, q7⟩
abbrev R2 := V -> V -> Hp -> VK -> Prop
def rM (X : Cx) (f : Value -> Value -> Sem Value) (r : R2) : Prop :=
 ∀ (pins : Q.j) (s : Shared) (σ : St) (H : Hp) (x y : V) (v u : Value) (Q : VK), Inv X pins σ H s -> RelV x v -> RelV y u -> r x y H Q →
   wpAny Q.f X.A (f v u) (EP X pins σ Q) X.xe s
def UnR (X : Cx) (f : Value -> Sem Value) (r : V -> Hp -> VK -> Prop) : Prop :=
 ∀ (pins : Q.j) (s : Shared) (σ : St) (H : Hp) (x : V) (v : Value) (Q : VK), Inv X pins σ H s -> RelV x v -> r x H Q →
   wpAny Q.f X.A (f v) (EP X pins σ Q) X.xe s
def g8 (X : Cx) (f : Value) (r : List V -> Hp -> VK -> Prop) : Prop :=
 ∀ (pins : Q.j) (s : Shared) (σ : St) (H : Hp) (xs : List V) (us : List Value) (Q : VK), Inv X pins σ H s -> Vals xs us -> r xs H Q →
   wpAny Q.f X.A (call f us) (EP X pins σ Q) X.xe s
def tOp (r : R2) (ta tb : TE) : TE := fun σ H Q => ta σ H fun x H1 => tb σ H1 fun y H2 => r x y H2 Q
def tUn (r : V -> Hp -> VK -> Prop) (ta : TE) : TE := fun σ H Q => ta σ H fun x H1 => r x H1 Q
def rI (C : Int -> Int -> Prop) (g : Int -> Int -> V) : R2 := fun x y H Q => ∃ i j, x = .int i /\ y = .int j /\ C i j /\ Q (g i j) H
def Yd (g : Int -> Int -> V) : R2 := fun x y H Q => ∃ i j, x = .int i /\ y = .int j /\ Q (g i j) H
def rU (g : Int -> V) : V -> Hp -> VK -> Prop := fun x H Q => ∃ i, x = .int i /\ Q (g i) H
variable {a b : Expr} {ta tb : TE} {f : Value -> Value -> Sem Value}
theorem UH (ha : PE X a ta) (hb : PE X b tb) {R : V -> V -> Hp -> Prop} (I : Q.g)
   (h : ta σ H fun x H1 => tb σ H1 fun y H2 => R x y H2) {Q : Q.k}
   (hf : ∀ v u s2 x y H2, Inv X pins σ H2 s2 -> RelV x v -> RelV y u -> R x y H2 -> wpAny Q.f X.A (f v u) Q X.xe s2) :
   wpAny Q.f X.A (eval a X.env) (fun v s₁ => wpAny Q.f X.A (eval b X.env) (fun u s₂ => wpAny Q.f X.A (f v u) Q X.xe s₂) X.xe s₁) X.xe s := by
 refine eO (ha pins s σ H _ I h) fun v s1 zz => ?_
 obtain ⟨x, H1, I1, r1, q1⟩ := zz
 refine eO (hb pins s1 σ H1 _ I1 q1) fun u s2 zz => ?_
 obtain ⟨y, H2, I2, r2, q2⟩ := zz
 exact hf v u s2 x y H2 I2 r1 r2 q2
theorem uY {op : Operator} {r : R2} (ho : rM X (binaryOp op) r) (ha : PE X a ta) (hb : PE X b tb) : PE X (.BinOp a op b pos) (tOp r ta tb) := by
 intro pins s σ H Q I h
 exact wpAny_BinOp (UH ha hb I h fun v u s2 x y H2 I2 rx ry q => ho pins s2 σ H2 x y v u Q I2 rx ry q)
theorem YQ {op : UnaryOp} {r : V -> Hp -> VK -> Prop} (ho : UnR X (unaryOp op) r) (ha : PE X a ta) : PE X (.UnaryOp op a pos) (tUn r ta) := by
 intro pins s σ H Q I h
 exact UnaryOp_ (eO (ha pins s σ H _ I h) fun v s1 ⟨x, H1, I1, r1, q1⟩ => ho pins s1 σ H1 x v Q I1 r1 q1)
theorem opI {C : Int -> Int -> Prop} {g : Int -> Int -> Int}
   (rule : ∀ (i j : Int) (t u : Tok) (s : Shared) (Q : Q.k) (E : Q.k), C i j -> Q (.int (g i j) s.toks) { s with toks := s.toks + 1 } -> wpAny Q.f X.A (f (.int i t) (.int j u)) Q E s) :
   rM X f (rI C fun i j => .int (g i j)) := by
 intro pins s σ H x y v u Q I rx ry h
 obtain ⟨i, j, rfl, rfl, hc, q⟩ := h
 obtain ⟨t, rfl⟩ := rx
 obtain ⟨t', rfl⟩ := ry
 exact rule i j t t' s _ _ hc ⟨.int (g i j), H, I.tok _, ⟨_, rfl⟩, q⟩
theorem YR {g : Int -> Int -> Int}
   (rule : ∀ (i j : Int) (t u : Tok) (s : Shared) (Q : Q.k) (E : Q.k), Q (.int (g i j) s.toks) { s with toks := s.toks + 1 } -> wpAny Q.f X.A (f (.int i t) (.int j u)) Q E s) :
   rM X f (Yd fun i j => .int (g i j)) := by
 intro pins s σ H x y v u Q I rx ry h
 obtain ⟨i, j, rfl, rfl, q⟩ := h
 obtain ⟨t, rfl⟩ := rx
 obtain ⟨t', rfl⟩ := ry
 exact rule i j t t' s _ _ ⟨.int (g i j), H, I.tok _, ⟨_, rfl⟩, q⟩
theorem YS {g : Int -> Int -> Bool}
   (rule : ∀ (i j : Int) (t u : Tok) (s : Shared) (Q : Q.k) (E : Q.k), Q (.bool (g i j)) s -> wpAny Q.f X.A (f (.int i t) (.int j u)) Q E s) :
   rM X f (Yd fun i j => .bl (g i j)) := by
 intro pins s σ H x y v u Q I rx ry h
 obtain ⟨i, j, rfl, rfl, q⟩ := h
 obtain ⟨t, rfl⟩ := rx
 obtain ⟨t', rfl⟩ := ry
 exact rule i j t t' s _ _ ⟨.bl (g i j), H, I, rfl, q⟩
def YT (i j : Int) : Prop := 0 < j /\ j < 1073741824
def YV (i j : Int) : Prop := 0 <= j /\ j <= 1000000 /\ i.natAbs < 2 ^ 64
def Oz (i j : Int) : Prop := (-(2 ^ 64) < i /\ i < 2 ^ 64) \/ (-(2 ^ 64) < j /\ j < 2 ^ 64)
theorem Oz.ok {i j : Int} (h : Oz i j) : IntMulOk i j := by
 rcases h with ⟨h1, h2⟩ | ⟨h1, h2⟩
 . exact .of_left (intBits_le_64 h1 h2)
 . exact .of_right (intBits_le_64 h1 h2)
theorem UI : rM X (binaryOp .Add) (Yd fun i j => .int (i + j)) := YR fun _ _ _ _ _ _ _ q => add_int q
theorem UJ : rM X (binaryOp .Sub) (Yd fun i j => .int (i - j)) := YR fun _ _ _ _ _ _ _ q => sub_int q
theorem UK : rM X (binaryOp .Mult) (rI Oz fun i j => .int (i * j)) := opI fun _ _ _ _ _ _ _ hc q => mul_int q hc.ok
theorem OB : rM X (binaryOp .FloorDiv) (rI YT fun i j => .int (i / j)) := opI fun i j _ _ _ _ _ hc q => by
 have h1 : (0 : Int) < j := hc.1
 have h2 : j < 1073741824 := hc.2
 exact floordiv_int Q.a (by rw [Int.fdiv_eq_ediv_of_nonneg i Q.a]; exact q) (.inl (PyProof.noPylong_small Q.a))
theorem UL : rM X (binaryOp .Mod) (rI (fun _ j => 0 < j) fun i j => .int (i % j)) := opI fun i j _ _ _ _ _ hc q => by
 have h1 : (0 : Int) < j := hc
 exact mod_int' Q.a (by rw [Int.fmod_eq_emod_of_nonneg i Q.a]; exact q)
theorem UM : rM X (binaryOp .Pow) (rI YV fun i j => .int (i ^ j.toNat)) := opI fun _ _ _ _ _ _ _ hc q => pow_int_small hc.1 hc.2.1 hc.2.2 q
theorem unI {f : Value -> Sem Value} {g : Int -> Int}
   (rule : ∀ (i : Int) (t : Tok) (s : Shared) (Q : Q.k) (E : Q.k), Q (.int (g i) s.toks) { s with toks := s.toks + 1 } -> wpAny Q.f X.A (f (.int i t)) Q E s) :
   UnR X f (rU fun i => .int (g i)) := by
 intro pins s σ H x v Q I rx h
 obtain ⟨i, rfl, q⟩ := h
 obtain ⟨t, rfl⟩ := rx
 exact rule i t s _ _ ⟨.int (g i), H, I.tok _, ⟨_, rfl⟩, q⟩
theorem UN : UnR X (unaryOp .USub) (rU fun i => .int (-i)) := unI fun _ _ _ _ _ q => neg_int q
def acr : V -> V -> Bool
 | .non, .non => true | .non, .int _ => true | .int _, .non => true | .non, .bl _ => true | .bl _, .non => true | .non, .str _ => true | .str _, .non => true
 | .int _, .int _ => true | .bl _, .bl _ => true | .str _, .str _ => true | .N5 _, .N5 _ => true
 | .int _, .str _ => true | .str _, .int _ => true | .bl _, .str _ => true | .str _, .bl _ => true
 | _, _ => false
def rEq : R2 := fun x y H Q => acr x y = true /\ Q (.bl (decide (x = y))) H
theorem OD {i j : Int} : decide (V.int i = V.int j) = (i == j) := by
 rw [aka]
 simp
theorem UO {i j : Bool} : decide (V.bl i = V.bl j) = (i == j) := by
 rw [aka]
 simp
theorem OG {i j : Str} : decide (V.str i = V.str j) = (i == j) := by
 rw [aka]
 simp
theorem OI {i j : Array UInt8} : decide (V.N5 i = V.N5 j) = (i.toList == j.toList) := by
 rw [aka]
 cases i
 cases j
 simp
variable {c : Expr}
theorem gk {Q : VK} {k k' : Bool} (I : Q.g) (q : Q (.bl k) H) (e : k = k') : EP X pins σ Q (.bool k') s := by
 subst e
 exact ⟨.bl k, H, I, rfl, q⟩
theorem YW : rM X (compareOp .Eq) rEq := by
 intro pins s σ H x y v u Q I rx ry h
 obtain ⟨hs, q⟩ := h
 cases x with
 | non =>
   cases rx
   cases y with
   | non => cases ry; exact PySem.EqNone.eq_none_none (gk I q (by simp))
   | bl j => cases ry; exact PySem.EqNone.eq_none_bool (gk I q (by simp))
   | int j => obtain ⟨t', rfl⟩ := ry; exact PySem.EqNone.eq_none_int (gk I q (by simp))
   | str j => obtain ⟨t', rfl⟩ := ry; exact PySem.EqNone.eq_none_str (gk I q (by simp))
   | _ => exact absurd (show false = true from hs) ah8
 | bl i =>
   cases rx
   cases y with
   | non => cases ry; exact PySem.EqNone.eq_bool_none (gk I q (by simp))
   | bl j => cases ry; exact eq_bool (gk I q UO)
   | str j => obtain ⟨t', rfl⟩ := ry; exact PySem.EqMixed.eq_bool_str (gk I q (by simp))
   | _ => exact absurd (show false = true from hs) ah8
 | int i =>
   obtain ⟨t, rfl⟩ := rx
   cases y with
   | non => cases ry; exact PySem.EqNone.eq_int_none (gk I q (by simp))
   | int j => obtain ⟨t', rfl⟩ := ry; exact eq_int (gk I q OD)
   | str j => obtain ⟨t', rfl⟩ := ry; exact PySem.EqMixed.eq_int_str (gk I q (by simp))
   | _ => exact absurd (show false = true from hs) ah8
 | str i =>
   obtain ⟨t, rfl⟩ := rx
   cases y with
   | non => cases ry; exact PySem.EqNone.eq_str_none (gk I q (by simp))
   | bl j => cases ry; exact PySem.EqMixed.eq_str_bool (gk I q (by simp))
   | int j => obtain ⟨t', rfl⟩ := ry; exact PySem.EqMixed.eq_str_int (gk I q (by simp))
   | str j => obtain ⟨t', rfl⟩ := ry; exact eq_str (gk I q OG)
   | _ => exact absurd (show false = true from hs) ah8
 | N5 i =>
   obtain ⟨t, rfl⟩ := rx
   cases y with
   | N5 j => obtain ⟨t', rfl⟩ := ry; exact PySem.W.eq_bytes (gk I q OI)
   | _ => exact absurd (show false = true from hs) ah8
 | _ => cases y <;> exact absurd (show false = true from hs) ah8
theorem YX : rM X (compareOp .Lt) (Yd fun i j => .bl (decide (i < j))) := YS fun _ _ _ _ _ _ _ q => lt_int q
theorem YY : rM X (compareOp .Gt) (Yd fun i j => .bl (decide (j < i))) := YS fun _ _ _ _ _ _ _ q => gt_int q
theorem pL (b : Expr) {op : CmpOp} (h : op ≠ .In := by decide) (h2 : op ≠ .NotIn := by decide) : behindInMarks op b = false := by
 have e1 : (op == CmpOp.In) = false := by cases op <;> first | rfl | exact absurd rfl h
 have e2 : (op == CmpOp.NotIn) = false := by cases op <;> first | rfl | exact absurd rfl h2
 cases b <;> simp [behindInMarks, e1, e2]
theorem qm {op : CmpOp} {r : R2} (ho : rM X (compareOp op) r) (ha : PE X a ta) (hb : PE X b tb) (hm : behindInMarks op b = false) : PE X (.Compare a [op] [b] pos) (tOp r ta tb) := by
 intro pins s σ H Q I h
 exact wpAny_Compare1 (UH ha hb I h fun v u s2 x y H2 I2 rx ry q => ho pins s2 σ H2 x y v u Q I2 rx ry q) hm
def YZ (t : TE) : TT := fun σ H Q => t σ H fun x H' => ∃ k, x = .bl k /\ Q k H'
theorem qo {op : CmpOp} {r : R2} (ho : rM X (compareOp op) r) (ha : PE X a ta) (hb : PE X b tb) (hm : behindInMarks op b = false) : PT X (.Compare a [op] [b] pos) (YZ (tOp r ta tb)) := by
 intro pins s σ H Q I h
 refine wpAny_isTrue_Compare1 (eO (ha pins s σ H _ I h) fun v s1 ⟨x, H1, I1, r1, q1⟩ => eO (hb pins s1 σ H1 _ I1 q1) fun u s2 ⟨y, H2, I2, r2, q2⟩ =>
   eO (ho pins s2 σ H2 x y v u _ I2 r1 r2 q2) fun c s3 ⟨z, H3, I3, r3, k, e, q3⟩ => ?_) hm
 subst e
 cases r3
 exact akn ⟨H3, I3, q3⟩
theorem uZ : (sizeLine : Nat) < 2 ^ 63 := by rw [aic]; decide
theorem Cb : rM X (binaryOp .Add) (fun x y H Q => ∃ i j, x = .str i /\ y = .str j /\ i.length + j.length <= sizeLine /\ Q (.str (i ++ j)) H) := by
 intro pins s σ H x y v u Q I rx ry h
 obtain ⟨i, j, rfl, rfl, hz, q⟩ := h
 obtain ⟨t, rfl⟩ := rx
 obtain ⟨t', rfl⟩ := ry
 exact add_str (fun t' tk => ⟨.str (i ++ j), H, I.tok _, ⟨_, rfl⟩, q⟩) hz
theorem vals1 {x : V} (r : Vals [x] us) : ∃ u, us = [u] /\ RelV x u := by
 cases r with
 | cons r1 r2 => cases r2; exact ⟨_, rfl, r1⟩
theorem vals2 {x y : V} (r : Vals [x, y] us) : ∃ u w', us = [u, w'] /\ RelV x u /\ RelV y w' := by
 cases r with
 | cons r1 r2 =>
   cases r2 with
   | cons r3 r4 => cases r4; exact ⟨_, _, rfl, r1, r3⟩
theorem Gg (hc : X.calm = true) : g8 X (.builtin "max") (fun xs H Q => ∃ i j, xs = [.int i, .int j] /\ Q (.int (if j > i then j else i)) H) := by
 intro pins s σ H xs us Q I r h
 obtain ⟨i, j, rfl, q⟩ := h
 obtain ⟨u, w', rfl, ⟨t, rfl⟩, ⟨t', rfl⟩⟩ := vals2 r
 refine max_two_ints (I.ok.hd hc) fun h' tk k => ⟨_, H, I.kept k, ?_, q⟩
 by_cases hj : j > i
 . rw [ah7 hj, ah7 hj]; exact ⟨_, rfl⟩
 . rw [ahX hj, ahX hj]; exact ⟨_, rfl⟩
theorem Gh (hc : X.calm = true) : g8 X (.builtin "min") (fun xs H Q => ∃ i j, xs = [.int i, .int j] /\ Q (.int (if j < i then j else i)) H) := by
 intro pins s σ H xs us Q I r h
 obtain ⟨i, j, rfl, q⟩ := h
 obtain ⟨u, w', rfl, ⟨t, rfl⟩, ⟨t', rfl⟩⟩ := vals2 r
 refine min_two_ints (I.ok.hd hc) fun h' tk k => ⟨_, H, I.kept k, ?_, q⟩
 by_cases hj : j < i
 . rw [ah7 hj, ah7 hj]; exact ⟨_, rfl⟩
 . rw [ahX hj, ahX hj]; exact ⟨_, rfl⟩
theorem yx : g8 X (.type "str") (fun xs H Q => ∃ i, xs = [.int i] /\ i.natAbs.log2 < 1920 /\ Q (.str (toString i)) H) := by
 intro pins s σ H xs us Q I r h
 obtain ⟨i, rfl, hz, q⟩ := h
 obtain ⟨u, rfl, t, rfl⟩ := vals1 r
 exact PySem.P.str_of_int hz ⟨.str _, H, I.tok _, ⟨_, rfl⟩, q⟩
structure Gi (h : Heap) (x dx C : Addr) (mA : Str -> Option Value) : Prop where
 obj : h.get? x = some (PySem.W.instObj C dx)
 ns : h.Ns1 dx mA
 ne : dx ≠ x
variable {dx : Addr}
theorem Gj {mA : Str -> Option Value} (n : h.Ns1 dx mA) : ∃ od, h.get? dx = some od /\ ∀ name, PySem.W.lookIn name od = some (mA name) := by
 obtain ⟨o, es, ep, ho, hd, hk, _, hm⟩ := n
 refine ⟨o, ho, fun name => ?_⟩
 have e := hm name
 unfold nsFind findBy at e
 rw [← Array.find?_toList] at e
 unfold PySem.W.lookIn
 rw [hd]
 dsimp only
 split
 . rename_i y q
   rw [q] at e
   exact congrArg some e
 . rename_i q
   rw [q] at e
   have a : es.toList.any (·.refKey) = false := by
     rw [List.any_eq_false]
     intro y hy
     obtain ⟨z, t, tH⟩ := hk y (Array.mem_toList_iff.mp hy)
     simp [DictEntry.refKey, tH]
   have a' : ¬ es.toList.any (·.refKey) = true := by rw [a]; exact ah8
   rw [ahX a']
   exact congrArg some e
variable {C : Addr}
theorem Gi.look {mA : Str -> Option Value} (I : Gi h x dx C mA) : ∃ od, PySem.W.InstAt h x (PySem.W.instObj C dx) C (some od) /\ ∀ name, PySem.W.lookIn name od = some (mA name) :=
 let ⟨od, ho, hl⟩ := Gj I.ns
 ⟨od, ⟨I.obj, rfl, rfl, ho⟩, hl⟩
variable {prog : Program} {f : Addr} {mA : Str -> Option Value} {name : Str} {v : Value}
theorem get_map {expr : Bool} {Q : Q.k} (X : K.In s.heap) (I : Gi s.heap x dx C mA) (hg : PySem.W.plainGet K C name = true) (hh : PySem.W.hasDictIn K C = true)
   (ha : PySem.W.findIn K (.ref C) name = some none) (hv : mA name = some v) (hv' : PySem.W.handedIn v = true) (h : Q v { s with toks := s.toks + 1 }) :
   wpAny (model prog w) A (getAttr (.ref x) name expr) Q E s := by
 obtain ⟨od, J, hl⟩ := I.look
 exact PySem.W.get_value X J (PySem.W.plainGet_of hg).1 (PySem.W.findObj_own hh ha rfl (by rw [hl, hv])) hv' h
theorem OJ {ns : List Str} (X : K.In s.heap) (I : Gi s.heap x dx C mA)
   (hs : PySem.W.findIn K (.ref C) "__setattr__" = some (some (.builtin "object.__setattr__"))) (hp : PySem.W.plainOver K C = true) (ht : PySem.W.takerIn K C name = some none) (hh : PySem.W.hasDictIn K C = true)
   (hw : PySem.Within mA ns) (hsz : ns.length <= sizeLine)
   (h : ∀ h', Gi h' x dx C (fun y => if y = name then some v else mA y) -> Heap.SameBut dx s.heap h' -> Q () { s with heap := h', toks := s.toks + 2 }) :
   wpAny (model prog w) A (setAttr (.ref x) name v) Q E s := by
 obtain ⟨od, J, hl⟩ := I.look
 refine PySem.W.set_plain X J hs (PySem.W.osa_open (s := { s with toks := s.toks + 1 }) (r := none) X J hp ht fun b => ?_)
 obtain ⟨cd, hc, yr⟩ := PySem.W.any_some hh
 have hx : s.heap.get? x = some ⟨.ref C, some dx, .plain, #[]⟩ := I.obj
 refine ahJ (ahO (ahJ (ahJ (wpAny_loadPart hx (ahJ (PySem.W.Looks.here (s := { s with toks := s.toks + 1 }) (PySem.W.looks_clsIn X hc) ?_))))))
 rw [yr]
 refine ahO (a := some dx) (ahJ (ahO (ahJ ?_)))
 refine wpAny_nsSet1 (s := { s with toks := s.toks + 1 }) I.ns fun h' SK wU => ?_
 obtain ⟨oD, esD, epD, hoD, hdD, hcD⟩ := SK.count (PySem.Within.cons name v hw)
 refine ahJ (wpAny_lookBehind hoD (by rw [hdD]; exact pastItsLine_dict (aiD hcD (by rw [aiR]; omega))) ?_)
 exact ahO (h _ ⟨(wU.2 _ (ajM I.ne)).trans I.obj, SK, I.ne⟩ wU)
theorem Jc {R : Result -> Shared -> Prop} {vs : List Value} {kw : List (Str × Value)} (X : K.In s.heap) (hm : PySem.W.makesIn K C = true)
   (hi : PySem.W.findIn K (.ref C) "__init__" = some (some (.ref f))) (hf : PySem.W.typeIn K (.ref f) = some (.type "function"))
   (h : codeAny (model prog w) (A.under (.builtin "type.__call__" ⟨.ref C :: vs, kw⟩)) (.call (.ref f) ⟨.ref (s.heap.objs.size + 1) :: vs, kw⟩) (PySem.W.InitBack (s.heap.objs.size + 1) R)
     { s with heap := (s.heap.push PySem.W.emptyDict).push (PySem.W.instObj C s.heap.objs.size) }) :
   codeAny (model prog w) A (.call (.ref C) ⟨vs, kw⟩) R s := by
 obtain ⟨hh, g, d, t, os⟩ := s
 exact PySem.W.make_core (PySem.W.makes_of X hm) (PySem.W.looks_findIn X hi) (fun self => PySem.W.bind_fn X self hf) (.inl rfl) h
def jy (f : Str) (v : V) : List (Str × V) -> List (Str × V)
 | [] => [(f, v)]
 | (g, x) :: r => if g = f then (g, v) :: r else (g, x) :: jy f v r
theorem sO (f g : Str) (v : V) : ∀ fs : List (Str × V), (jy f v fs).lookup g = if g = f then some v else fs.lookup g
 | [] => by
   show List.lookup g [(f, v)] = _
   by_cases h : g = f
   . have hb : (g == f) = true := akh.mpr h
     simp only [List.lookup, hb, ah7 h]
   . have hb : (g == f) = false := aiY.mpr h
     simp only [List.lookup, hb, ahX h]
 | (k, x) :: r => by
   have ih := sO f g v r
   rw [show jy f v ((k, x) :: r) = (if k = f then (k, v) :: r else (k, x) :: jy f v r) from rfl]
   by_cases hk : k = f
   . rw [ah7 hk]
     by_cases h : g = k
     . have hb : (g == k) = true := akh.mpr h
       simp only [List.lookup, hb, ah7 (h.trans hk)]
     . have hb : (g == k) = false := aiY.mpr h
       simp only [List.lookup, hb, ahX (fun e : g = f => h (e.trans hk.symm))]
   . rw [ahX hk]
     by_cases h : g = k
     . have hb : (g == k) = true := akh.mpr h
       simp only [List.lookup, hb, ahX (fun e : g = f => hk (h.symm.trans e))]
     . have hb : (g == k) = false := aiY.mpr h
       simp only [List.lookup, hb]
       exact ih
theorem rR (f : Str) (v : V) : ∀ fs : List (Str × V), f ∈ (jy f v fs).map (·.1) /\ ∀ g, g ∈ fs.map (·.1) -> g ∈ (jy f v fs).map (·.1)
 | [] => ⟨by simp [jy], fun g h => by simp at h⟩
 | (k, x) :: r => by
   obtain ⟨i1, i2⟩ := rR f v r
   rw [show jy f v ((k, x) :: r) = (if k = f then (k, v) :: r else (k, x) :: jy f v r) from rfl]
   by_cases hk : k = f
   . rw [ah7 hk]
     subst hk
     exact ⟨by simp, fun g h => by simpa using h⟩
   . rw [ahX hk]
     refine ⟨?_, fun g h => ?_⟩
     . rw [ah6]
       exact ahP _ i1
     . rw [ah6] at h ⊢
       rcases ahT.mp h with e | e
       . exact ahT.mpr (.inl e)
       . exact ahP _ (i2 g e)
theorem sP (f : Str) (v : V) : ∀ fs : List (Str × V), (jy f v fs).length <= fs.length + 1
 | [] => by simp [jy]
 | (k, x) :: r => by
   have ih := sP f v r
   rw [show jy f v ((k, x) :: r) = (if k = f then (k, v) :: r else (k, x) :: jy f v r) from rfl]
   by_cases hk : k = f
   . rw [ah7 hk, aiR, aiR]; omega
   . rw [ahX hk, aiR, aiR]; omega
theorem oY.some_of {v : V} {o : Option Value} (r : oY (some v) o) : ∃ u, o = some u /\ RelV v u := by
 cases o with
 | none => exact (show False from r).elim
 | some u => exact ⟨u, rfl, r⟩
theorem Gk {v : V} (r : RelV v u) : PySem.W.handedIn u = true := by
 cases v with
 | non => cases (show u = Value.none from r); rfl
 | bl b => cases (show u = Value.bool b from r); rfl
 | int i => obtain ⟨t, e⟩ := (show ∃ t, u = Value.int i t from r); cases e; rfl
 | str x => obtain ⟨t, e⟩ := (show ∃ t, u = Value.str x t from r); cases e; rfl
 | N5 b => obtain ⟨t, e⟩ := (show ∃ t, u = Value.bytes b t from r); cases e; rfl
 | flt b => obtain ⟨t, e⟩ := (show ∃ t, u = Value.float b t from r); cases e; rfl
 | ref a => cases (show u = Value.ref a from r); rfl
 | ty n => cases (show u = Value.type n from r); rfl
variable {a : Addr} {fs : List (Str × V)}
theorem yy (cP : qi P w H h) (e : H a = some (.ins C dx fs)) : ∃ mA, Gi h a dx C mA /\ (∀ f, oY (fs.lookup f) (mA f)) /\ PySem.Within mA (fs.map (·.1)) /\ fs.length <= 1000 /\ H dx = some (.own a) := by
 obtain ⟨d, z, ne, ob, mA, n, r, q⟩ := (show cQ P w H h a (.ins C dx fs) from cP a _ e)
 exact ⟨mA, ⟨ob, n, ne⟩, r, q, z, d⟩
structure tK (K : Q.h) (C : Addr) : Prop where
 pg : PySem.W.plainGet K C Str.empty = true
 hd : PySem.W.hasDictIn K C = true
 po : PySem.W.plainOver K C = true
 sa : PySem.W.findIn K (.ref C) "__setattr__" = some (some (.builtin "object.__setattr__"))
theorem tK.get (c : tK K C) (f : Str) : PySem.W.plainGet K C f = true := c.pg
def aZ (K : Q.h) (C : Addr) (f : Str) : Prop := PySem.W.findIn K (.ref C) f = some none
theorem aZ.Y0 {f : Str} (n : aZ K C f) : PySem.W.takerIn K C f = some none := by
 unfold PySem.W.takerIn
 rw [show PySem.W.findIn K (.ref C) f = some none from n]
 rfl
variable {f : Str} {v : V}
theorem Cd {b : Bool} {Q : Q.k} (I : Q.g) (e : H a = some (.ins C dx fs)) (c : tK X.K C) (n : aZ X.K C f) (l : fs.lookup f = some v)
   (h : ∀ u s', Inv X pins σ H s' -> RelV v u -> Q u s') : wpAny Q.f A (getAttr (.ref a) f b) Q E s := by
 obtain ⟨mA, O, r, _, _, _⟩ := yy I.cP e
 obtain ⟨u, hu, ru⟩ := oY.some_of (v := v) (o := mA f) (by rw [← l]; exact r f)
 exact get_map I.yq O (c.get f) c.hd n hu (Gk ru) (h u _ (I.tok _) ru)
theorem Ce {y : V} (I : Q.g) (e : H a = some (.ins C dx fs)) (c : tK X.K C) (n : aZ X.K C f) (hl : fs.length < 1000) (ry : RelV y u)
   (h : ∀ s', Inv X pins σ (upd H a (.ins C dx (jy f y fs))) s' -> Q () s') : wpAny Q.f A (setAttr (.ref a) f u) Q E s := by
 obtain ⟨mA, O, r, wi, _, ho⟩ := yy I.cP e
 have hz : (fs.map (·.1)).length <= sizeLine := by rw [ahK, aic]; omega
 refine OJ I.yq O c.sa c.po n.Y0 c.hd wi hz fun h' O' sb => h _ ?_
 have hd : ∃ o, h'.get? dx = some o := let ⟨o, _, _, e', _⟩ := O'.ns; ⟨o, e'⟩
 refine I.write (x := a) (e := dx) (by rw [e]; exact True.intro) (.inr ho) (fun b q hb z => (sb.2 b hb).trans z) hd ?_
 refine ⟨by rw [ao O.ne]; exact ho, ?_, O.ne, O'.obj, _, O'.ns, fun g => ?_, fun g hg => ?_⟩
 . have := sP f y fs; omega
 . show oY ((jy f y fs).lookup g) (if g = f then some u else mA g)
   rw [sO]
   by_cases q : g = f
   . rw [ah7 q, ah7 q]; exact ry
   . rw [ahX q, ahX q]; exact r g
 . by_cases q : g = f
   . rw [q]; exact (rR f y fs).1
   . refine (rR f y fs).2 g (wi g fun z => hg ?_)
     show (if g = f then some u else mA g) = none
     rw [ahX q]; exact z
theorem Inv.made (I : Q.g) : Inv X pins σ (upd (upd H s.heap.objs.size (.own (s.heap.objs.size + 1))) (s.heap.objs.size + 1) (.ins C s.heap.objs.size []))
   { s with heap := (s.heap.push PySem.W.emptyDict).push (PySem.W.instObj C s.heap.objs.size) } := by
 have e1 : (s.heap.push PySem.W.emptyDict).get? s.heap.objs.size = some PySem.W.emptyDict := aif s.heap rfl
 have e2 : ((s.heap.push PySem.W.emptyDict).push (PySem.W.instObj C s.heap.objs.size)).get? (s.heap.objs.size + 1) = some (PySem.W.instObj C s.heap.objs.size) := by
   have := aif (s.heap.push PySem.W.emptyDict) (o := PySem.W.instObj C s.heap.objs.size) rfl
   rwa [Heap.size_push] at this
 have e3 : (s.heap.push PySem.W.emptyDict).Ns s.heap.objs.size (fun _ => none) := ⟨PySem.W.emptyDict, #[], _, e1, rfl, (fun e he => absurd he (by simp)), fun _ => rfl⟩
 have I1 := I.laid (a := s.heap.objs.size) (o := .own (s.heap.objs.size + 1)) (h' := s.heap.push PySem.W.emptyDict) (t' := s.toks) (fun b u q => ah5 _ q) (ah0 _) ⟨_, e1⟩
 refine I1.laid (a := s.heap.objs.size + 1) (o := .ins C s.heap.objs.size []) (t' := s.toks) (fun b u q => ah5 _ q) (Nat.le_of_eq (Heap.size_push _ _)) ?_
 have ne : s.heap.objs.size ≠ s.heap.objs.size + 1 := aiF (Nat.lt_succ_self _)
 refine ⟨by rw [ao ne, aB], aiB _, ne, e2, fun _ => none, (Heap.Ns1.of_empty e3).at fun o q => ah5 _ q, fun _ => True.intro, fun y hy => absurd rfl hy⟩
theorem OL {env : Env} {e : Expr} {Q : Q.k} (hb : attributeBase e f env (eval e env) = eval e env)
   (h : wpAny (model prog w) A (eval e env) (fun o s₁ => wpAny (model prog w) A (getAttr o f true) Q E s₁) E s) : wpAny (model prog w) A (eval (.Attribute e f pos) env) Q E s :=
 Attribute_any_ h (by rw [arm_eval_Attribute, hb])
def acs (K : Q.h) (ta : TE) (f : Str) : TE := fun σ H Q => ta σ H fun x H1 => ∃ a C dx fs v, x = .ref a /\ H1 a = some (.ins C dx fs) /\ tK K C /\ aZ K C f /\ fs.lookup f = some v /\ Q v H1
def acu (K : Q.h) (ta tv : TE) (f : Str) : TS := fun D σ H => tv σ H fun y H1 => ta σ H1 fun x H2 => ∃ a C dx fs, x = .ref a /\ H2 a = some (.ins C dx fs) /\ tK K C /\ aZ K C f /\ fs.length < 1000 ∧
 D.nx σ (upd H2 a (.ins C dx (jy f y fs)))
variable {o e value : Expr} {pos' : Pos} {tv : TE}
theorem Cg (he : PE X e ta) (hb : attributeBase e f X.env (eval e X.env) = eval e X.env) : PE X (.Attribute e f pos) (acs X.K ta f) := by
 intro pins s σ H Q I h
 refine OL hb (eO (he pins s σ H _ I h) fun u s1 zz => ?_)
 obtain ⟨x, H1, I1, rx, a, C, dx, fs, v, ex, ea, c, n, l, q⟩ := zz
 subst ex
 obtain rfl : u = Value.ref a := rx
 exact Cd I1 ea c n l fun u' s2 I2 ru => ⟨v, H1, I2, ru, q⟩
theorem UQ (ha : PE X o ta) (hv : PE X value tv) (hs : swapsWith value (some (.Attribute o f pos')) pos.line X.env = pure false) : PS X (.Assign [.Attribute o f pos'] value pos) (acu X.K ta tv f) := by
 intro pins s σ H D I h
 refine plainObj_wpAny_Assign_Attribute (eO (hv pins s σ H _ I h) fun u s1 ⟨y, H1, I1, ry, q⟩ => eO (ha pins s1 σ H1 _ I1 q) fun ov s2 zz => ?_) hs
 obtain ⟨x, H2, I2, rx, a, C, dx, fs, ex, ea, c, n, l, q2⟩ := zz
 subst ex
 obtain rfl : ov = Value.ref a := rx
 exact Ce I2 ea c n l ry fun s3 I3 => ⟨σ, _, I3, q2⟩
structure fk (k : Nat) (A : Around) : Prop where
 hd : A.handled = none
 dp : A.depth + 3 * k + 5 < recursionLimit
 un : A.units + 16 * k + 200 < cLine
theorem fk.mono {j : Nat} (r : fk k A) (h : j <= k) : fk j A := ⟨r.hd, by have := r.dp; omega, by have := r.un; omega⟩
theorem fk.deeper (r : fk (k + 1) A) (env : Env) : fk k (A.deeper env) :=
 ⟨r.hd, by have := r.dp; show A.depth + 1 + 3 * k + 5 < _; omega, by have := r.un; show A.units + 3 + 16 * k + 200 < _; omega⟩
theorem fk.in1 (r : fk (k + 1) A) : fk k A.in1 :=
 ⟨r.hd, by have := r.dp; show A.depth + 3 * k + 5 < _; omega, by have := r.un; show A.units + 1 + 16 * k + 200 < _; omega⟩
theorem Ci {kw : List (Str × Value)} : (A.under (.builtin "type.__call__" ⟨.ref C :: us, kw⟩)).depth = A.depth + 1 := by
 first | rfl | simp [Around.under, Code.weight, Code.isCreation, Code.isGuard, Code.isCaller, Code.frames, Code.isFrame, guardIds]
theorem Cj {kw : List (Str × Value)} : (A.under (.builtin "type.__call__" ⟨.ref C :: us, kw⟩)).units = A.units + 1 := by
 first | rfl | simp [Around.under, Code.cUnits, Code.frames, Code.isFrame]
theorem fk.make (r : fk (k + 1) A) (C : Addr) (us : List Value) (kw : List (Str × Value)) : fk k (A.under (.builtin "type.__call__" ⟨.ref C :: us, kw⟩)) :=
 ⟨r.hd, by have := r.dp; rw [Ci]; omega, by have := r.un; rw [Cj]; omega⟩
theorem fk.depth (r : fk k A) : A.depth < recursionLimit := by have := r.dp; omega
theorem fk.units (r : fk k A) : A.units + 64 < cLine := by have := r.un; omega
def Y3 : TA := fun _ H Q => Q [] H
def Y4 (ta : TE) (tr : TA) : TA := fun σ H Q => ta σ H fun x H1 => tr σ H1 fun xs H2 => Q (x :: xs) H2
variable {t : TA}
theorem c5 : PA X [] Y3 := fun _ _ _ _ H Q I h => Calls.spliced_nil ⟨[], H, I, .nil, h⟩
theorem bL (ha : PE X e te) (hr : PA X es t) (hs : Q.w := by rfl) : PA X (e :: es) (Y4 te t) := by
 intro pos pins s σ H Q I h
 rw [hs]
 show wpAny _ _ (spliced ((false, eval e X.env) :: backTo pos (starEach es X.env))) _ _ s
 refine Calls.spliced_cons (eO (ha pins s σ H _ I h) fun u s1 zz => ?_)
 obtain ⟨x, H1, I1, r1, q1⟩ := zz
 exact eO (hr pos pins s1 σ H1 _ I1 q1) fun us s2 ⟨xs, H2, I2, r2, q2⟩ => ⟨x :: xs, H2, I2, .cons r1 r2, q2⟩
def acv (t : TA) : TE := fun σ H Q => t σ H fun xs H1 => xs.length <= sizeLine /\ ∀ p, H1 p = none -> Q (.ref p) (upd H1 p (.tup xs))
def acw (t : TA) : TE := fun σ H Q => t σ H fun xs H1 => xs.length <= sizeLine /\ ∀ p, H1 p = none -> Q (.ref p) (upd H1 p (.lst xs))
theorem UR {x1} (h : PA X es t) : PE X (.Tuple es x1 pos) (acv t) := by
 intro pins s σ H Q I hq
 refine wpAny_Tuple_spliced (eO (h pos pins s σ H _ I hq) fun us s1 ⟨xs, H1, I1, r, z, q⟩ => ⟨by rw [← r.length]; exact z, ?_⟩)
 have hf : H1 s1.heap.objs.size = none := I1.cP.fresh (ah0 _)
 refine ⟨.ref s1.heap.objs.size, upd H1 s1.heap.objs.size (.tup xs), I1.laid (t' := s1.toks) (fun b u e => ah5 _ e) (ah0 _) ?_, rfl, q _ hf⟩
 exact ⟨z, us, r, ⟨_, aif _ rfl, rfl, _, rfl⟩⟩
theorem UT (h : PA X es t) : PE X (.List es pos) (acw t) := by
 intro pins s σ H Q I hq
 refine wpAny_List_spliced (eO (h pos pins s σ H _ I hq) fun us s1 ⟨xs, H1, I1, r, z, q⟩ => ⟨by rw [← r.length]; exact z, ?_⟩)
 have hf : H1 s1.heap.objs.size = none := I1.cP.fresh (ah0 _)
 refine ⟨.ref s1.heap.objs.size, upd H1 s1.heap.objs.size (.lst xs), I1.laid (t' := s1.toks) (fun b u e => ah5 _ e) (ah0 _) ?_, rfl, q _ hf⟩
 exact ⟨z, us, 0, r, aif _ rfl⟩
abbrev Sp := List V -> Hp -> VK -> XK -> Prop
abbrev Jd := List Env -> Hp -> Shared -> XK -> Value -> Shared -> Prop
structure wV (P : Program) (w : World) (K : Q.h) (mg : Str -> Option Value) (base : Heap) (A : Around) (outer : List Env) (s : Shared) (H : Hp) : Prop where
 frames : A.frames = some outer
 mod : Mod K mg base
 bs : ∀ b o, base.get? b = some o -> s.heap.get? b = some o /\ H b = none
 N6 : base.objs.size <= s.heap.objs.size
 rQ : s.heap.FunFrames base outer
 Sz : ∀ b ∈ Iz outer, H b = none
 cP : qi P w H s.heap
 bare : AllBare s.gens
def CE (outer : List Env) (P : Program) (w : World) (H : Hp) (s : Shared) (Q : VK) (u : Value) (s' : Shared) : Prop :=
 ∃ v H', s'.os = s.os /\ AllBare s'.gens /\ Un (Iz outer) [] H H' s.heap s'.heap /\ qi P w H' s'.heap /\ RelV v u /\ Q v H'
def CR (CX : Jd) (outer : List Env) (P : Program) (w : World) (H : Hp) (s : Shared) (Q : VK) (E : XK) (r : Result) (s' : Shared) : Prop :=
 match r with
 | .ok (.ret u) => CE outer P w H s Q u s'
 | .ok _ => False
 | .error e => CX outer H s E e s'
structure gH (P : Program) (w : World) (K : Q.h) (mg : Str -> Option Value) (base : Heap) (CX : Jd) (k : Nat) (f : Addr) (fd : FuncData) (ps : List Str) (sp : Sp) : Prop where
 len : ∀ vs H Q E, sp vs H Q E -> vs.length = ps.length
 run : ∀ (A : Around) (outer : List Env) (s : Shared) (H : Hp) (args : Args) (us : List Value) (vs : List V) (Q : VK) (E : XK), fk k A -> wV P w K mg base A outer s H -> BindsTo s fd args (ps.zip us) -> Vals vs us -> sp vs H Q E →
   codeAny (model P w) A (.call (.ref f) args) (CR CX outer P w H s Q E) s
variable {mg : Str -> Option Value} {base : Heap} {CX : Jd} {ps : List Str}
theorem gH.imp {f : Addr} {fd : FuncData} {sp sp' : Sp} (F : gH P w K mg base CX k f fd ps sp)
   (h : ∀ vs H Q E, sp' vs H Q E -> sp vs H Q E) : gH P w K mg base CX k f fd ps sp' :=
 ⟨fun vs H Q E q => F.len vs H Q E (h _ _ _ _ q), fun A outer s H args us vs Q E hr he hb hv hs => F.run A outer s H args us vs Q E hr he hb hv (h _ _ _ _ hs)⟩
theorem wV.make {outer : List Env} (e : wV P w K mg base A outer s H) (C : Addr) (us : List Value) (kw : List (Str × Value)) :
   wV P w K mg base (A.under (.builtin "type.__call__" ⟨.ref C :: us, kw⟩)) outer s H := ⟨by first | exact e.frames | (simpa [Around.under, Code.envs, Code.isFrame, pushEnvs] using e.frames), e.mod, e.bs, e.N6, e.rQ, e.Sz, e.cP, e.bare⟩
theorem wV.in1 {outer : List Env} (e : wV P w K mg base A outer s H) :
   wV P w K mg base A.in1 outer s H := ⟨e.frames, e.mod, e.bs, e.N6, e.rQ, e.Sz, e.cP, e.bare⟩
variable {s' : Shared}
theorem Inv.Y5 (I : Q.g) : wV X.prog X.w X.K X.mg X.base X.A X.stack s H :=
 ⟨I.ok.frames, I.ok.mod, I.bs, aiD I.ok.N6 I.sz, I.stack, I.Eb, I.cP, I.bare⟩
theorem Inv.after {Q : VK} (I : Q.g) (h : CE X.stack X.prog X.w H s Q u s') : EP X pins σ Q u s' := by
 obtain ⟨v, H', os, bare, un, cP, r, q⟩ := h
 obtain ⟨hh, g, d, t, Ye⟩ := s'
 obtain rfl : Ye = s.os := os
 exact ⟨v, H', I.call (h' := hh) (g' := g) (d' := d) (t' := t) (ch := []) un cP bare (fun b z => absurd z (by simp)), r, q⟩
def SM (sp : Sp) (AZ : List V) (E : XK) (t : TA) : TE := fun σ H Q => t σ H fun vs H1 => sp (vs ++ AZ) H1 Q E
def Y6 (C : Addr) (sp : Sp) (AZ : List V) (E : XK) (t : TA) : TE := fun σ H Q => t σ H fun vs H1 => ∀ x dx, H1 x = none -> H1 dx = none -> dx ≠ x →
 sp (.ref x :: (vs ++ AZ)) (upd (upd H1 dx (.own x)) x (.ins C dx [])) (fun v H2 => v = .non /\ Q (.ref x) H2) E
def Binds (K : Q.h) (fd : FuncData) (ps : List Str) (ds : List Value) : Prop :=
 ∀ (s : Shared) (us : List Value), K.In s.heap -> (us ++ ds).length = ps.length -> BindsTo s fd ⟨us, []⟩ (ps.zip (us ++ ds))
theorem Binds.all {fd : FuncData} (h : ∀ us : List Value, us.length = ps.length -> bindArgs fd ⟨us, []⟩ = pure (ps.zip us)) : Binds K fd ps [] := fun s us _ hl => by
 rw [aip] at hl ⊢
 exact .of_eq (h us hl)
def Passes (CX : Jd) (X : Cx) (E : XK) : Prop := ∀ (pins : Q.j) (σ : St) (H : Hp) (s : Shared) (e : Value) (s' : Shared), Inv X pins σ H s -> CX X.stack H s E e s' -> X.xe e s'
section
variable {f : Addr} {fd : FuncData} {sp : Sp} {AZ : List V} {ds : List Value} {E : XK} {x : Str} {p : Pos}
theorem Je {Q : VK} {vs : List V} (F : gH X.prog X.w X.K X.mg X.base CX k f fd ps sp) (hr : fk k X.A) (hb : Binds X.K fd ps ds) (hd : Vals AZ ds) (hx : Passes CX X E)
   (I : Q.g) (r : Vals vs us) (h : sp (vs ++ AZ) H Q E) : wpAny Q.f X.A (call (.ref f) us) (EP X pins σ Q) X.xe s := by
 have r2 : Vals (vs ++ AZ) (us ++ ds) := r.append hd
 have hl : (us ++ ds).length = ps.length := by rw [← r2.length]; exact F.len _ _ _ _ h
 refine wpAny_call (codeAny_mono (F.run X.A X.stack s H ⟨us, []⟩ (us ++ ds) (vs ++ AZ) Q E hr I.Y5 (hb s us I.yq hl) r2 h) fun r s' hq => ?_)
 cases r with
 | error e => exact hx pins σ H s e s' I hq
 | ok fl =>
   cases fl with
   | ret u => exact I.after hq
   | next => exact False.elim hq
   | brk => exact False.elim hq
   | cont => exact False.elim hq
theorem Ej (F : gH X.prog X.w X.K X.mg X.base CX k f fd ps sp) (hr : fk k X.A) (hg : Gl X x) (hm : X.mg x = some (.ref f)) (hk : PySem.W.keepIn X.K (.ref f) = true) (hb : Binds X.K fd ps ds) (hd : Vals AZ ds) (hx : Passes CX X E)
   (ha : PA X (e :: es) t) (rS : Q.p := by decide) (he : Q.w := by rfl) (hpl : (backTo pos (starEach es X.env)).any (·.1) = false := by rfl) :
   PE X (.Call (.Name x p) (e :: es) [] pos) (SM sp AZ E t) := by
 intro pins s σ H Q I h
 refine ajP (tV I hg hm ?_ rS)
 refine PySem.W.callWith_K (h₀ := X.base) I.ok.mod.kin hk (eO (ha pos pins s σ H _ I h) fun us s1 ⟨vs, H1, I1, r, q⟩ => ⟨I1.yq, ?_⟩) he hpl
 exact Je F hr hb hd hx I1 r q
theorem Jf (F : gH X.prog X.w X.K X.mg X.base CX k f fd ps sp) (hr : fk k X.A) (hg : Gl X x) (hm : X.mg x = some (.ref f)) (hk : PySem.W.keepIn X.K (.ref f) = true) (hb : Binds X.K fd ps ds) (hd : Vals AZ ds) (hx : Passes CX X E)
   (rS : Q.p := by decide) : PE X (.Call (.Name x p) [] [] pos) (SM sp AZ E Y3) := by
 intro pins s σ H Q I h
 refine ajP (tV I hg hm ?_ rS)
 exact PySem.W.callWith_K0 I.yq hk (Je (us := []) F hr hb hd hx I .nil h)
structure Mk (K : Q.h) (C f : Addr) : Prop where
 makes : PySem.W.makesIn K C = true
 init : PySem.W.findIn K (.ref C) "__init__" = some (some (.ref f))
 fn : PySem.W.isFn K (.ref f) = true
 kp : PySem.W.keepIn K (.ref C) = true
theorem Jg {Q : VK} {vs : List V} (M : Mk X.K C f) (F : gH X.prog X.w X.K X.mg X.base CX k f fd ps sp) (hr : fk (k + 1) X.A) (hb : Binds X.K fd ps ds) (hd : Vals AZ ds)
   (hx : Passes CX X E) (I : Q.g) (r : Vals vs us)
   (h : ∀ x dx, H x = none -> H dx = none -> dx ≠ x -> sp (.ref x :: (vs ++ AZ)) (upd (upd H dx (.own x)) x (.ins C dx [])) (fun v H2 => v = .non /\ Q (.ref x) H2) E) :
   wpAny Q.f X.A (call (.ref C) us) (EP X pins σ Q) X.xe s := by
 have hq := h (s.heap.objs.size + 1) s.heap.objs.size (I.cP.fresh (Nat.le_succ _)) (I.cP.fresh (ah0 _)) (aiF (Nat.lt_succ_self _))
 have I2 := Inv.made (C := C) I
 have r2 : Vals (V.ref (s.heap.objs.size + 1) :: (vs ++ AZ)) (Value.ref (s.heap.objs.size + 1) :: (us ++ ds)) := .cons rfl (r.append hd)
 have hl : (Value.ref (s.heap.objs.size + 1) :: us ++ ds).length = ps.length := by
   have e := r2.length
   rw [F.len _ _ _ _ hq] at e
   exact e.symm
 refine wpAny_call (Jc (f := f) I.yq M.makes M.init (akh.mp M.fn) (codeAny_mono (F.run _ X.stack _ _ ⟨Value.ref (s.heap.objs.size + 1) :: us, []⟩ (Value.ref (s.heap.objs.size + 1) :: (us ++ ds)) _ _ E (hr.make C us [])
   (I2.Y5.make C us []) (hb _ (Value.ref (s.heap.objs.size + 1) :: us) I2.yq hl) r2 hq) fun r s' Y7 => ?_))
 cases r with
 | error e => exact hx pins σ _ _ e s' I2 Y7
 | ok fl =>
   cases fl with
   | ret u =>
     obtain ⟨v, H', I3, rv, ev, q3⟩ := I2.after Y7
     subst ev
     exact ⟨rv, ⟨V.ref (s.heap.objs.size + 1), H', I3, rfl, q3⟩⟩
   | next => exact False.elim Y7
   | brk => exact False.elim Y7
   | cont => exact False.elim Y7
theorem OO (M : Mk X.K C f) (F : gH X.prog X.w X.K X.mg X.base CX k f fd ps sp) (hr : fk (k + 1) X.A) (hg : Gl X x) (hm : X.mg x = some (.ref C)) (hb : Binds X.K fd ps ds) (hd : Vals AZ ds) (hx : Passes CX X E)
   (ha : PA X (e :: es) t) (rS : Q.p := by decide) (he : Q.w := by rfl) (hpl : (backTo pos (starEach es X.env)).any (·.1) = false := by rfl) :
   PE X (.Call (.Name x p) (e :: es) [] pos) (Y6 C sp AZ E t) := by
 intro pins s σ H Q I h
 refine ajP (tV I hg hm ?_ rS)
 refine PySem.W.callWith_K (h₀ := X.base) I.ok.mod.kin M.kp (eO (ha pos pins s σ H _ I h) fun us s1 ⟨vs, H1, I1, r, q⟩ => ⟨I1.yq, ?_⟩) he hpl
 exact Jg M F hr hb hd hx I1 r q
end
structure aQ (N P : List Str) (sc : Scope) : Prop where
 kind : sc.kind = .function
 co : sc.isCoroutine = false
 gen : sc.isGenerator = false
 nd : N.Nodup
 pre : N.take P.length = P
 par : ∀ x ∈ P, sc.names.lookup x = some .local \/ sc.names.lookup x = some .cell
 UU : ∀ y ∈ sc.names, y.2 ≠ .free
theorem xD {kindOf : Str -> Option NameKind} {x : Str} : ∀ {binds : List (Str × Value)} {m : Str -> Option Value}, (∀ v, (x, v) ∉ binds) -> bindL kindOf binds m x = m x
 | [], _, _ => rfl
 | (n, v) :: r, m, h => by
   unfold bindL
   rw [xD fun w hw => h w (ahP _ hw)]
   split
   . have : x ≠ n := by rintro rfl; exact h v ahL
     simp [this]
   . rfl
theorem xE {kindOf : Str -> Option NameKind} {x : Str} : ∀ {binds : List (Str × Value)} {m : Str -> Option Value}, (∀ v, (x, v) ∉ binds) -> bindC kindOf binds m x = m x
 | [], _, _ => rfl
 | (n, v) :: r, m, h => by
   unfold bindC
   rw [xE fun w hw => h w (ahP _ hw)]
   split
   . rfl
   . have : x ≠ n := by rintro rfl; exact h v ahL
     simp [this]
theorem xF {kindOf : Str -> Option NameKind} {x : Str} {v : Value} : ∀ {P : List Str} {vs : List Value} {i : Nat} {m : Str -> Option Value}, P.Nodup -> P[i]? = some x -> vs[i]? = some v -> kindOf x = some .local →
   bindL kindOf (P.zip vs) m x = some v
 | [], _, _, _, _, h, _, _ => by simp at h
 | _ :: _, [], _, _, _, _, h, _ => by simp at h
 | p :: P, w :: vs, 0, m, nd, h1, h2, hk => by
   simp at h1 h2; subst h1; subst h2
   show bindL kindOf ((p, w) :: P.zip vs) m p = _
   unfold bindL
   rw [xD fun v hv => (aiE.mp nd).1 (List.of_mem_zip hv).1, ah7 hk]
   simp
 | p :: P, w :: vs, i + 1, m, nd, h1, h2, hk => by
   show bindL kindOf ((p, w) :: P.zip vs) m x = _
   unfold bindL
   exact xF (i := i) (List.nodup_cons.mp nd).2 (by simpa using h1) (by simpa using h2) hk
theorem xG {kindOf : Str -> Option NameKind} {x : Str} {v : Value} : ∀ {P : List Str} {vs : List Value} {i : Nat} {m : Str -> Option Value}, P.Nodup -> P[i]? = some x -> vs[i]? = some v -> kindOf x ≠ some .local →
   bindC kindOf (P.zip vs) m x = some v
 | [], _, _, _, _, h, _, _ => by simp at h
 | _ :: _, [], _, _, _, _, h, _ => by simp at h
 | p :: P, w :: vs, 0, m, nd, h1, h2, hk => by
   simp at h1 h2; subst h1; subst h2
   show bindC kindOf ((p, w) :: P.zip vs) m p = _
   unfold bindC
   rw [xE fun v hv => (aiE.mp nd).1 (List.of_mem_zip hv).1, ahX hk]
   simp
 | p :: P, w :: vs, i + 1, m, nd, h1, h2, hk => by
   show bindC kindOf ((p, w) :: P.zip vs) m x = _
   unfold bindC
   exact xG (i := i) (List.nodup_cons.mp nd).2 (by simpa using h1) (by simpa using h2) hk
def start (N : List Str) (vs : List V) : St := vs.map some ++ List.replicate (N.length - vs.length) none
def u5 (CX : Jd) (P : Program) (w : World) (K : Q.h) (mg : Str -> Option Value) (base : Heap) (N : List Str) (qual : Str) (scope : Scope) (f : Addr) (cd : Value) (A : Around) (outer : List Env) (s : Shared) (H : Hp) (E : XK) : Cx where
 prog := P
 w := w
 K := K
 mg := mg
 base := base
 A := A.deeper (envOfC qual scope s.heap.objs.size f cd)
 N := N
 s₀ := s
 H₀ := H
 env := envOfC qual scope s.heap.objs.size f cd
 outer := outer
 stack := envOfC qual scope s.heap.objs.size f cd :: outer
 ex := []
 calm := true
 fn := fun _ => true
 pn := []
 xe := fun e s' => wpAny (model P w) (A.deeper (envOfC qual scope s.heap.objs.size f cd)) (leaving (envOfC qual scope s.heap.objs.size f cd) e) (fun _ s'' => CX outer H s E e s'') (fun e' s'' => CX outer H s E e' s'') s'
theorem A0 {sc : Scope} {n : Nat} {x : Str} (h : sc.names.lookup x = some .cell) : ∃ c, (cellsFrom n sc.names []).lookup x = some c := by
 have q := PySem.W.cellsFrom_some sc.names n [] (.inl h)
 exact Option.isSome_iff_exists.mp q
theorem Gm {N : List Str} {qual : Str} {scope : Scope} {f : Addr} {cd : Value} {outer : List Env} {s1 : Shared} {E : XK} {vs : List V}
   (S : aQ N ps scope) (hd : A.handled = none) (e0 : wV P w K mg base A outer s H) (hl : vs.length = ps.length) (r : Vals vs us)
   (x : InCallC s s.heap.objs.size (bindL (envOfC qual scope s.heap.objs.size f cd).kindOf (ps.zip us) fun _ => none) (cellsFrom (s.heap.objs.size + 1) scope.names []) (bindC (envOfC qual scope s.heap.objs.size f cd).kindOf (ps.zip us) fun _ => none) s1) :
   Inv (u5 CX P w K mg base N qual scope f cd A outer s H E) [] (start N vs) H s1 := by
 have hpl : ps.length <= N.length := by have := congrArg List.length S.pre; rw [ail] at this; omega
 obtain ⟨h1, tk, rfl, hk⟩ := x.done
 have Y8 : ∀ b : Addr, b ∉ (u5 CX P w K mg base N qual scope f cd A outer s H E).ex := fun b z => absurd (show b ∈ ([] : List Addr) from z) (by simp)
 refine ⟨⟨e0.mod, S.kind, rfl, rfl, ah0 _, fun y z c h1 h2 => ?_, fun y hy => ?_, fun y c _ h => ?_, fun _ => hd, Around.frames_deeper e0.frames, .inr ⟨rfl, rfl⟩, fun b z => absurd z (Y8 b), e0.bs, e0.N6, fun b _ _ => Y8 b, fun b z => absurd z (Y8 b), e0.rQ, e0.Sz⟩,
   rfl, e0.bare, Un.kept hk, ⟨_, x.toInCall.ns, fun i y v h1 h2 h3 => ?_⟩, fun y c h => ⟨_, x.cell y c h⟩, e0.cP.fresh (ah0 _), fun y c h => ?_, fun p hp => absurd (show p ∈ ([] : List (Addr × Obj)) from hp) (by simp), e0.cP.kept hk, ?_⟩
 . exact name_of_addr x.apart (ajg h1) (ajg h2)
 . have hy : scope.names.lookup y = some .cell \/ scope.names.lookup y = some .free := hy
   rcases hy with hy | hy
   . exact A0 hy
   . exact absurd rfl (S.UU _ (ajg hy))
 . exact ajh (x.above y c (ajg h))
 . have hi : i < vs.length := by
     unfold start at h2
     by_cases hi : i < vs.length
     . exact hi
     . rw [List.getElem?_append_right (by simpa using hi)] at h2
       rw [List.getElem?_replicate] at h2
       split at h2 <;> cases h2
   have ha : vs[i]? = some v := by
     unfold start at h2
     rw [List.getElem?_append_left (by simpa using hi), List.getElem?_map] at h2
     cases e : vs[i]? with
     | none => rw [e] at h2; cases h2
     | some a => rw [e] at h2; cases h2; rfl
   obtain ⟨u, hu, rv⟩ := r.get ha
   have hp : ps[i]? = some y := by
     rw [← S.pre, List.getElem?_take_of_lt Q.a]; exact h1
   have ndP : ps.Nodup := by rw [← S.pre]; exact S.nd.sublist (List.take_sublist _ _)
   refine ⟨u, rv, ?_⟩
   rcases S.par y (ah3 hp) with k | k
   . exact .inl ⟨k, xF ndP hp hu k⟩
   . obtain ⟨c, e⟩ := A0 (n := s.heap.objs.size + 1) k
     refine .inr ⟨.inl k, c, e, ?_⟩
     have q := x.cell y c e
     rw [xG ndP hp hu (by show scope.names.lookup y ≠ _; rw [k]; decide)] at q
     exact q
 . exact e0.cP.fresh (ajh (x.above y c (ajg h)))
 . unfold start
   show _ = N.length
   rw [ah1, ahK, ai6]
   omega
theorem Y9 {f : Addr} {qual : Str} {params : Arguments} {body : List Stmt} {scope : Scope} {dV kV doc pm i7 ct oc : Value} {an od : Option Addr}
   {Jh : Array (Option Value)} {N : List Str} {sp : Sp} (lk : K.lookup f = some ⟨oc, od, .func (PySem.W.fnOf name qual params body scope dV kV doc pm an i7 ct), Jh⟩) (kE : PySem.W.codeIn K i7 qual = true) (S : aQ N ps scope)
   (len : ∀ vs H Q E, sp vs H Q E -> vs.length = ps.length)
   (Ji : ∀ (A : Around) (outer : List Env) (s : Shared) (H : Hp) (vs : List V) (Q : VK) (E : XK), fk k (A.deeper (envOfC qual scope s.heap.objs.size f i7)) -> sp vs H Q E →
     ∃ t, Ef (u5 CX P w K mg base N qual scope f i7 A outer s H E) body t /\ t { nx := fun _ H' => Q .non H', rt := Q } (start N vs) H) :
   gH P w K mg base CX (k + 1) f (PySem.W.fnOf name qual params body scope dV kV doc pm an i7 ct) ps sp := by
 refine ⟨len, fun A outer s H args us vs Q E hr e0 hb r SN => ?_⟩
 have hl := len _ _ _ _ SN
 have KX : K.In s.heap := e0.mod.kin.keeps fun b o e => (e0.bs b o e).1
 have lim : s.heap.NoLimit := e0.mod.nolimit.keeps fun b o e => (e0.bs b o e).1
 have Ek : ∀ y ∈ ps.zip us, scope.names.lookup y.1 = some .local \/ (scope.names.lookup y.1 = some .cell /\ ((cellsFrom (s.heap.objs.size + 1) scope.names []).lookup y.1).isSome = true) := fun ⟨n, v⟩ hy => by
   rcases S.par n (List.of_mem_zip hy).1 with q | q
   . exact .inl q
   . exact .inr ⟨q, PySem.W.cellsFrom_some _ _ _ (.inl q)⟩
 refine codeAny_call_function hr.depth (KX _ _ lk) rfl S.co S.gen rfl (PySem.W.codeRec_of KX kE) (hb _ _ _ _ ?_)
 refine wpAny_newFunctionEnv_cells S.kind Ek fun env he s1 x => ?_
 subst he
 refine ⟨lim.keeps x.toInCall.keep, codeAny_func ?_⟩
 obtain ⟨t, ht, hq⟩ := Ji A outer s H vs Q E (hr.deeper _) SN
 have I : Inv (u5 CX P w K mg base N qual scope f i7 A outer s H E) [] (start N vs) H s1 := Gm S hr.hd e0 hl r x
 refine aja (ht [] s1 (start N vs) H _ I hq) (fun fl s' hs => ?_) fun e s' hs => hs
 have fin : ∀ {σ' : St} {H' : Hp} {v : V} {u : Value}, Inv (u5 CX P w K mg base N qual scope f i7 A outer s H E) [] σ' H' s' -> RelV v u -> Q v H' -> CE outer P w H s Q u s' :=
   fun {σ' H' v u} J rv q => ⟨v, H', J.os, J.bare, J.base, J.cP, rv, q⟩
 cases fl with
 | ret u =>
   obtain ⟨v, σ', H', J, rv, q⟩ := hs
   exact fin J rv q
 | next =>
   obtain ⟨σ', H', J, q⟩ := hs
   exact fin (v := V.non) (u := Value.none) J rfl q
 | brk =>
   obtain ⟨_, _, _, q⟩ := hs
   exact False.elim q
 | cont =>
   obtain ⟨_, _, _, q⟩ := hs
   exact False.elim q
section
variable {x : Str} {p : Pos} {id T : String} {r : List V -> Hp -> VK -> Prop}
def tCB (r : List V -> Hp -> VK -> Prop) (t : TA) : TE := fun σ H Q => t σ H fun vs H1 => r vs H1 Q
theorem gI (hc : g8 X (.builtin id) r) (hg : Gl X x) (hm : X.mg x = none) (hv : bootBuiltins x = some (.builtin id)) (ha : PA X (e :: es) t) (hn : x ≠ "__name__" := by decide) (rS : Q.p := by decide)
   (he : Q.w := by rfl) (hpl : (backTo pos (starEach es X.env)).any (·.1) = false := by rfl) : PE X (.Call (.Name x p) (e :: es) [] pos) (tCB r t) := by
 intro pins s σ H Q I h
 refine ajP (uW I hg hm hv ?_ hn rS)
 exact PyProof.Rows.callWith_builtin1 (eO (ha pos pins s σ H _ I h) fun us s1 ⟨vs, H1, I1, r1, q1⟩ => hc pins s1 σ H1 vs us Q I1 r1 q1) he hpl
theorem gC (hc : g8 X (.type T) r) (hg : Gl X x) (hm : X.mg x = none) (hv : bootBuiltins x = some (.type T)) (ha : PA X (e :: es) t) (hn : x ≠ "__name__" := by decide) (rS : Q.p := by decide)
   (he : Q.w := by rfl) (hpl : (backTo pos (starEach es X.env)).any (·.1) = false := by rfl) : PE X (.Call (.Name x p) (e :: es) [] pos) (tCB r t) := by
 intro pins s σ H Q I h
 refine ajP (uW I hg hm hv ?_ hn rS)
 exact aj3 (eO (ha pos pins s σ H _ I h) fun us s1 ⟨vs, H1, I1, r1, q1⟩ => hc pins s1 σ H1 vs us Q I1 r1 q1) he hpl
end
end L2
namespace HT
open PySem PyProof.Rows
variable {prog : Program} {w : World} {A : Around} {E : Q.k} {s : Shared}
theorem OQ {t b : Addr} {vs ws : List Value} {Q : Q.k} (ht : IsTup s.heap t vs.toArray) (hb : IsTup s.heap b ws.toArray) (hv : vs ≠ [])
   (h1 : ws = [] -> Q (.ref t) s) (h2 : ws ≠ [] -> Q (.ref s.heap.objs.size) { s with heap := s.heap.push { cls := .type "tuple", data := .seq (vs ++ ws).toArray } })
   (hsz : vs.length + ws.length <= sizeLine) : wpAny (model prog w) A (binaryOp .Add (.ref t) (.ref b)) Q E s := by
 obtain ⟨⟨cls, dd, data, sl⟩, ho, hc, n, hd⟩ := id ht
 obtain ⟨⟨acz, SQ, data2, Yg⟩, IA, OS, n2, hd2⟩ := id hb
 simp only at hc hd OS hd2
 subst hc hd OS hd2
 have e : vs.toArray ++ ws.toArray = (vs ++ ws).toArray := by simp
 by_cases hw : ws = []
 . exact concat_meets ⟨_, ho, rfl⟩ ⟨_, IA, rfl⟩ noFill_tuple_add seq_tuple_add PySem.F.slot_tuple_add PySem.F.entry_tuple_add (PySem.F.args_tuple_add_2 _ _)
     (tuple_addW1 t b vs.toArray ws.toArray n n2 dd SQ sl Yg (by simpa using hv) (by simp [hw])) ⟨ho, IA, h1 hw⟩
 . refine concat_meets ⟨_, ho, rfl⟩ ⟨_, IA, rfl⟩ noFill_tuple_add seq_tuple_add PySem.F.slot_tuple_add PySem.F.entry_tuple_add (PySem.F.args_tuple_add_2 _ _)
     (tuple_addW2 t b vs.toArray ws.toArray n n2 dd SQ sl Yg (by simpa using hv) (by simpa using hw) (by rw [List.size_toArray, List.size_toArray]; exact hsz)) ⟨ho, IA, ?_⟩
   rw [e]
   exact h2 hw
def fz (n d : Nat) : Option Int -> Nat
 | none => d
 | some v => if v < 0 then (v + (n : Int)).toNat else min v.toNat n
theorem UW (n d : Nat) (hd : d <= n) (o : Option Int) : fz n d o <= n := by
 cases o with
 | none => exact hd
 | some v =>
   show (if v < 0 then (v + (n : Int)).toNat else min v.toNat n) <= n
   by_cases hv : v < 0
   . rw [if_pos hv]; omega
   . rw [if_neg hv]; exact Nat.min_le_right _ _
theorem El (v : Int) (n d : Nat) : (if v < 0 then max (v + (n : Int)) 0 else min v (n : Int)) = ((fz n d (some v) : Nat) : Int) := by
 show (if v < 0 then max (v + (n : Int)) 0 else min v (n : Int)) = (((if v < 0 then (v + (n : Int)).toNat else min v.toNat n) : Nat) : Int)
 by_cases hv : v < 0
 . simp only [if_pos hv]; omega
 . simp only [if_neg hv]; omega
theorem Ck (lo hi : Option Int) (n : Nat) : Builtin.Slice.sliceAdjust lo hi 1 (n : Int) = (((fz n 0 lo : Nat) : Int), ((fz n n hi : Nat) : Int)) := by
 have h1 : ¬ ((1 : Int) < 0) := by omega
 unfold Builtin.Slice.sliceAdjust
 simp only [h1, if_false]
 refine Prod.ext ?_ ?_
 . cases lo with
   | none => rfl
   | some v => exact El v n 0
 . cases hi with
   | none => rfl
   | some v => exact El v n n
theorem Cm (i j : Nat) : Builtin.Slice.slicePlaces (i : Int) (j : Int) 1 = j - i := by
 unfold Builtin.Slice.slicePlaces
 have h1 : (1 : Int) > 0 := by omega
 simp only [h1, if_true, Int.ediv_one]
 split <;> omega
theorem u6 {v : Value} {o : Option Int} {Q : Option Int -> Shared -> Prop} (p : IsPart v o) (h : Q o s) : wpAny (model prog w) A (Builtin.Slice.slicePartIndex v) Q E s := by
 cases p with
 | none => exact slicePart_none h
 | int i t => exact slicePart_int h
theorem kF {sl : Addr} {vl vu : Value} {lo hi : Option Int} {n : Nat} {Q : Int × Int × Nat -> Shared -> Prop} (hs : s.heap.IsSliceOf sl vl vu .none) (pl : IsPart vl lo) (pu : IsPart vu hi)
   (h : Q (((fz n 0 lo : Nat) : Int), 1, fz n n hi - fz n 0 lo) s) : wpAny (model prog w) A (Builtin.Slice.sliceApplied (.ref sl) (pure (n : Int))) Q E s := by
 obtain ⟨os, OU, hcs, Za⟩ := id hs
 unfold Builtin.Slice.sliceApplied Builtin.Slice.sliceFields
 refine wpAny_bind (wpAny_bind (wpAny_field OU Za (x := vl) rfl (wpAny_bind (wpAny_field OU Za (x := vu) rfl (wpAny_bind (wpAny_field OU Za (x := .none) rfl (wpAny_pure ?_)))))))
 refine wpAny_bind (slicePart_none ?_)
 show wpAny _ _ (if ((1 : Int) == 0) = true then _ else _) _ _ s
 rw [if_neg Q.c]
 refine wpAny_bind (u6 pl (wpAny_bind (u6 pu (wpAny_bind (wpAny_pure ?_)))))
 show wpAny _ _ (match Builtin.Slice.sliceAdjust lo hi 1 (n : Int) with | (lo, hi) => pure (lo, (1 : Int), Builtin.Slice.slicePlaces lo hi 1)) _ _ s
 rw [Ck lo hi n]
 show wpAny _ _ (pure (((fz n 0 lo : Nat) : Int), (1 : Int), Builtin.Slice.slicePlaces ((fz n 0 lo : Nat) : Int) ((fz n n hi : Nat) : Int) 1)) _ _ s
 rw [Cm]
 exact wpAny_pure h
theorem Jj (xs : Array Value) (i k : Nat) : ((List.range k).filterMap fun (m : Nat) => xs[((i : Int) + (m : Int) * 1).toNat]?).toArray = ((xs.toList.drop i).take k).toArray := by
 have e : (fun (m : Nat) => xs[((i : Int) + (m : Int) * 1).toNat]?) = fun m => xs[i + m]? := by
   funext m
   have : ((i : Int) + (m : Int) * 1).toNat = i + m := by omega
   rw [this]
 rw [e]
 have := pick_run xs i k
 rw [List.filterMap_map] at this
 have e2 : ((fun x => xs[x]?) ∘ fun x => i + x) = fun m => xs[i + m]? := rfl
 rw [e2] at this
 rw [this]
theorem qp {t sl : Addr} {items : Array Value} {vl vu : Value} {lo hi : Option Int} {Q : Q.k} (ht : IsTup s.heap t items) (hs : s.heap.IsSliceOf sl vl vu .none) (pl : IsPart vl lo) (pu : IsPart vu hi)
   (hw : ¬ (fz items.size 0 lo = 0 /\ fz items.size items.size hi = items.size))
   (h : Q (.ref s.heap.objs.size) { s with heap := s.heap.push { cls := .type "tuple", data := .seq ((items.toList.drop (fz items.size 0 lo)).take (fz items.size items.size hi - fz items.size 0 lo)).toArray } })
   (hsz : items.size <= sizeLine) : wpAny (model prog w) A (getItem (.ref t) (.ref sl)) Q E s := by
 have Em : sizeOk (.seq ((items.toList.drop (fz items.size 0 lo)).take (fz items.size items.size hi - fz items.size 0 lo)).toArray) := by
   show ((items.toList.drop (fz items.size 0 lo)).take (fz items.size items.size hi - fz items.size 0 lo)).toArray.size <= sizeLine
   rw [List.size_toArray, List.length_take, List.length_drop, Array.length_toList]
   omega
 have hj : fz items.size items.size hi <= items.size := UW _ _ (Nat.le_refl _) hi
 obtain ⟨os, OU, hcs, Za⟩ := id hs
 have hTs : s.TypeIs (.ref sl) "slice" := ⟨os, OU, hcs⟩
 unfold getItem
 try with_reducible refine wpAny_holding ?_
 first | refine wpAny_bind (wpAny_pure ?_) | skip
 refine wpAny_bind (wpAny_sequenceKey ht.typeIs Q.c ?_)
 refine wpAny_bind (wpAny_callSpecial?_slot (name := Str.ofString "__getitem__") ht.typeIs PyProof.Rows.slot_tuple_getitem
   (wpAny_call_entry PyProof.Rows.slot_tuple_getitem ht.typeIs entry_tuple_getitem ?_ (args_tuple_getitem _ _)))
 show wpAny _ _ (Builtin.Tuple.tupleItemsOf (.ref t) >>= _) _ _ s
 refine wpAny_bind (tupleItemsOf_ ht ?_)
 refine wpAny_bind (wpAny_typeOf hTs ?_)
 rw [if_pos Q.c]
 refine wpAny_bind (kF hs pl pu ?_)
 have En : ¬ ((((fz items.size 0 lo : Nat) : Int) == 0 && (1 : Int) == 1 && (fz items.size items.size hi - fz items.size 0 lo) == items.size) = true) := by
   intro q
   rw [Bool.and_eq_true, Bool.and_eq_true] at q
   have q1 : ((fz items.size 0 lo : Nat) : Int) = 0 := eq_of_beq q.1.1
   have q2 : fz items.size items.size hi - fz items.size 0 lo = items.size := eq_of_beq q.2
   exact hw ⟨by omega, by omega⟩
 show wpAny _ _ (if (((fz items.size 0 lo : Nat) : Int) == 0 && (1 : Int) == 1 && (fz items.size items.size hi - fz items.size 0 lo) == items.size) = true then _ else _) _ _ s
 rw [if_neg En, Jj]
 first
   | exact wpAny_bind (m := Builtin.Tuple.tupleExact _) (wpAny_newObj_type (wpAny_pure ⟨_, rfl, wpAny_pure h⟩) Em)
   | exact wpAny_bind (m := Builtin.Tuple.tupleExact _) (wpAny_newObj_type (wpAny_bind (wpAny_pure (wpAny_pure ⟨_, rfl, wpAny_pure h⟩))) Em)
   | exact wpAny_bind (wpAny_bind (m := Builtin.Tuple.tupleExact _) (wpAny_newObj_type (wpAny_pure (wpAny_pure ⟨_, rfl, wpAny_pure h⟩)) Em))
   | exact wpAny_bind (wpAny_bind (m := Builtin.Tuple.tupleExact _) (wpAny_newObj_type (wpAny_pure ⟨_, rfl, wpAny_pure h⟩) Em))
end HT
namespace L2
open PySem PySem.Spec PyProof.Rows
abbrev TO := St -> Hp -> (Option Int -> Hp -> Prop) -> Prop
def PO (X : Cx) (e : Option Expr) (t : TO) : Prop :=
 ∀ (pins : Q.j) (s : Shared) (σ : St) (H : Hp) (Q : Option Int -> Hp -> Prop), Inv X pins σ H s -> t σ H Q →
   wpAny Q.f X.A (evalPart e X.env) (fun u s' => ∃ o H', Inv X pins σ H' s' /\ IsPart u o /\ Q o H') X.xe s
def OV : TO := fun _ H Q => Q none H
def Zb (t : TE) : TO := fun σ H Q => t σ H fun x H1 => ∃ i, x = .int i /\ Q (some i) H1
theorem intsAre_of {ns : List Int} : ∀ {us : List Value}, Vals (ns.map V.int) us -> IntsAre us ns := by
 induction ns with
 | nil => intro us r; rw [ajz] at r; cases r; exact .nil
 | cons n ns ih =>
   intro us r
   rw [ah6] at r
   cases r with
   | cons r1 r2 =>
     obtain ⟨t, e⟩ := r1
     subst e
     exact .cons n t (ih r2)
variable {X : Cx} {e : Expr} {te : TE} {lo hi : Option Expr} {tl th : TO} {pos p2 : Pos}
theorem OW : PO X none OV := by
 intro pins s σ H Q I h
 rw [evalPart_none]
 exact ahO ⟨none, H, I, .none, h⟩
theorem OX (h : PE X e te) : PO X (some e) (Zb te) := by
 intro pins s σ H Q I hw
 rw [evalPart_some]
 refine eO (h pins s σ H _ I hw) fun u s1 zz => ?_
 obtain ⟨x, H1, I1, r1, q1⟩ := zz
 obtain ⟨i, rfl, q⟩ := q1
 obtain ⟨t, rfl⟩ := r1
 exact ⟨some i, H1, I1, .int i t, q⟩
def Zc (X : Cx) (r : V -> Option Int -> Option Int -> Hp -> VK -> Prop) : Prop :=
 ∀ (pins : Q.j) (s : Shared) (σ : St) (H : Hp) (x : V) (v vl vu : Value) (lo hi : Option Int) (sl : Addr) (Q : VK), Inv X pins σ H s -> RelV x v -> s.heap.IsSliceOf sl vl vu .none -> IsPart vl lo -> IsPart vu hi -> r x lo hi H Q →
   ∃ T id, typeLookup (.type T) "__getitem__" = pure (some (.builtin id)) /\ s.TypeIs v T /\ wpAny Q.f X.A (getItem v (.ref sl)) (EP X pins σ Q) X.xe s
def tSl (r : V -> Option Int -> Option Int -> Hp -> VK -> Prop) (te : TE) (tl th : TO) : TE := fun σ H Q => te σ H fun x H1 => tl σ H1 fun l H2 => th σ H2 fun u H3 => r x l u H3 Q
theorem u9 {r : V -> Option Int -> Option Int -> Hp -> VK -> Prop} (hr : Zc X r) (he : PE X e te) (hl : PO X lo tl) (hu : PO X hi th) : PE X (.Subscript e (.Slice lo hi none p2) pos) (tSl r te tl th) := by
 intro pins s σ H Q I h
 refine Subscript_ (eO (he pins s σ H _ I h) fun v s1 zz => ?_)
 obtain ⟨x, H1, I1, r1, q1⟩ := zz
 refine wpAny_Slice (eO (hl pins s1 σ H1 _ I1 q1) fun vl s2 ⟨l, H2, I2, pl, q2⟩ => eO (hu pins s2 σ H2 _ I2 q2) fun vu s3 zz => ?_)
 obtain ⟨u, H3, I3, pu, q3⟩ := zz
 rw [evalPart_none]
 refine ahO ?_
 have I4 : Inv X pins σ H3 { s3 with heap := s3.heap.push { cls := .type "slice", data := .fields #[vl, vu, .none] } } := I3.kept (t' := s3.toks) fun b ob q => ah5 _ q
 obtain ⟨T, id, hT, ht, hg⟩ := hr pins { s3 with heap := s3.heap.push { cls := .type "slice", data := .fields #[vl, vu, .none] } } σ H3 x v vl vu l u s3.heap.objs.size Q I4 r1 (Heap.IsSliceOf.new ..) pl pu q3
 show wpAny Q.f X.A (subscriptTail e (.Slice lo hi none p2) v (.ref s3.heap.objs.size)) (EP X pins σ Q) X.xe { s3 with heap := s3.heap.push { cls := .type "slice", data := .fields #[vl, vu, .none] } }
 exact tail_any (ops := [.ref s3.heap.objs.size, v]) ht hT hg (by with_unfolding_all rfl)
def yz (xs : List V) (lo hi : Option Int) : List V := (xs.drop (HT.fz xs.length 0 lo)).take (HT.fz xs.length xs.length hi - HT.fz xs.length 0 lo)
theorem sQ (xs : List V) (lo hi : Option Int) : (yz xs lo hi).length <= xs.length := by
 unfold yz
 rw [ail, ajy]
 omega
def acB (K : Q.h) : V -> Option Int -> Option Int -> Hp -> VK -> Prop := fun x lo hi H Q => ∃ a xs, x = .ref a /\ kD K H a xs ∧
 ¬ (HT.fz xs.length 0 lo = 0 /\ HT.fz xs.length xs.length hi = xs.length) /\ ∀ p, H p = none -> Q (.ref p) (upd H p (.tup (yz xs lo hi)))
theorem UX : Zc X (acB X.K) := by
 intro pins s σ H x v vl vu lo hi sl Q I rx hs pl pu h
 obtain ⟨a, xs, rfl, hx, hw, q⟩ := h
 cases rx
 obtain ⟨its, r, ht, hz⟩ := I.tuple hx
 have hlen : its.toArray.size = xs.length := by rw [aii]; exact r.length.symm
 refine ⟨"tuple", _, aiV.lookup, ht.typeIs, ?_⟩
 refine HT.qp ht hs pl pu (by rw [hlen]; exact hw) ?_ (by rw [hlen]; exact hz)
 rw [hlen]
 refine ⟨.ref s.heap.objs.size, _, I.laid (t' := s.toks) (o := .tup (yz xs lo hi)) (fun b ob q => ah5 _ q) (ah0 _) ?_, rfl, q _ (I.cP.fresh (ah0 _))⟩
 exact ⟨aiD (sQ xs lo hi) hz, _, (r.drop (HT.fz xs.length 0 lo)).take (HT.fz xs.length xs.length hi - HT.fz xs.length 0 lo), IsTup.new _ _⟩
def Zd (K : Q.h) : R2 := fun x y H Q => ∃ a b xs ys, x = .ref a /\ y = .ref b /\ kD K H a xs /\ kD K H b ys /\ xs ≠ [] /\ xs.length + ys.length <= sizeLine ∧
 (ys = [] -> Q (.ref a) H) /\ (ys ≠ [] -> ∀ p, H p = none -> Q (.ref p) (upd H p (.tup (xs ++ ys))))
variable {xs : List V} {us : List Value}
theorem Vals.tW (r : Vals xs us) : us = [] ↔ xs = [] := by
 cases r with
 | nil => simp
 | cons _ _ => simp
theorem Eo : rM X (binaryOp .Add) (Zd X.K) := by
 intro pins s σ H x y v u Q I rx ry h
 obtain ⟨a, b, xs, ys, rfl, rfl, ha, hb, hx, hz, q1, q2⟩ := h
 cases rx
 cases ry
 obtain ⟨its, r1, p1, _⟩ := I.tuple ha
 obtain ⟨Gn, r2, p2, _⟩ := I.tuple hb
 refine HT.OQ p1 p2 (fun z => hx (r1.tW.mp z)) (fun z => ⟨.ref a, H, I, rfl, q1 (r2.tW.mp z)⟩) (fun z => ?_) (by rw [← r1.length, ← r2.length]; exact hz)
 refine ⟨.ref s.heap.objs.size, _, I.laid (t' := s.toks) (o := .tup (xs ++ ys)) (fun b ob q => ah5 _ q) (ah0 _) ?_, rfl, q2 (fun w => z (r2.tW.mpr w)) _ (I.cP.fresh (ah0 _))⟩
 exact ⟨by rw [ah1]; exact hz, _, r1.append r2, IsTup.new _ _⟩
def Ep (n : Nat) (i : Int) : Option Nat := if 0 <= i then (if i < n then some i.toNat else none) else if -(n : Int) <= i then some (i + n).toNat else none
variable {α : Type}
def rN (xs : List α) (i : Int) : Option α := (Ep xs.length i).bind fun j => xs[j]?
variable {n : Nat}
theorem tX {i : Int} {j : Nat} (h : Ep n i = some j) : seqIndex? i n = some j /\ j < n /\ -(n : Int) <= i /\ i < n := by
 unfold Ep at h
 by_cases h0 : 0 <= i
 . rw [ah7 h0] at h
   by_cases h1 : i < n
   . rw [ah7 h1] at h
     have e : i.toNat = j := aie h
     exact ⟨by rw [seqIndex_of h0 h1, e], by omega, by omega, h1⟩
   . rw [ahX h1] at h; cases h
 . rw [ahX h0] at h
   by_cases h1 : -(n : Int) <= i
   . rw [ah7 h1] at h
     have e : (i + n).toNat = j := aie h
     exact ⟨by rw [seqIndex_neg Q.a h1, e], by omega, h1, by omega⟩
   . rw [ahX h1] at h; cases h
theorem yC {xs : List α} {i : Int} {v : α} (h : rN xs i = some v) : ∃ j, seqIndex? i xs.length = some j /\ xs[j]? = some v /\ j < xs.length /\ -(xs.length : Int) <= i /\ i < xs.length := by
 unfold rN at h
 cases e : Ep xs.length i with
 | none => rw [e] at h; cases h
 | some j =>
   rw [e] at h
   obtain ⟨h1, h2, h3, h4⟩ := tX e
   exact ⟨j, h1, h, h2, h3, h4⟩
theorem aO {xs : List α} {j : Nat} {v : α} (h : xs[j]? = some v) : rN xs (j : Int) = some v := by
 have hj : j < xs.length := (ahW.mp h).1
 have e : Ep xs.length (j : Int) = some j := by
   unfold Ep
   rw [ah7 Q.a, ah7 Q.a]; simp
 unfold rN; rw [e]; exact h
def k7 (b : Expr) : Prop := ∀ o i, subscripted b false o i = operate [o, i] (getItem o i)
def IxR (X : Cx) (r : R2) : Prop :=
 ∀ (value slice : Expr) (pins : Q.j) (s : Shared) (σ : St) (H : Hp) (x y : V) (v u : Value) (Q : VK), Inv X pins σ H s -> RelV x v -> RelV y u -> r x y H Q →
   subscripted slice false v u = operate [v, u] (getItem v u) -> wpAny Q.f X.A (subscriptTail value slice v u) (EP X pins σ Q) X.xe s
def MtR (X : Cx) (id : String) (r : V -> List V -> Hp -> VK -> Prop) : Prop :=
 ∀ (pins : Q.j) (s : Shared) (σ : St) (H : Hp) (x : V) (xs : List V) (v : Value) (us : List Value) (Q : VK), Inv X pins σ H s -> RelV x v -> Vals xs us -> r x xs H Q →
   wpAny Q.f X.A (call (.builtin id) (v :: us)) (EP X pins σ Q) X.xe s
section
variable {a b : Expr} {ta tb : TE}
theorem xH {r : R2} (hr : IxR X r) (ha : PE X a ta) (hb : PE X b tb) (hs : k7 b) : PE X (.Subscript a b pos) (tOp r ta tb) := by
 intro pins s σ H Q I h
 exact Subscript_ (UH ha hb I h fun v u s2 x y H2 I2 rx ry q => hr a b pins s2 σ H2 x y v u Q I2 rx ry q (hs _ _))
def acC (K : Q.h) : R2 := fun x y H Q => ∃ p xs i v, x = .ref p /\ y = .int i /\ kZ K H p xs /\ rN xs i = some v /\ Q v H
def acD (K : Q.h) : R2 := fun x y H Q => ∃ p xs i v, x = .ref p /\ y = .int i /\ kD K H p xs /\ rN xs i = some v /\ Q v H
def acE : R2 := fun x y H Q => ∃ z i c, x = .str z /\ y = .int i /\ z.length <= sizeLine /\ rN z.cps.toList i = some c /\ Q (.str ⟨#[c]⟩) H
theorem yE : IxR X (acC X.K) := by
 intro value slice pins s σ H x y v u Q I rx ry h hs
 obtain ⟨p, xs, i, z, rfl, rfl, hq, he, q⟩ := h
 cases rx
 obtain ⟨t, rfl⟩ := ry
 obtain ⟨its, r, pl, hz⟩ := I.list hq
 obtain ⟨j, h1, h2, h3, h4, h5⟩ := yC he
 obtain ⟨w, ew, A1⟩ := r.get h2
 have hl := r.length
 have hn := uZ
 have fin : EP X pins σ Q w s := ⟨z, H, I, A1, q⟩
 by_cases h0 : 0 <= i
 . have hj : i.toNat = j := by
     rw [seqIndex_of h0 h5] at h1
     exact aie h1
   exact item_listR pl.isList h0 Q.a (by rw [hj]; simpa using ew) fin hs
 . have hj : (i + (its.toArray.size : Int)).toNat = j := by
     rw [seqIndex_neg Q.a h4] at h1
     rw [aii, ← hl]
     exact aie h1
   exact subscriptTail_builtinR (x := w) pl.isList.typeIs slot_list_getitem.lookup
     (wpAny_getItem_list_neg (Q := fun r s' => r = w /\ EP X pins σ Q r s') pl.isList Q.a (by rw [List.size_toArray] <;> omega) Q.a (by rw [hj]; simpa using ew) ⟨rfl, fin⟩) hs
theorem Jk : IxR X (acD X.K) := by
 intro value slice pins s σ H x y v u Q I rx ry h hs
 obtain ⟨p, xs, i, z, rfl, rfl, hq, he, q⟩ := h
 cases rx
 obtain ⟨t, rfl⟩ := ry
 obtain ⟨its, r, pl, hz⟩ := I.tuple hq
 obtain ⟨j, h1, h2, h3, h4, h5⟩ := yC he
 obtain ⟨w, ew, A1⟩ := r.get h2
 have hl := r.length
 have hn := uZ
 have fin : EP X pins σ Q w s := ⟨z, H, I, A1, q⟩
 exact subscriptTail_builtinR (x := w) pl.typeIs slot_tuple_getitem.lookup
   (getItem_tuple (j := j) (Q := fun r s' => r = w /\ EP X pins σ Q r s') pl Q.a Q.a (by rw [List.size_toArray, ← hl]; exact h1) (by simpa using ew) ⟨rfl, fin⟩) hs
theorem UY : IxR X acE := by
 intro value slice pins s σ H x y v u Q I rx ry h hs
 obtain ⟨z, i, c, rfl, rfl, hz, he, q⟩ := h
 obtain ⟨t, rfl⟩ := rx
 obtain ⟨t', rfl⟩ := ry
 obtain ⟨j, h1, h2, h3, h4, h5⟩ := yC he
 have hl : z.cps.toList.length = z.length := by simp [Str.length]
 rw [hl] at h1 h4 h5
 have hn := uZ
 exact tail_any (typeIs_str s z t) slot_str_getitem.lookup (getItem_str (c := c) (by
   have e1 : decide (i < -(2 ^ 63 : Int)) = false := aio Q.a
   have e2 : decide (i ≥ 2 ^ 63) = false := aio Q.a
   rw [e1, e2, Bool.or_false]) (by rw [h1]; simpa using h2) ⟨.str ⟨#[c]⟩, H, I.tok _, ⟨_, rfl⟩, q⟩) hs
theorem Cp (its : List Value) (n j : Nat) (u : Value) : Obj.mapSeq (·.setIfInBounds j u) { cls := .type "list", data := .seq its.toArray n } = { cls := .type "list", data := .seq (its.set j u).toArray n } := by
 simp [Obj.mapSeq]
theorem Inv.lst {pins : Q.j} {σ : St} {H : Hp} {s : Shared} {p : Addr} (I : Q.g) (h : H p = some (.lst xs)) :
   ∃ (its : List Value) (n : Nat), Vals xs its /\ s.heap.get? p = some { cls := .type "list", data := .seq its.toArray n } /\ xs.length <= sizeLine := by
 obtain ⟨z, its, n, r, e⟩ := I.cP p _ h
 exact ⟨its, n, r, e, z⟩
theorem Inv.UZ {pins : Q.j} {σ : St} {H : Hp} {s : Shared} {p : Addr} {ys : List V} {its its' : List Value} {n' : Nat} {f : Obj -> Obj} (I : Q.g) (h : H p = some (.lst xs))
   (ho : s.heap.get? p = some { cls := .type "list", data := .seq its.toArray n }) (hf : f { cls := .type "list", data := .seq its.toArray n } = { cls := .type "list", data := .seq its'.toArray n' }) (r : Vals ys its') (hz : ys.length <= sizeLine) (t : Nat) :
   Inv X pins σ (upd H p (.lst ys)) { s with heap := s.heap.update p f, toks := t } := by
 have e : (s.heap.update p f).get? p = some { cls := .type "list", data := .seq its'.toArray n' } := by
   rw [ajD f ho (by rw [hf] <;> rfl), hf]
 refine I.write (x := p) (e := p) (by rw [h]; trivial) (.inl rfl) (fun b u hb q => (Heap.get?_update_other _ _ (ajM hb)).trans q) ⟨_, e⟩ ?_
 exact ⟨hz, its', n', r, e⟩
def Ze : V -> V -> V -> Hp -> (Hp -> Prop) -> Prop := fun o i v H Q => ∃ p xs k j, o = .ref p /\ i = .int k /\ H p = some (.lst xs) /\ Ep xs.length k = some j /\ Q (upd H p (.lst (xs.set j v)))
theorem set_list : YH X Ze := by
 intro pins s σ H o i v ov iv u Q I ro ri rv h
 obtain ⟨p, xs, k, j, rfl, rfl, hp, hj, q⟩ := h
 cases ro
 obtain ⟨t, rfl⟩ := ri
 obtain ⟨its, n, r, ho, hz⟩ := I.lst hp
 obtain ⟨h1, h2, h3, h4⟩ := tX hj
 have hl := r.length
 have hn := uZ
 have I' : Inv X pins σ (upd H p (.lst (xs.set j v))) { s with heap := s.heap.update p (Obj.mapSeq (·.setIfInBounds j u)) } :=
   I.UZ hp ho (Cp its n j u) (r.set rv j) (by rw [akb]; exact hz) s.toks
 by_cases h0 : 0 <= k
 . have hk : k.toNat = j := by
     rw [seqIndex_of h0 h4] at h1
     exact aie h1
   exact PySem.W.ki_setAt ho h0 Q.a (by rw [aii, ← hl]; exact h4) (by rw [hk]; exact ⟨_, I', q⟩)
 . have hk : (k + (its.toArray.size : Int)).toNat = j := by
     rw [seqIndex_neg Q.a h3] at h1
     rw [aii, ← hl]
     exact aie h1
   exact PySem.W.ki_setBack ho Q.a (by rw [aii, ← hl]; exact h3) Q.a (by rw [hk]; exact ⟨_, I', q⟩)
theorem yF (lo hi : Option Int) (n : Nat) : (sliceBounds lo hi none n).1 = ((HT.fz n 0 lo : Nat) : Int) /\ (sliceBounds lo hi none n).2.1 = ((HT.fz n n hi : Nat) : Int) /\ (sliceBounds lo hi none n).2.2 = 1 := by
 refine ⟨?_, ?_, rfl⟩
 . cases lo with
   | none => simp [sliceBounds, HT.fz]
   | some i =>
     simp only [sliceBounds, HT.fz, Option.getD_none, show (1 : Int) > 0 by decide, ajY]
     by_cases h : i < 0
     . simp only [h, ajY] <;> omega
     . simp only [h, ajs] <;> omega
 . cases hi with
   | none => simp [sliceBounds, HT.fz]
   | some i =>
     simp only [sliceBounds, HT.fz, Option.getD_none, show (1 : Int) > 0 by decide, ajY]
     by_cases h : i < 0
     . simp only [h, ajY] <;> omega
     . simp only [h, ajs] <;> omega
theorem wW (its : List Value) (lo hi : Option Int) : slicePick its.toArray lo hi none = ((its.drop (HT.fz its.length 0 lo)).take (HT.fz its.length its.length hi - HT.fz its.length 0 lo)).toArray := by
 obtain ⟨h1, h2, h3⟩ := yF lo hi its.toArray.size
 unfold slicePick
 rw [h1, h2, h3]
 simp only [sliceRange_one, pick_run, aii] <;> rfl
def acF (K : Q.h) : V -> Option Int -> Option Int -> Hp -> VK -> Prop := fun x lo hi H Q => ∃ a xs, x = .ref a /\ kZ K H a xs /\ ∀ p, H p = none -> Q (.ref p) (upd H p (.lst (yz xs lo hi)))
theorem OY : Zc X (acF X.K) := by
 intro pins s σ H x v vl vu lo hi sl Q I rx hs pl pu h
 obtain ⟨a, xs, rfl, hx, q⟩ := h
 cases rx
 obtain ⟨its, r, ht, hz⟩ := I.list hx
 have hlen := r.length
 refine ⟨"list", _, slot_list_getitem.lookup, ht.isList.typeIs, ?_⟩
 refine wpAny_getItem_list_slice ht.isList hs pl pu .none (by simp) ?_ (by rw [aii] <;> omega)
 rw [wW, ← hlen]
 refine ⟨.ref s.heap.objs.size, _, I.laid (t' := s.toks) (o := .lst (yz xs lo hi)) (fun b ob q => ah5 _ q) (ah0 _) ?_, rfl, q _ (I.cP.fresh (ah0 _))⟩
 exact ⟨aiD (sQ xs lo hi) hz, _, 0, (r.drop (HT.fz xs.length 0 lo)).take (HT.fz xs.length xs.length hi - HT.fz xs.length 0 lo), aif _ rfl⟩
def qq : V -> Bool
 | .non => true
 | .bl _ => true
 | .int _ => true
 | .str _ => true
 | _ => false
def OZ : V -> V -> Bool
 | .non, .non => true
 | .bl a, .bl b => a == b
 | .bl a, .int b => (if a then 1 else 0) == b
 | .int a, .bl b => a == (if b then 1 else 0)
 | .int a, .int b => a == b
 | .str a, .str b => a == b
 | _, _ => false
theorem U0 {A : Around} {s : Shared} {y x : V} {u v : Value} (ry : RelV y u) (rx : RelV x v) (fy : qq y = true) (fx : qq x = true) : SeqAt.EqAt A s u v (OZ y x) := by
 cases y with
 | non =>
   cases ry
   cases x with
   | non => cases rx; exact SeqAt.EqAt.same _
   | bl b => cases rx; exact SeqAt.EqAt.none_bool b
   | int b => obtain ⟨t, rfl⟩ := rx; exact SeqAt.EqAt.none_int b t
   | str b => obtain ⟨t, rfl⟩ := rx; exact SeqAt.EqAt.none_str b t
   | _ => exact absurd (show false = true from fx) ah8
 | bl a =>
   cases ry
   cases x with
   | non => cases rx; exact SeqAt.EqAt.bool_none a
   | bl b => cases rx; exact SeqAt.EqAt.bool_bool a b
   | int b => obtain ⟨t, rfl⟩ := rx; exact SeqAt.EqAt.bool_int a b t
   | str b => obtain ⟨t, rfl⟩ := rx; exact SeqAt.EqAt.bool_str a b t
   | _ => exact absurd (show false = true from fx) ah8
 | int a =>
   obtain ⟨t', rfl⟩ := ry
   cases x with
   | non => cases rx; exact SeqAt.EqAt.int_none a t'
   | bl b => cases rx; exact SeqAt.EqAt.int_bool a t' b
   | int b => obtain ⟨t, rfl⟩ := rx; exact SeqAt.EqAt.int_int a t' b t
   | str b => obtain ⟨t, rfl⟩ := rx; exact SeqAt.EqAt.int_str a t' b t
   | _ => exact absurd (show false = true from fx) ah8
 | str a =>
   obtain ⟨t', rfl⟩ := ry
   cases x with
   | non => cases rx; exact SeqAt.EqAt.str_none a t'
   | bl b => cases rx; exact SeqAt.EqAt.str_bool a t' b
   | int b => obtain ⟨t, rfl⟩ := rx; exact SeqAt.EqAt.str_int a t' b t
   | str b => obtain ⟨t, rfl⟩ := rx; exact SeqAt.EqAt.str_str a t' b t
   | _ => exact absurd (show false = true from fx) ah8
 | _ => exact absurd (show false = true from fy) ah8
def Cq (x : V) (u : Value) : Bool := match u with
 | .none => OZ .non x
 | .bool b => OZ (.bl b) x
 | .int i _ => OZ (.int i) x
 | .str z _ => OZ (.str z) x
 | _ => false
theorem Jl {x y : V} {u : Value} (r : RelV y u) (f : qq y = true) : Cq x u = OZ y x := by
 cases y with
 | non => cases r; rfl
 | bl b => cases r; rfl
 | int i => obtain ⟨t, rfl⟩ := r; rfl
 | str z => obtain ⟨t, rfl⟩ := r; rfl
 | _ => exact absurd (show false = true from f) ah8
theorem qt {x : V} : ∀ {xs : List V} {us : List Value}, Vals xs us -> xs.all qq = true -> us.any (Cq x) = xs.any fun y => OZ y x
 | _, _, .nil, _ => rfl
 | y :: xs, u :: us, .cons r t, f => by
   rw [List.all_cons, aih] at f
   rw [aj7, aj7, Jl r f.1, qt t f.2]
theorem mG {A : Around} {s : Shared} {x : V} {v : Value} (rx : RelV x v) (fx : qq x = true) : ∀ {xs : List V} {us : List Value}, Vals xs us -> xs.all qq = true -> ∀ u ∈ us, SeqAt.EqAt A s u v (Cq x u)
 | _, _, .nil, _ => fun u hu => by cases hu
 | y :: xs, u :: us, .cons r t, f => fun u' hu => by
   rw [List.all_cons, aih] at f
   rcases ahT.mp hu with rfl | hu
   . rw [Jl r f.1]; exact U0 r rx f.1 fx
   . exact mG rx fx t f.2 u' hu
def Zf (x : V) (xs : List V) : Bool := xs.any fun y => OZ y x
def rIn (K : Q.h) (neg : Bool) : R2 := fun x y H Q => ∃ p xs, y = .ref p /\ (kZ K H p xs \/ kD K H p xs) /\ qq x = true /\ xs.all qq = true /\ Q (.bl (if neg then !Zf x xs else Zf x xs)) H
theorem xJ : rM X (compareOp .In) (rIn X.K false) := by
 intro pins s σ H x y v u Q I rx ry h
 obtain ⟨p, xs, rfl, hq, fx, fs, q⟩ := h
 cases ry
 rcases hq with hq | hq
 . obtain ⟨its, r, pl, hz⟩ := I.list hq
   refine SeqAt.in_listAt (Cq x) pl.isList (fun w hw => mG rx fx r fs w (by simpa using hw)) ⟨.bl _, H, I, rfl, ?_⟩
   rw [show its.toArray.any (Cq x) = its.any (Cq x) by simp, qt r fs]
   exact q
 . obtain ⟨its, r, pl, hz⟩ := I.tuple hq
   refine SeqAt.in_tupleAt (Cq x) pl (fun w hw => mG rx fx r fs w (by simpa using hw)) ⟨.bl _, H, I, rfl, ?_⟩
   rw [show its.toArray.any (Cq x) = its.any (Cq x) by simp, qt r fs]
   exact q
theorem qu : rM X (compareOp .NotIn) (rIn X.K true) := by
 intro pins s σ H x y v u Q I rx ry h
 obtain ⟨p, xs, rfl, hq, fx, fs, q⟩ := h
 cases ry
 rcases hq with hq | hq
 . obtain ⟨its, r, pl, hz⟩ := I.list hq
   refine SeqAt.notIn_listAt (Cq x) pl.isList (fun w hw => mG rx fx r fs w (by simpa using hw)) ⟨.bl _, H, I, rfl, ?_⟩
   rw [show its.toArray.any (Cq x) = its.any (Cq x) by simp, qt r fs]
   exact q
 . obtain ⟨its, r, pl, hz⟩ := I.tuple hq
   refine SeqAt.notIn_tupleAt (Cq x) pl (fun w hw => mG rx fx r fs w (by simpa using hw)) ⟨.bl _, H, I, rfl, ?_⟩
   rw [show its.toArray.any (Cq x) = its.any (Cq x) by simp, qt r fs]
   exact q
theorem yG : g8 X (.builtin "len") (fun xs H Q => ∃ p ys, xs = [.ref p] /\ (kZ X.K H p ys \/ kD X.K H p ys) /\ Q (.int ys.length) H) := by
 intro pins s σ H xs us Q I r h
 obtain ⟨p, ys, rfl, hq, q⟩ := h
 obtain ⟨u, rfl, rx⟩ := vals1 r
 cases rx
 have hn := uZ
 rcases hq with hq | hq
 . obtain ⟨its, r', pl, hz⟩ := I.list hq
   have hlen := r'.length
   exact Calls.call_len_list pl.isList (by simp only [aii] <;> omega) ⟨.int ys.length, H, I.tok _, ⟨s.toks + 1, by rw [aii, hlen]⟩, q⟩
 . obtain ⟨its, r', pl, hz⟩ := I.tuple hq
   have hlen := r'.length
   exact len_tuple pl (by simp only [aii] <;> omega) ⟨.int ys.length, H, I.tok _, ⟨s.toks + 1, by rw [aii, hlen]⟩, q⟩
theorem yH : g8 X (.type "list") (fun xs H Q => ∃ p ys, xs = [.ref p] /\ (kZ X.K H p ys \/ kD X.K H p ys) /\ ∀ l, H l = none -> Q (.ref l) (upd H l (.lst ys))) := by
 intro pins s σ H xs us Q I r h
 obtain ⟨p, ys, rfl, hq, q⟩ := h
 obtain ⟨u, rfl, rx⟩ := vals1 r
 cases rx
 have fin : ∀ (its : List Value), Vals ys its -> ys.length <= sizeLine -> ∀ (h' : Heap) (c' : Nat), (∀ b o', s.heap.get? b = some o' -> h'.get? b = some o') →
     h'.get? s.heap.objs.size = some { cls := .type "list", dict := none, data := .seq its.toArray c', slots := #[] } -> EP X pins σ Q (.ref s.heap.objs.size) { s with heap := h' } := fun its r' hz h' c' kp e =>
   ⟨.ref s.heap.objs.size, _, I.laid (t' := s.toks) kp (ah0 _) (show cQ X.prog X.w _ h' _ (.lst ys) from ⟨hz, its, c', r', e⟩), rfl, q _ (I.cP.fresh (ah0 _))⟩
 rcases hq with hq | hq
 . obtain ⟨its, r', pl, hz⟩ := I.list hq
   have hlen := r'.length
   obtain ⟨o, ho, hc, n, hd⟩ := pl.isList
   exact call_list_seq p (.inl rfl) ho hc hd (fun h' c' kp e => fin its r' hz h' c' kp e) (by simp only [aii] <;> omega)
 . obtain ⟨its, r', pl, hz⟩ := I.tuple hq
   have hlen := r'.length
   obtain ⟨o, ho, hc, n, hd⟩ := pl
   exact call_list_seq p (.inr rfl) ho hc hd (fun h' c' kp e => fin its r' hz h' c' kp e) (by simp only [aii] <;> omega)
theorem pA : g8 X (.type "tuple") (fun xs H Q => ∃ p ys, xs = [.ref p] /\ ((kZ X.K H p ys /\ ∀ l, H l = none -> Q (.ref l) (upd H l (.tup ys))) \/ (kD X.K H p ys /\ Q (.ref p) H))) := by
 intro pins s σ H xs us Q I r h
 obtain ⟨p, ys, rfl, h⟩ := h
 obtain ⟨u, rfl, rx⟩ := vals1 r
 cases rx
 rcases h with ⟨hq, q⟩ | ⟨hq, q⟩
 . obtain ⟨its, r', pl, hz⟩ := I.list hq
   have hlen := r'.length
   refine call_tuple_list pl.isList (fun h' kp => ?_) (by simp only [aii] <;> omega)
   have I1 : Inv X pins σ H { s with heap := h' } := I.kept (t' := s.toks) kp
   have I2 : Inv X pins σ (upd H h'.objs.size (.tup ys)) { s with heap := h'.push { cls := .type "tuple", data := .seq its.toArray } } :=
     I1.laid (t' := s.toks) (fun b o e => ah5 _ e) (ah0 _) (show cQ X.prog X.w _ _ _ (.tup ys) from ⟨hz, its, r', IsTup.new _ _⟩)
   exact ⟨.ref h'.objs.size, _, I2, rfl, q _ (I1.cP.fresh (ah0 _))⟩
 . obtain ⟨its, r', pl, hz⟩ := I.tuple hq
   exact call_tuple_same pl ⟨.ref p, H, I, rfl, q⟩
def tyV (K : Q.h) (T : String) (x : V) (H : Hp) : Prop := match x with
 | .str _ => T = "str"
 | .int _ => T = "int"
 | .ref p => (T = "list" /\ ∃ xs, kZ K H p xs) \/ (T = "tuple" /\ ∃ o, K.lookup p = some o /\ o.cls = .type "tuple" /\ o.dict = none) ∨
     (T = "dict" /\ ((∃ kvs, H p = some (.dK kvs)) \/ ∃ kvs, H p = some (.dT kvs))) \/ (T = "set" /\ ∃ S n, H p = some (.set S n))
 | _ => False
theorem U1 {pins : Q.j} {σ : St} {H : Hp} {s : Shared} {T : String} {x : V} {v : Value} (I : Q.g) (r : RelV x v) (ty : tyV X.K T x H) :
   s.TypeIs v T /\ ∀ a, v = .ref a -> ∃ ob, s.heap.get? a = some ob /\ ob.dict = none := by
 cases x with
 | str z =>
   obtain ⟨t, rfl⟩ := r
   cases (show T = "str" from ty)
   exact ⟨typeIs_str s z t, fun _ e => nomatch e⟩
 | int i =>
   obtain ⟨t, rfl⟩ := r
   cases (show T = "int" from ty)
   exact ⟨typeIs_int s i t, fun _ e => nomatch e⟩
 | ref p =>
   cases r
   rcases ty with ⟨rfl, xs, hq⟩ | ⟨rfl, o, hk, hc, hd⟩ | ⟨rfl, hk⟩ | ⟨rfl, S, n, hk⟩
   . obtain ⟨its, _, pl, _⟩ := I.list hq
     refine ⟨pl.isList.typeIs, fun a e => ?_⟩
     cases e
     obtain ⟨o, n, e, c, hd, _⟩ := pl
     exact ⟨o, e, hd⟩
   . refine ⟨⟨o, I.yq p o hk, hc⟩, fun a e => ?_⟩
     cases e
     exact ⟨o, I.yq _ o hk, hd⟩
   . have z : ∃ o, s.heap.get? p = some o /\ o.ExactDict := by
       rcases hk with ⟨kvs, hk⟩ | ⟨kvs, hk⟩
       . obtain ⟨_, _, _, _, o, _, _, e, ex, _⟩ := I.cP p _ hk
         exact ⟨o, e, ex⟩
       . obtain ⟨_, _, _, _, o, _, _, e, ex, _⟩ := I.cP p _ hk
         exact ⟨o, e, ex⟩
     obtain ⟨o, e, ex⟩ := z
     refine ⟨⟨o, e, ex.1⟩, fun a e2 => ?_⟩
     cases e2
     exact ⟨o, e, ex.2.1⟩
   . obtain ⟨o, _, _, _, e, ex, _⟩ := I.cP p _ hk
     refine ⟨⟨o, e, ex.1⟩, fun a e2 => ?_⟩
     cases e2
     exact ⟨o, e, ex.2.1⟩
 | _ => exact False.elim ty
def tBM (K : Q.h) (T : String) (r : V -> List V -> Hp -> VK -> Prop) (to : TE) (t : TA) : TE := fun σ H Q => to σ H fun x H1 => tyV K T x H1 /\ t σ H1 fun xs H2 => r x xs H2 Q
variable {o : Expr} {es : List Expr} {to : TE} {t : TA} {name : Str} {apos iH : Pos} {T id : String} {r : V -> List V -> Hp -> VK -> Prop}
theorem Jm (pa : PlainAttrs T) (slot : Slot T name id) (hty : typeOf (.builtin id) = pure (.type "method_descriptor")) (hm : MtR X id r) (ho : PE X o to) (ha : PA X (e :: es) t)
   (fU : attributeBase o name X.env (eval o X.env) = eval o X.env := by rfl)
   (mH : ((backTo iH (starEach (e :: es) X.env)).all (fun x => !x.1) && (backToKw iH (keywordEach [] X.env)).all (fun x => x.1.isSome)
     && decide ((e :: es).length + ([] : List Keyword).length + (if ([] : List Keyword).isEmpty then 0 else 1) < 30)) = true := by rfl)
   (hline : (apos.endLine == iH.line) = true := by rfl) (hs : Q.w := by rfl) (jz : (backTo iH (starEach es X.env)).any (·.1) = false := by rfl) :
   PE X (.Call (.Attribute o name apos) (e :: es) [] iH) (tBM X.K T r to t) := by
 intro pins s σ H Q I h
 refine wpAny_Call_method_late fU mH hline rfl (eO (ho pins s σ H _ I h) fun v s1 zz => ?_)
 obtain ⟨x, H1, I1, r1, ty, q1⟩ := zz
 obtain ⟨h1, h2⟩ := U1 I1 r1 ty
 refine ⟨T, id, pa, slot, hty, h1, h2, ?_⟩
 have hA := ha iH pins s1 σ H1 _ I1 q1
 rw [hs] at hA ⊢
 refine ajV (by show (false || (backTo iH (starEach es X.env)).any (·.1)) = false; rw [jz] <;> rfl) (Calls.evalArgs_plain ?_)
 exact eO hA fun us s2 ⟨vs, H2, I2, r2, q2⟩ => hm pins s2 σ H2 x vs v us Q I2 r1 r2 q2
end
def MtM (X : Cx) (id : String) (r : V -> List V -> Hp -> VK -> Prop) : Prop :=
 ∀ (pins : Q.j) (s : Shared) (σ : St) (H : Hp) (x : V) (xs : List V) (v : Value) (us : List Value) (Q : VK), Inv X pins σ H s -> RelV x v -> Vals xs us -> r x xs H Q →
   wpAny Q.f X.A (call (.builtin id) (v :: us)) (EP X pins σ Q) X.xe s
variable {x : V}
theorem Vals.one (h : Vals [x] us) : ∃ u, us = [u] /\ RelV x u := by
 cases h with
 | cons r h => cases h; exact ⟨_, rfl, r⟩
theorem Vals.two {y : V} (h : Vals [x, y] us) : ∃ u v, us = [u, v] /\ RelV x u /\ RelV y v := by
 cases h with
 | cons r h => cases h with
   | cons q h => cases h; exact ⟨_, _, rfl, r, q⟩
theorem Vals.rep {xs : List V} {us : List Value} (h : Vals xs us) : ∀ k : Nat, Vals (List.replicate k xs).flatten (List.replicate k us).flatten
 | 0 => .nil
 | k + 1 => by
   rw [aiZ, aiZ, ajv, ajv]
   exact Vals.append h (Vals.rep h k)
theorem foldl_rep (its : List Value) : ∀ (k : Nat) (acc : List Value),
   List.foldl (fun x1 x2 => x1 ++ x2) acc.toArray (List.replicate k its.toArray) = (acc ++ (List.replicate k its).flatten).toArray
 | 0, acc => by simp
 | k + 1, acc => by
   have e : acc.toArray ++ its.toArray = (acc ++ its).toArray := by simp
   have e2 : (acc ++ its) ++ (List.replicate k its).flatten = acc ++ (List.replicate (k + 1) its).flatten := by
     rw [aiZ, ajv, ahQ]
   rw [← e2, ← foldl_rep its k (acc ++ its), ← e, aiZ, List.foldl_cons]
variable {pins : Q.j} {σ : St} {H : Hp} {s : Shared} {l : Addr} {ys : List V}
theorem Inv.acH {its its' : List Value} {f : Array Value -> Array Value} {t' : Nat} (I : Q.g) (hH : H l = some (.lst xs))
   (e : s.heap.get? l = some { cls := .type "list", data := .seq its.toArray n }) (hf : f its.toArray = its'.toArray) (hv : Vals ys its') (hz : ys.length <= sizeLine) :
   Inv X pins σ (upd H l (.lst ys)) { s with heap := s.heap.update l (Obj.mapSeq f), toks := t' } := by
 have q := PySem.IsL.update e f
 rw [hf] at q
 refine I.write (x := l) (e := l) (by rw [hH]; exact trivial) (.inl rfl) (fun b' u hb hu => (Heap.get?_update_other s.heap (Obj.mapSeq f) (ajM hb)).trans hu) ⟨_, q⟩ ?_
 exact ⟨hz, its', _, hv, q⟩
theorem Inv.Zg {its : List Value} {t' : Nat} (I : Q.g) (hv : Vals ys its) (hz : ys.length <= sizeLine) :
   Inv X pins σ (upd H s.heap.objs.size (.lst ys)) { s with heap := s.heap.push { cls := .type "list", data := .seq its.toArray }, toks := t' } :=
 I.laid (fun _ _ q => ah5 _ q) (ah0 _) ⟨hz, its, 0, hv, aif _ rfl⟩
theorem Inv.fresh (I : Q.g) : H s.heap.objs.size = none := I.cP.fresh (ah0 _)
theorem Inv.acI (I : Q.g) (hH : H l = some (.lst xs)) : xs.length <= sizeLine /\ ∃ (its : List Value) (n : Nat), Vals xs its /\ xs.length = its.length /\ s.heap.get? l = some { cls := .type "list", data := .seq its.toArray n } := by
 obtain ⟨z, its, n, r, e⟩ := I.cP l _ hH
 exact ⟨z, its, n, r, r.length, e⟩
theorem Jo (h : n <= sizeLine) : Builtin.List.listTooLong n = false := by
 unfold Builtin.List.listTooLong
 exact aio Q.a
def O1 : V -> List V -> Hp -> VK -> Prop := fun x vs H Q => ∃ l xs y, x = .ref l /\ vs = [y] /\ H l = some (.lst xs) /\ xs.length < sizeLine /\ Q .non (upd H l (.lst (xs ++ [y])))
theorem rT : MtM X "list.append" O1 := by
 intro pins s σ H x vs v us Q I rx rv h
 obtain ⟨l, xs, y, rfl, rfl, hH, hz, q⟩ := h
 cases rx
 obtain ⟨u, rfl, ru⟩ := rv.one
 obtain ⟨z, its, n, r, hl, e⟩ := I.acI hH
 refine call_meets F.slot_list_append ⟨_, e, rfl⟩ F.entry_list_append (F.args_list_append_2 _ _) (PySem.list_append l its.toArray n u (by rw [aii]; omega)) ⟨e, ?_⟩
 refine ⟨.non, _, I.acH (its' := its ++ [u]) hH e (by simp) (r.append (.cons ru .nil)) ?_, rfl, q⟩
 rw [ah1, List.length_singleton]
 omega
theorem len_rep (xs : List α) (k : Nat) : (List.replicate k xs).flatten.length = k * xs.length := by
 induction k with
 | zero => simp
 | succ k ih => rw [aiZ, ajv, ah1, ih, Nat.succ_mul, Nat.add_comm]
end L2
namespace Att
open PySem PySem.W PySem.Calls PyProof.Rows
theorem tL {P : Params} {h : Heap} : ∀ (ns : List Int) (vs : List Value), WellAll P h vs (ns.map WData.int) -> IntsAre vs ns := by
 intro ns
 induction ns with
 | nil =>
   intro vs w
   rw [List.map_nil] at w
   cases w
   exact .nil
 | cons n ns ih =>
   intro vs w
   rw [List.map_cons] at w
   cases w with
   | cons a b =>
     cases a
     exact .cons _ _ (ih _ b)
theorem Gp {l : OpenLaw} {n : Nat} (hn : l.most = some n) {P : Params} {h : Heap} {args : List WData} {vals : List Value}
   (Gq : l.row.toRowW.claim.pre args = true) (hwl : WellAll P h vals args) :
   ∃ a vs ns, vals = [Value.ref a] /\ args = [WData.list (ns.map WData.int)] /\ h.get? a = some { cls := .type "list", data := .seq vs.toArray } /\ IntsAre vs ns /\ ns.length <= n := by
 have Gr : WShape.hasAll [] args [.list .int] = true := (pre_splitW Gq).1
 have hc : l.pre.holds [] { args := args } = true := (pre_splitW Gq).2
 obtain ⟨d, r, rfl, h1, h2⟩ := hasAllW_cons Gr
 obtain rfl := hasAllW_nil h2
 obtain ⟨xs, rfl, h3⟩ := hasW_list h1
 obtain ⟨ns, rfl⟩ := items_int h3
 have hlen : ns.length <= n := by
   unfold OpenLaw.pre at hc
   have h4 : (WTm.not (.lt (.lit (.int (n : Int))) (.len (.arg 0)))).holds [] { args := [.list (ns.map .int)] } = true := by
     have h4 := (holds_andW hc).1
     rw [hn] at h4
     exact h4
   have h5 := condW_of h4 (w_not (w_lt w_lit (w_len_list (w_arg rfl))))
   rw [List.length_map] at h5
   refine Nat.le_of_not_lt fun q => ?_
   have q' : (n : Int) < ((ns.length : Nat) : Int) := by omega
   first
     | (rw [decide_eq_true q'] at h5; exact absurd h5 (by decide))
     | (simp at h5; omega)
 cases hwl with
 | cons w1 w2 =>
   cases w2
   cases w1 with
   | list ho acK => exact ⟨_, _, ns, rfl, rfl, ho, tL ns _ acK, hlen⟩
theorem Gs (l : OpenLaw) (args : List WData) : l.row.toRowW.claim.post args (.bool true) args = true :=
 postW_of (r := l.row.toRowW) (X := (true == true))
   (show WShape.has [] (.bool true) .bool = true by first | rfl | decide | simp [WShape.has, WShape.arms, WShape.armsAll])
   (show (WTm.eq .res (.lit (.bool true))).value [] { args := args, res := some (.bool true), after := args } = some (.bool (true == true)) from w_eq_bool (w_res rfl) w_lit) rfl
theorem A2 {l : OpenLaw} {n : Nat} {q : Program} {loose : List Str} {XP : (Str -> Option Value) -> Heap -> Prop} {YP : World -> Heap -> Prop} {d : DefRec}
   (hn : l.most = some n) (Zh : d.params.defaults = [])
   (call : ∀ (w : World) (s₀ s₁ : Shared) (mg mb : Str -> Option Value) (fa : Addr) (o : Obj) (pm cd doc : Value) (a : Addr) (vs : List Value) (ns : List Int),
     Ground q loose [] XP w s₀ mg mb s₁.heap -> YP w s₁.heap →
     s₁.heap.get? fa = some o -> o.data = .func (docDef d.name d.params d.body d.scope pm cd doc) -> s₁.heap.CodeRec cd d.name -> mg d.name = some (.ref fa) →
     s₁.heap.get? a = some { cls := .type "list", data := .seq vs.toArray } -> IntsAre vs ns -> ns.length <= n -> s₁.gens = #[] →
     codeAny (model l.prog w) callerA (.call (.ref fa) ⟨[.ref a], []⟩) (fun r s' => r = .ok (.ret (.bool true)) /\ OldK s₁.heap s'.heap /\ s'.os = s₁.os /\ AllBare s'.gens) s₁) :
   WalkO q loose XP YP l.row.toRowW d [] (fun f vs => PySem.call f vs) := by
 intro w s₀ s₁ mg mb G Y fa o pm cd doc dV kV ho hd kE hD SR hg args vals as Gq hlay hrd hwl hlo
 obtain rfl : dV = .none := Dflts.none hD Zh
 obtain rfl : kV = .none := Dflts.noKw hD
 obtain ⟨a, vs, ns, rfl, rfl, U3, hints, hlen⟩ := Gp hn Gq hwl
 refine enter_call (codeAny_mono (call w s₀ s₁ mg mb fa o pm cd doc a vs ns G Y ho (fd_plain hd) kE SR U3 hints hlen hg) fun r s' hq => ?_)
 obtain ⟨rfl, h2, h3, h4⟩ := hq
 exact ⟨.inl ⟨.bool true, .bool true, [], rfl, fun _ => rfl, .bool true, Gs l _, fun _ => ⟨List.Pairwise.nil, fun _ hm => (nomatch hm)⟩⟩, h2, h3, h4⟩
def ledger (h : Heap) (L d : Addr) : List (Addr × Obj) := (List.range h.objs.size).filterMap fun a => if a = L \/ a = d then none else (h.get? a).map fun o => (a, o)
end Att
namespace L2
open PySem PySem.Spec PyProof.Rows
theorem xK : ∀ {vs : List Value} {ns : List Int}, IntsAre vs ns -> Vals (ns.map V.int) vs
 | _, _, .nil => .nil
 | _, _, .cons n t h => .cons ⟨t, rfl⟩ (xK h)
def Only (H : Hp) : Prop := ∀ b, H b = none \/ ∃ o xs, H b = some (.bM o (.lst xs))
variable {P : Program} {w : World} {a : Addr} {x : Str}
theorem Jp {K : Q.h} {mg mb : Str -> Option Value} {CX : Jd} {k : Nat} {fa : Addr} {fd : FuncData} {sp : Sp} {s₁ : Shared} {vs : List Value} {ns : List Int}
   (KX : K.In s₁.heap) (hns : s₁.heap.Ns mainGlobals mg) (hb : s₁.heap.Ns builtinsNs mb) (hbb : ∀ x : Str, x ≠ "__name__" -> mb x = bootBuiltins x) (acL : s₁.heap.NoLimit) (hg : s₁.gens = #[])
   (ha : s₁.heap.get? a = some { cls := .type "list", data := .seq vs.toArray }) (hi : IntsAre vs ns) (hl : ns.length <= sizeLine) (hr : fk k callerA)
   (F : ∀ base : Heap, K.In base -> base.Ns mainGlobals mg -> gH P w K mg base CX k fa fd [x] sp) (Zi : ∀ (s : Shared) (u : Value), BindsTo s fd ⟨[u], []⟩ [(x, u)])
   (SN : ∀ H : Hp, Only H -> kZ K H a (ns.map V.int) -> sp [.ref a] H (fun v _ => v = .bl true) fun _ _ _ => False)
   (hCX : ∀ H e s', CX [] H s₁ (fun _ _ _ => False) e s' -> False) :
   codeAny (model P w) callerA (.call (.ref fa) ⟨[.ref a], []⟩) (fun r s' => r = .ok (.ret (.bool true)) /\ OldK s₁.heap s'.heap /\ s'.os = s₁.os /\ AllBare s'.gens) s₁ := by
 have rv := xK hi
 have acN := hi.length
 have core : ∀ H : Hp, Only H -> kZ K H a (ns.map V.int) -> qi P w H s₁.heap -> (∀ b, H b ≠ none -> b = a) -> (H a ≠ none -> K.lookup a = none) →
     codeAny (model P w) callerA (.call (.ref fa) ⟨[.ref a], []⟩) (fun r s' => r = .ok (.ret (.bool true)) /\ OldK s₁.heap s'.heap /\ s'.os = s₁.os /\ AllBare s'.gens) s₁ := by
   intro H hO hS cP hA hK
   have Er : ∀ {b : Addr} {o : Obj}, s₁.heap.get? b = some o -> H b = none -> (yp s₁.heap H).get? b = some o := fun e n => IW e n
   have Y8 : ∀ {b : Addr} {o : Obj} {es : Array DictEntry} {ep : Nat}, s₁.heap.get? b = some o -> o.data = .dict es ep -> H b = none := fun {b o es ep} e d => by
     cases q : H b with
     | none => rfl
     | some u =>
       have e' : b = a := hA b (by rw [q]; simp)
       subst e'
       rw [ha] at e; cases e
       have d' : Data.seq vs.toArray _ = Data.dict es ep := d
       cases d'
   have nsK : ∀ {b : Addr} {m : Str -> Option Value}, s₁.heap.Ns b m -> (yp s₁.heap H).Ns b m := fun {b m} ⟨o, es, ep, e, d, r⟩ => ⟨o, es, ep, Er e (Y8 e d), d, r⟩
   have hKb : K.In (yp s₁.heap H) := fun b o e => Er (KX b o e) (by
     cases q : H b with
     | none => rfl
     | some u =>
       have e' : b = a := hA b (by rw [q]; simp)
       subst e'
       rw [hK (by rw [q]; simp)] at e; cases e)
   have hM : Mod K mg (yp s₁.heap H) := ⟨hKb, nsK hns, ⟨mb, nsK hb, hbb⟩, let ⟨mc, h1, h2⟩ := acL; ⟨mc, nsK h1, h2⟩⟩
   have e0 : wV P w K mg (yp s₁.heap H) callerA [] s₁ H := ⟨rfl, hM, fun b o e => Ol e, Nat.le_of_eq (F8 _ _), trivial, fun b hb => absurd (show b ∈ ([] : List Addr) from hb) (by simp), cP, .of_eq hg⟩
   refine codeAny_mono ((F _ hKb (nsK hns)).run callerA [] s₁ H ⟨[.ref a], []⟩ [.ref a] [.ref a] _ _ hr e0 (Zi s₁ (.ref a)) (.cons rfl .nil) (SN H hO hS)) fun r s' h => ?_
   cases r with
   | error e => exact (hCX H e s' h).elim
   | ok fl =>
     cases fl with
     | next => exact False.elim h
     | brk => exact False.elim h
     | cont => exact False.elim h
     | ret u =>
       obtain ⟨v, H', os, bare, un, acO, r', q⟩ := h
       have q' : v = .bl true := q
       subst q'
       obtain rfl : u = Value.bool true := r'
       refine ⟨rfl, OldK.of_keep fun b o e => ?_, os, bare⟩
       cases q : H b with
       | none => exact un.keep b o e q (by intro z; exact absurd (show b ∈ ([] : List Addr) from z) (by simp)) (by simp)
       | some u =>
         rcases hO b with z | ⟨ob, xs, z⟩
         . rw [q] at z; cases z
         . have z2 := un.gj b ob _ z
           obtain ⟨e1, _⟩ := cP b _ z
           obtain ⟨e2, _⟩ := acO b _ z2
           rw [e] at e1; cases e1
           exact e2
 cases hk : K.lookup a with
 | some o =>
   have e := KX a o hk
   rw [ha] at e
   cases e
   refine core (fun _ => none) (fun _ => .inl rfl) (.inr ⟨_, vs.toArray, _, hk, rfl, rfl, rfl, by rw [List.size_toArray, acN]; exact hl, by simpa using rv⟩) (fun b u z => by have z' : (none : Option HO) = some u := z; cases z') (fun b z => absurd rfl z) fun z => absurd rfl z
 | none =>
   refine core (fun b => if b = a then some (.bM { cls := .type "list", data := .seq vs.toArray } (.lst (ns.map V.int))) else none) (fun b => ?_) (.inl (.inr ⟨{ cls := .type "list", data := .seq vs.toArray }, ah7 rfl⟩)) (fun b u z => ?_) (fun b z => ?_) fun _ => hk
   . by_cases hb : b = a
     . exact .inr ⟨_, _, ah7 hb⟩
     . exact .inl (ahX hb)
   . by_cases hb : b = a
     . have z' := (ah7 hb).symm.trans z
       cases z'
       subst hb
       exact ⟨ha, by rw [ahK]; exact hl, vs, _, rv, ha⟩
     . have z' := (ahX hb).symm.trans z
       cases z'
   . by_cases hb : b = a
     . exact hb
     . exact absurd (ahX hb) z
theorem O2 {l : PySem.W.OpenLaw} {n k : Nat} {q : Program} {loose : List Str} {XP : (Str -> Option Value) -> Heap -> Prop} {YP : World -> Heap -> Prop} {d : DefRec} {K : Params -> PySem.W.Frag} {CX : World -> Jd} {sp : World -> Sp}
   (hn : l.most = some n) (SK : n <= sizeLine) (Zh : d.params.defaults = []) (hr : fk k callerA)
   (hY : ∀ (w : World) (h : Heap), YP w h -> (K w.params).In h)
   (F : ∀ (w : World) (mg : Str -> Option Value) (fa : Addr) (h : Heap), (K w.params).In h -> h.Ns mainGlobals mg -> mg d.name = some (.ref fa) →
     ∃ fd : FuncData, (∀ (s : Shared) (u : Value), BindsTo s fd ⟨[u], []⟩ [(x, u)]) ∧
       ∀ base : Heap, (K w.params).In base -> base.Ns mainGlobals mg -> gH l.prog w (K w.params) mg base (CX w) k fa fd [x] (sp w))
   (SN : ∀ (w : World) (H : Hp) (a : Addr) (ns : List Int), ns.length <= n -> Only H -> kZ (K w.params) H a (ns.map V.int) -> sp w [.ref a] H (fun v _ => v = .bl true) fun _ _ _ => False)
   (hCX : ∀ (w : World) (H : Hp) (s : Shared) (e : Value) (s' : Shared), CX w [] H s (fun _ _ _ => False) e s' -> False) :
   PySem.W.WalkO q loose XP YP l.row.toRowW d [] (fun f vs => PySem.call f vs) := by
 refine Att.A2 hn Zh fun w s₀ s₁ mg mb fa o pm cd doc a vs ns G Y ho hd kE SR U3 hints hlen hg => ?_
 have KX := hY w _ Y
 obtain ⟨fd, hb, hF⟩ := F w mg fa _ KX G.T.g SR
 exact Jp KX G.T.g G.T.b G.T.builtins G.T.nolimit hg U3 hints (aiD hlen SK) hr hF hb (fun H hO hS => SN w H a ns hlen hO hS) fun H e s' => hCX w H s₁ e s'
def inClass (s : Stmt) (j : Nat) : Stmt := match s with
 | .ClassDef _ _ _ body _ _ _ _ _ _ _ => body.getD j (.Pass ⟨0, 0, 0, 0⟩)
 | _ => .Pass ⟨0, 0, 0, 0⟩
def qv (s : Stmt) : Arguments := match s with
 | .FunctionDef _ a _ _ _ _ _ _ _ _ => a
 | _ => { posonlyargs := [], args := [], vararg := none, kwonlyargs := [], kw_defaults := [], kwarg := none, defaults := [] }
def fq (s : Stmt) : List Stmt := match s with
 | .FunctionDef _ _ b _ _ _ _ _ _ _ => b
 | _ => []
def au (s : Stmt) : Scope := match s with
 | .FunctionDef _ _ _ _ _ _ sc _ _ _ => sc
 | _ => { kind := .function, names := [], isGenerator := false, isCoroutine := false }
abbrev sR : Jd := fun _ _ _ _ _ _ => False
abbrev E0 : XK := fun _ _ _ => False
variable {X : Cx}
theorem Es : Passes sR X E0 := fun _ _ _ _ _ _ _ h => h.elim
structure kG (K : Q.h) (x qual : Str) (st : Stmt) (f : Addr) (fd : FuncData) : Prop where
 ex : ∃ (oc : Value) (od : Option Addr) (kV doc pm : Value) (an : Option Addr) (i7 ct : Value) (Jh : Array (Option Value)),
   fd = PySem.W.fnOf x qual (qv st) (fq st) (au st) .none kV doc pm an i7 ct /\ K.lookup f = some ⟨oc, od, .func fd, Jh⟩ /\ PySem.W.codeIn K i7 qual = true
 kp : PySem.W.keepIn K (.ref f) = true
variable {K : Q.h} {mg : Str -> Option Value} {base : Heap}
theorem kG.ok {qual : Str} {st : Stmt} {f : Addr} {fd : FuncData} {N ps : List Str} {k : Nat} {sp : Sp} (F : kG K x qual st f fd) (S : aQ N ps (au st)) (len : ∀ vs H Q E, sp vs H Q E -> vs.length = ps.length)
   (Ji : ∀ (i7 : Value) (A : Around) (outer : List Env) (s : Shared) (H : Hp) (vs : List V) (Q : VK) (E : XK), fk k (A.deeper (envOfC qual (au st) s.heap.objs.size f i7)) -> sp vs H Q E →
     ∃ t, Ef (u5 sR P w K mg base N qual (au st) f i7 A outer s H E).Ov (fq st) t /\ t { nx := fun _ H' => Q .non H', rt := Q } (start N vs) H) : gH P w K mg base sR (k + 1) f fd ps sp := by
 obtain ⟨oc, od, kV, doc, pm, an, i7, ct, Jh, rfl, lk, kE⟩ := F.ex
 refine Y9 lk kE S len fun A outer s H vs Q E hr SN => ?_
 obtain ⟨t, h, q⟩ := Ji i7 A outer s H vs Q E hr SN
 exact ⟨t, h.Ov, q⟩
theorem kG.binds {qual : Str} {st : Stmt} {f : Addr} {fd : FuncData} {ps : List Str} (F : kG K x qual st f fd)
   (h : ∀ (kV doc pm : Value) (an : Option Addr) (i7 ct : Value) (us : List Value), us.length = ps.length -> bindArgs (PySem.W.fnOf x qual (qv st) (fq st) (au st) .none kV doc pm an i7 ct) ⟨us, []⟩ = pure (ps.zip us)) : Binds K fd ps [] := by
 obtain ⟨oc, od, kV, doc, pm, an, i7, ct, Jh, rfl, lk, kE⟩ := F.ex
 exact .all (h kV doc pm an i7 ct)
theorem bX {qual : Str} {st : Stmt} {f : Addr} {oc : Value} {od an : Option Addr} {Jh : Array (Option Value)} {kV doc pm i7 ct : Value} (l : K.lookup f = some ⟨oc, od, .func (PySem.W.fnOf x qual (qv st) (fq st) (au st) .none kV doc pm an i7 ct), Jh⟩)
   (c : PySem.W.codeIn K i7 qual = true) (k : PySem.W.keepIn K (.ref f) = true) : kG K x qual st f (PySem.W.fnOf x qual (qv st) (fq st) (au st) .none kV doc pm an i7 ct) := ⟨⟨oc, od, kV, doc, pm, an, i7, ct, Jh, rfl, l, c⟩, k⟩
theorem gD {n : Nat} (h : n <= 1000) : n < sizeLine := ajQ h Q.c
theorem Jq {A B : Prop} (h : B) : if false = true then A else B := by
 rw [ahX ah8]
 exact h
theorem Jr {A B : Prop} (h : A) : if true = true then A else B := by
 rw [ah7 rfl]
 exact h
def ay (H H' : Hp) : Prop := ∀ b o, H b = some o -> H' b = some o
theorem ay.refl (H : Hp) : ay H H := fun _ _ h => h
variable {H : Hp}
theorem ay.trans {H1 H2 : Hp} (a : ay H H1) (b : ay H1 H2) : ay H H2 := fun c o h => b c o (a c o h)
variable {H' : Hp}
theorem ay.free (e : ay H H') {l : Addr} (h : H' l = Option.none) : H l = Option.none := by
 cases q : H l with
 | none => rfl
 | some o =>
   rw [e l o q] at h
   cases h
theorem ay.seq {xs : List V} (e : ay H H') (h : kZ K H a xs) : kZ K H' a xs := by
 rcases h with (h | ⟨o, h⟩) | h
 . exact .inl (.inl (e _ _ h))
 . exact .inl (.inr ⟨o, e _ _ h⟩)
 . exact .inr h
section
variable {κ : Type} [DecidableEq κ]
def gn (kvs : List (κ × V)) (k : κ) : Option V := (kvs.find? fun kv => decide (kv.1 = k)).map (·.2)
def putK (kvs : List (κ × V)) (k : κ) (v : V) : List (κ × V) :=
 if (kvs.any fun kv => decide (kv.1 = k)) = true then kvs.map (fun kv => if kv.1 = k then (kv.1, v) else kv) else kvs ++ [(k, v)]
theorem kH {p : κ × V} {r : List (κ × V)} {k : κ} (e : p.1 = k) : gn (p :: r) k = some p.2 := by simp [gn, ajt, e]
theorem kI {p : κ × V} {r : List (κ × V)} {k : κ} (e : ¬ p.1 = k) : gn (p :: r) k = gn r k := by simp [gn, ajt, e]
theorem qw (k : κ) : ∀ kvs : List (κ × V), (kvs.any fun kv => decide (kv.1 = k)) = (gn kvs k).isSome
 | [] => rfl
 | p :: r => by
   rw [aj7]
   by_cases e : p.1 = k
   . simp only [kH e, ai0 e, Bool.true_or, Option.isSome_some]
   . rw [kI e, aio e, Bool.false_or]; exact qw k r
theorem sS (kvs : List (κ × V)) (k : κ) (v : V) : (putK kvs k v).length <= kvs.length + 1 := by
 unfold putK
 split
 . rw [ahK]; omega
 . rw [ah1, aiR, List.length_nil]; omega
theorem Js {kvs : List (κ × V)} {k : κ} (v : V) (h : gn kvs k = none) : putK kvs k v = kvs ++ [(k, v)] := by
 unfold putK
 rw [qw, h]
 exact ahX Q.c
theorem oY.xM {o : Option V} {u : Option Value} (r : oY o u) : o.isSome = u.isSome := by
 cases o with
 | none => cases u with
   | none => rfl
   | some _ => exact (show False from r).elim
 | some _ => cases u with
   | none => exact (show False from r).elim
   | some _ => rfl
theorem oY.getD {o : Option V} {u : Option Value} {d : V} {d' : Value} (r : oY o u) (rd : RelV d d') : RelV (o.getD d) (u.getD d') := by
 cases o with
 | none => cases u with
   | none => exact rd
   | some _ => exact (show False from r).elim
 | some _ => cases u with
   | none => exact (show False from r).elim
   | some _ => exact r
theorem KV.val {kvs : List (κ × V)} {vs : List (κ × Value)} (r : KV kvs vs) (k : κ) : oY (gn kvs k) (valueAt vs k) := by
 unfold KV at r
 induction r with
 | nil => exact True.intro
 | @cons p q ps qs h t ih =>
   obtain ⟨h1, h2⟩ := h
   by_cases e : p.1 = k
   . have e' : q.1 = k := h1.symm.trans e
     have b : valueAt (q :: qs) k = some q.2 := by simp [valueAt, ajt, e']
     rw [kH e, b]; exact h2
   . have e' : ¬ q.1 = k := fun z => e (h1.trans z)
     have b : valueAt (q :: qs) k = valueAt qs k := by simp [valueAt, ajt, e']
     rw [kI e, b]; exact ih
theorem KV.any {kvs : List (κ × V)} {vs : List (κ × Value)} (r : KV kvs vs) (k : κ) : (kvs.any fun kv => decide (kv.1 = k)) = vs.any fun kv => decide (kv.1 = k) := by
 unfold KV at r
 induction r with
 | nil => rfl
 | cons h t ih => rw [aj7, aj7, ih, h.1]
theorem KV.repl {kvs : List (κ × V)} {vs : List (κ × Value)} (r : KV kvs vs) (k : κ) {y : V} {u : Value} (ry : RelV y u) :
   KV (kvs.map fun kv => if kv.1 = k then (kv.1, y) else kv) (vs.map fun kv => if kv.1 = k then (kv.1, u) else kv) := by
 unfold KV at r ⊢
 induction r with
 | nil => exact .nil
 | @cons p q ps qs h t ih =>
   rw [ah6, ah6]
   refine .cons ?_ ih
   obtain ⟨h1, h2⟩ := h
   by_cases e : p.1 = k
   . rw [ah7 e, ah7 (h1.symm.trans e)]; exact ⟨h1, ry⟩
   . rw [ahX e, ahX (fun z => e (h1.trans z))]; exact ⟨h1, h2⟩
theorem KV.put {kvs : List (κ × V)} {vs : List (κ × Value)} (r : KV kvs vs) (k : κ) {y : V} {u : Value} (ry : RelV y u) : KV (putK kvs k y) (stored vs k u) := by
 unfold putK stored
 rw [r.any k]
 by_cases e : (vs.any fun kv => decide (kv.1 = k)) = true
 . rw [ah7 e, ah7 e]; exact r.repl k ry
 . rw [ahX e, ahX e]; exact Paired.snoc r ⟨rfl, ry⟩
theorem KV.length {kvs : List (κ × V)} {vs : List (κ × Value)} (r : KV kvs vs) : kvs.length = vs.length := ai9 r
end
variable {u : Value}
theorem Jt {k : Key} (r : RelV (kV k) u) : (eU P w).is k u = true := by
 cases k with
 | inl i => obtain ⟨t, e⟩ := (show ∃ t, u = Value.int i t from r); subst e; exact AQ P w i t
 | inr x => obtain ⟨t, e⟩ := (show ∃ t, u = Value.str x t from r); subst e; exact AU P w x t
theorem rV {P : Program} {w : World} : ∀ {ks : List Key} {us : List Value}, Vals (ks.map kV) us -> ItemsAre (eU P w) ks us
 | [], _, r => by rw [ajz] at r; cases r; exact .nil
 | k :: ks, _, r => by
   rw [ah6] at r
   cases r with
   | cons h t => exact .cons (Jt h) (rV t)
abbrev KT (H : Hp) : List (List Key × V) -> List (List Key × Addr × Value) -> Prop := Paired fun p q => p.1 = q.1 /\ H q.2.1 = some (.tup (p.1.map kV)) /\ RelV p.2 q.2.2
variable {kvs : Q.m} {xs : List (List Key × Addr × Value)}
theorem KT.val (r : KT H kvs xs) (k : List Key) : oY (gn kvs k) ((atKey xs k).map (·.2)) := by
 induction r with
 | nil => exact True.intro
 | @cons p q ps qs h t ih =>
   obtain ⟨h1, _, h2⟩ := h
   by_cases e : p.1 = k
   . have e' : q.1 = k := h1.symm.trans e
     have b : atKey (q :: qs) k = some q.2 := by simp [atKey, ajt, e']
     rw [kH e, b]; exact h2
   . have e' : ¬ q.1 = k := fun z => e (h1.trans z)
     have b : atKey (q :: qs) k = atKey qs k := by simp [atKey, ajt, e']
     rw [kI e, b]; exact ih
variable {y : V}
theorem KT.repl (r : KT H kvs xs) (k : List Key) (ry : RelV y u) :
   KT H (kvs.map fun kv => if kv.1 = k then (kv.1, y) else kv) (xs.map (putAt k u)) := by
 induction r with
 | nil => exact .nil
 | @cons p q ps qs h t ih =>
   rw [ah6, ah6]
   refine .cons ?_ ih
   obtain ⟨h1, h2, h3⟩ := h
   unfold putAt
   by_cases e : p.1 = k
   . rw [ah7 e, ah7 (h1.symm.trans e)]; exact ⟨h1, h2, ry⟩
   . rw [ahX e, ahX (fun z => e (h1.trans z))]; exact ⟨h1, h2, h3⟩
theorem KT.put (r : KT H kvs xs) (k : List Key) {b : Addr} (hb : H b = some (.tup (k.map kV))) (ry : RelV y u) :
   KT H (putK kvs k y) (storedH xs k b u) := by
 have e : (kvs.any fun kv => decide (kv.1 = k)) = (atKey xs k).isSome := by
   rw [qw, (r.val k).xM, Option.isSome_map]
 unfold putK storedH
 rw [e]
 by_cases q : (atKey xs k).isSome = true
 . rw [ah7 q, ah7 q]; exact r.repl k ry
 . rw [ahX q, ahX q]; exact Paired.snoc r ⟨rfl, hb, ry⟩
theorem KT.keeps (r : KT H kvs xs) (ht : ∀ b ys, H b = some (.tup ys) -> H' b = some (.tup ys)) : KT H' kvs xs :=
 Paired.Ug r fun _ _ z => ⟨z.1, ht _ _ z.2.1, z.2.2⟩
variable {h : Heap}
theorem Ju {u : HO} (ok : qi P w H h) (e : Rd H a u) : cQ P w H h a u := e.ok ok
theorem Jv {kvs : List (Key × V)} (ok : qi P w H h) (e : Rd H a (.dK kvs)) : kvs.length <= sizeLine /\ (a == sysModules) = false /\ ∃ vs, KV kvs vs /\ h.DictOf (eU P w) a vs :=
 show cQ P w H h a (.dK kvs) from Ju ok e
theorem Zj {kvs : List (Key × V)} (ok : qi P w H h) (e : H a = some (.dK kvs)) : kvs.length <= sizeLine /\ (a == sysModules) = false /\ ∃ vs, KV kvs vs /\ h.DictOf (eU P w) a vs := Jv ok (.inl e)
theorem Cr {ks : List Key} (ok : qi P w H h) (e : H a = some (.tup (ks.map kV))) : (tupleKind (eU P w)).is h ks a := by
 obtain ⟨_, its, r, o, h1, h2, n, h3⟩ := (show cQ P w H h a (.tup (ks.map kV)) from ok a _ e)
 exact ⟨o, its.toArray, n, h1, h2, h3, by simpa using rV r⟩
theorem kJ (ok : qi P w H h) (e : Rd H a (.dT kvs)) : kvs.length <= sizeLine /\ (a == sysModules) = false ∧
   ∃ xs, KT H kvs xs /\ h.DictOfH (tupleKind (eU P w)) a xs := by
 obtain ⟨z, y, xs, r, o, es, ep, h1, h2, h3, h4, h5⟩ := (show cQ P w H h a (.dT kvs) from Ju ok e)
 refine ⟨z, y, xs, r, o, es, ep, h1, h2, h3, h4, fun x hx => ?_, h5⟩
 have all : ∀ {l : Q.m} {m : List (List Key × Addr × Value)}, KT H l m -> ∀ x ∈ m, (tupleKind (eU P w)).is h x.1 x.2.1 := by
   intro l m q
   induction q with
   | nil => intro x hx; exact nomatch hx
   | @cons p q ps qs hq t ih =>
     intro x hx
     rcases ahT.mp hx with e | hx
     . subst e
       exact Cr ok (by rw [← hq.1]; exact hq.2.1)
     . exact ih x hx
 exact all r x hx
theorem SV (ok : qi P w H h) (e : H a = some (.dT kvs)) : kvs.length <= sizeLine /\ (a == sysModules) = false ∧
   ∃ xs, KT H kvs xs /\ h.DictOfH (tupleKind (eU P w)) a xs := kJ ok (.inl e)
def Ct (H : Hp) (a : Addr) (y : V) (r : Option V) : Prop :=
 (∃ kvs k, Rd H a (.dK kvs) /\ y = kV k /\ r = gn kvs k) \/ ∃ kvs k b, Rd H a (.dT kvs) /\ y = .ref b /\ H b = some (.tup (k.map kV)) /\ r = gn kvs k
def Gu (H : Hp) (a : Addr) (y v : V) (H' : Hp) : Prop :=
 (∃ kvs k, H a = some (.dK kvs) /\ y = kV k /\ kvs.length < sizeLine /\ H' = upd H a (.dK (putK kvs k v))) ∨
 ∃ kvs k b, H a = some (.dT kvs) /\ y = .ref b /\ H b = some (.tup (k.map kV)) /\ kvs.length < sizeLine /\ H' = upd H a (.dT (putK kvs k v))
theorem Gu.t {b : Addr} {k : List Key} {v : V} (e : H a = some (.dT kvs)) (eb : H b = some (.tup (k.map kV))) (hl : kvs.length < sizeLine) :
   Gu H a (.ref b) v (upd H a (.dT (putK kvs k v))) := .inr ⟨kvs, k, b, e, rfl, eb, hl, rfl⟩
variable {pins : Q.j} {σ : St} {s : Shared} {v : V} {r : Value} {o : Option V} {A : Around} {E : Q.k}
theorem Inv.big (I : Q.g) : sysModules < s.heap.objs.size := by
 have h : mainGlobals < s.heap.objs.size := (I.mod.glob.keeps I.bk).lt
 exact Nat.lt_trans Q.c h
theorem Gv {Q : Q.k} (hu : A.units + 1 < cLine) (I : Q.g) (g : Ct H a y (some v)) (ry : RelV y u) (h : ∀ w' s', Inv X pins σ H s' -> RelV v w' -> Q w' s') :
   wpAny Q.f A (getItem (.ref a) u) Q E s := by
 rcases g with ⟨kvs, k, e, ey, l⟩ | ⟨kvs, k, b, e, ey, eb, l⟩
 . subst ey
   obtain ⟨z, hd, vs, rel, dd⟩ := Jv I.cP e
   obtain ⟨w', hw, A1⟩ := oY.some_of (v := v) (o := valueAt vs k) (by rw [l]; exact rel.val k)
   exact wpAny_getItem_of (Jt ry) dd.mapOf hw (h w' _ (I.tok _) A1)
 . subst ey
   cases (show u = Value.ref b from ry)
   obtain ⟨z, hd, xs, rel, dd⟩ := kJ I.cP e
   obtain ⟨w', hw, A1⟩ := oY.some_of (v := v) (o := (atKey xs k).map (·.2)) (by rw [l]; exact rel.val k)
   obtain ⟨p, hp, AI⟩ := aib.mp hw
   refine wpAny_getItem_heap (ajA hu) (Cr I.cP eb) dd hp ?_
   rw [AI]
   exact h w' _ (I.tok _) A1
theorem qx {h' : Heap} {t' : Nat} {ob : HO} (I : Q.g) (mu : Yt (H a)) (hs : Heap.SameBut a s.heap h') (he : ∃ q, h'.get? a = some q) (new : cQ X.prog X.w (upd H a ob) h' a ob) :
   Inv X pins σ (upd H a ob) { s with heap := h', toks := t' } :=
 I.write (x := a) (e := a) mu (.inl rfl) (fun b q hb z => (hs.2 b hb).trans z) he new
theorem U4 {h' : Heap} {kvs : List (Key × V)} {vs : List (Key × Value)} (z : kvs.length <= sizeLine) (hd : (a == sysModules) = false) (rel : KV kvs vs) (dd : h'.DictOf (eU P w) a vs) :
   cQ P w H' h' a (.dK kvs) := ⟨z, hd, vs, rel, dd⟩
theorem Gw {Q : Unit -> Shared -> Prop} (hu : A.units + 1 < cLine) (I : Q.g) (g : Gu H a y v H') (ry : RelV y u) (rv : RelV v r) (h : ∀ s', Inv X pins σ H' s' -> Q () s') :
   wpAny Q.f A (setItem (.ref a) u r) Q E s := by
 rcases g with ⟨kvs, k, e, ey, l, eH⟩ | ⟨kvs, k, b, e, ey, eb, l, eH⟩
 . subst ey eH
   obtain ⟨z, hd, vs, rel, dd⟩ := Zj I.cP e
   have hz : vs.length <= sizeLine := by rw [← rel.length]; exact z
   have hl : (putK kvs k v).length <= sizeLine := by have := sS kvs k v; omega
   refine wpAny_setItem_pairs (hsz := hz) (Jt ry) dd fun h' A3 hs => h _ ?_
   have he : ∃ q, h'.get? a = some q := let ⟨q, _, _, hq, _⟩ := A3; ⟨q, hq⟩
   exact qx I (by rw [e]; exact True.intro) hs he (U4 hl hd (rel.put k rv) A3)
 . subst ey eH
   cases (show u = Value.ref b from ry)
   obtain ⟨z, hd, xs, rel, dd⟩ := SV I.cP e
   have hz : xs.length <= sizeLine := by rw [← ai9 rel]; exact z
   have hl : (putK kvs k v).length <= sizeLine := by have := sS kvs k v; omega
   refine wpAny_setItem_heap (hsz := hz) (ajA hu) (Cr I.cP eb) dd fun h' A3 hs => h _ ?_
   obtain ⟨q, es, ep, hq, h2, h3, h4, _, h5⟩ := A3
   refine qx I (by rw [e]; exact True.intro) hs ⟨q, hq⟩ ⟨hl, hd, _, (rel.put k eb rv).keeps fun c ys ec => ?_, q, es, ep, hq, h2, h3, h4, h5⟩
   rw [ao (Sy ec e (fun z => nomatch z))]
   exact ec
def yI (i : Expr) : Prop := ∀ ov iv, subscripted i false ov iv = operate [ov, iv] (getItem ov iv)
theorem yJ {prog : Program} {env : Env} {value slice : Expr} {pos : Pos} {T id : String} {Q : Q.k}
   (hl : typeLookup (.type T) "__getitem__" = pure (some (.builtin id))) (hs : yI slice)
   (h : wpAny (model prog w) A (eval value env) (fun o s₁ => wpAny (model prog w) A (eval slice env) (fun i s₂ => s₂.TypeIs o T /\ wpAny (model prog w) A (getItem o i) Q E s₂) E s₁) E s) :
   wpAny (model prog w) A (eval (.Subscript value slice pos) env) Q E s := by
 refine Subscript_ (aja h (fun o s₁ h₁ => aja h₁ (fun i s₂ h₂ => ?_) fun _ _ x => x) fun _ _ x => x)
 obtain ⟨hT, h₂⟩ := h₂
 unfold subscriptTail
 refine ahJ ?_
 rw [getitemInPython_of_ne hT.not_modules]
 refine ahJ (ajR hT hl ?_)
 have fin : wpAny (model prog w) A (subscripted slice false o i) (fun r s₃ => wpAny (model prog w) A (letTemporaryGo value o r >>= fun _ => pure r) Q E s₃) E s₂ := by
   rw [hs o i]
   exact wpAny_operating (aja h₂ (fun r s₃ h₃ => ahJ (wpAny_letTemporaryGo (ahO h₃))) fun _ _ x => x)
 first
   | exact ahO (ahJ fin)
   | exact ahJ (ahO (ahJ fin))
   | exact ahJ fin
theorem A4 (I : Q.g) (g : Ct H a y o) : s.TypeIs (.ref a) "dict" := by
 rcases g with ⟨kvs, k, e, _, _⟩ | ⟨kvs, k, b, e, _, _, _⟩
 . obtain ⟨_, _, vs, _, dd⟩ := Jv I.cP e
   exact dd.typeIs
 . obtain ⟨_, _, xs, _, dd⟩ := kJ I.cP e
   exact dd.typeIs
def Zk (td ty : TE) : TE := fun σ H Q => td σ H fun x H1 => ty σ H1 fun y H2 => ∃ a v, x = .ref a /\ Ct H2 a y (some v) /\ Q v H2
def Zm (td ty tv : TE) : TS := fun D σ H => tv σ H fun v H1 => td σ H1 fun x H2 => ty σ H2 fun y H3 => ∃ a H4, x = .ref a /\ Gu H3 a y v H4 /\ D.nx σ H4
variable {o i value : Expr} {pos pos' : Pos} {td ty tv : TE}
theorem Et (hu : X.A.units + 1 < cLine) (ho : PE X o td) (hi : PE X i ty) (hs : yI i) : PE X (.Subscript o i pos) (Zk td ty) := by
 intro pins s σ H Q I h
 refine yJ akc.lookup hs (eO (ho pins s σ H _ I h) fun u s1 ⟨x, H1, I1, rx, q1⟩ => eO (hi pins s1 σ H1 _ I1 q1) fun iv s2 zz => ?_)
 obtain ⟨y, H2, I2, ry, a, v, ex, g, q2⟩ := zz
 subst ex
 obtain rfl : u = Value.ref a := rx
 exact ⟨A4 I2 g, Gv hu I2 g ry fun w' s3 I3 A1 => ⟨v, H2, I3, A1, q2⟩⟩
theorem Eu (hu : X.A.units + 1 < cLine) (ho : PE X o td) (hi : PE X i ty) (hv : PE X value tv) (hs : swapsWith value (some (.Subscript o i pos')) pos.line X.env = pure false) :
   PS X (.Assign [.Subscript o i pos'] value pos) (Zm td ty tv) := by
 intro pins s σ H D I h
 refine wpAny_Assign_Subscript (eO (hv pins s σ H _ I h) fun r s1 ⟨v, H1, I1, rv, q1⟩ => eO (ho pins s1 σ H1 _ I1 q1) fun u s2 ⟨x, H2, I2, rx, q2⟩ => eO (hi pins s2 σ H2 _ I2 q2) fun iv s3 zz => ?_) hs
 obtain ⟨y, H3, I3, ry, a, H4, ex, g, q3⟩ := zz
 subst ex
 obtain rfl : u = Value.ref a := rx
 exact Gw hu I3 g ry rv fun s4 I4 => ⟨σ, H4, I4, q3⟩
theorem Jw (h : Heap) (hb : sysModules < h.objs.size) : cQ P w H (h.push { cls := .type "dict", data := .dict #[] }) h.objs.size (.dT []) :=
 ⟨aiB _, aiY.mpr (ajM (aiF hb)), [], .nil, _, #[], 0, aif _ rfl, ⟨rfl, rfl, rfl⟩, rfl, rfl, ajn⟩
def U5 : TE := fun _ H Q => ∀ p, H p = none -> Q (.ref p) (upd H p (.dT []))
theorem Jx : PE X (.Dict [] [] pos) U5 := fun pins s σ H Q I h =>
 wpAny_Dict_empty ⟨.ref s.heap.objs.size, _, I.laid (a := s.heap.objs.size) (o := .dT []) (t' := s.toks) (fun _ _ q => ah5 _ q) (ah0 _) (Jw s.heap I.big), rfl, h _ (I.cP.fresh (ah0 _))⟩
end L2
namespace L3
open PySem PySem.Spec PyProof.Rows L2
inductive D where
 | non | bl (b : Bool) | int (i : Int) | str (x : Str)
 | tup (ds : List D) | lst (ds : List D) | ins (c : Str) (fs : List (Str × D)) | oZ (kvs : List (Key × D))
 | dct (kvs : List (List Key × D))
 | any
 | val (v : V)
 | jc (w : World) (ds : List D)
inductive T where
 | sh (d : D) | tup (ts : List T) | lst (ts : List T) | ins (c : Str) (fs : List (Str × T)) | oZ (kvs : List (Key × D)) | dct (kvs : List (List Key × T))
 | pin (x : Addr) (t : T)
 | jc (w : World) (ds : List D)
mutual
def T.bM : T -> D
 | .sh d => d
 | .tup ts => .tup (gj ts)
 | .lst ts => .lst (gj ts)
 | .ins c fs => .ins c (vd fs)
 | .oZ kvs => .oZ kvs
 | .dct kvs => .dct (wX kvs)
 | .pin _ t => t.bM
 | .jc w ds => .jc w ds
def T.gj : List T -> List D
 | [] => []
 | t :: ts => t.bM :: T.gj ts
def T.vd : List (Str × T) -> List (Str × D)
 | [] => []
 | (x, t) :: fs => (x, t.bM) :: T.vd fs
def T.wX : List (List Key × T) -> List (List Key × D)
 | [] => []
 | (x, t) :: fs => (x, t.bM) :: T.wX fs
end
mutual
def D.Gr (w : World) : D -> Int
 | .int i => hashInt i
 | .str x => hashStr w x
 | .tup ds => reduceHash (Builtin.Tuple.tupleHashOf (D.yK w ds))
 | _ => 0
def D.yK (w : World) : List D -> List Int
 | [] => []
 | d :: ds => d.Gr w :: D.yK w ds
end
def A5 (w : World) (a : Addr) (ds : List D) (vs : List V) (h : Heap) : Prop :=
 (a == sysModules) = false /\ ∃ (xs : List (D × Addr × Value)) (o : Obj) (es : Array DictEntry) (ep : Nat), h.get? a = some o /\ o.ExactDict /\ o.data = .dict es ep /\ es.toList = xs.map (fun x => ⟨x.1.Gr w, .ref x.2.1, x.2.2⟩) /\ xs.map (·.1) = ds /\ xs.map (fun x => V.ref x.2.1) = vs /\ ∀ (i : Nat) x, xs[i]? = some x -> ∃ t, x.2.2 = .int i t
variable (K : Q.h) (CL : Q.d)
mutual
inductive aV (Z : Hp) : D -> V -> Prop where
 | non : aV Z .non .non
 | bl (b : Bool) : aV Z (.bl b) (.bl b)
 | int (i : Int) : aV Z (.int i) (.int i)
 | str (x : Str) : aV Z (.str x) (.str x)
 | any (v : V) : aV Z .any v
 | val (v : V) : aV Z (.val v) v
 | tup {a : Addr} {vs : List V} {ds : List D} : kD K Z a vs -> aA Z ds vs -> aV Z (.tup ds) (.ref a)
 | lst {a : Addr} {vs : List V} {ds : List D} : kZ K Z a vs -> aA Z ds vs -> aV Z (.lst ds) (.ref a)
 | ins {a dx : Addr} {c : Str} {gs : List (Str × V)} {fs : List (Str × D)} : Z a = some (.ins (CL c) dx gs) -> iI Z fs gs -> aV Z (.ins c fs) (.ref a)
 | oZ {a : Addr} {gs : List (Key × V)} {fs : List (Key × D)} : Z a = some (.dK gs) -> b8 Z fs gs -> aV Z (.oZ fs) (.ref a)
 | dct {a : Addr} {gs : Q.m} {fs : List (List Key × D)} : Rd Z a (.dT gs) -> bY Z fs gs -> aV Z (.dct fs) (.ref a)
 | jc {a : Addr} {w : World} {vs : List V} {ds : List D} : Z a = some (.ext (A5 w a ds vs)) -> aA Z ds vs -> aV Z (.jc w ds) (.ref a)
inductive aA (Z : Hp) : List D -> List V -> Prop where
 | nil : aA Z [] []
 | cons {d : D} {v : V} {ds : List D} {vs : List V} : aV Z d v -> aA Z ds vs -> aA Z (d :: ds) (v :: vs)
inductive iI (Z : Hp) : List (Str × D) -> List (Str × V) -> Prop where
 | nil : iI Z [] []
 | cons {x : Str} {d : D} {v : V} {ds : List (Str × D)} {vs : List (Str × V)} : aV Z d v -> iI Z ds vs -> iI Z ((x, d) :: ds) ((x, v) :: vs)
inductive b8 (Z : Hp) : List (Key × D) -> List (Key × V) -> Prop where
 | nil : b8 Z [] []
 | cons {x : Key} {d : D} {v : V} {ds : List (Key × D)} {vs : List (Key × V)} : aV Z d v -> b8 Z ds vs -> b8 Z ((x, d) :: ds) ((x, v) :: vs)
inductive bY (Z : Hp) : List (List Key × D) -> List (List Key × V) -> Prop where
 | nil : bY Z [] []
 | cons {x : List Key} {d : D} {v : V} {ds : List (List Key × D)} {vs : Q.m} : aV Z d v -> bY Z ds vs -> bY Z ((x, d) :: ds) ((x, v) :: vs)
end
mutual
inductive bu (H Z : Hp) : T -> V -> List Addr -> Prop where
 | sh {d : D} {v : V} : aV K CL Z d v -> bu H Z (.sh d) v []
 | tup {a : Addr} {vs : List V} {ts : List T} {fp : List Addr} : Z a = some (.tup vs) -> aI H Z ts vs fp -> bu H Z (.tup ts) (.ref a) fp
 | lst {a : Addr} {vs : List V} {ts : List T} {fp : List Addr} : H a = some (.lst vs) -> aI H Z ts vs fp -> bu H Z (.lst ts) (.ref a) (a :: fp)
 | ins {a dx : Addr} {c : Str} {gs : List (Str × V)} {fs : List (Str × T)} {fp : List Addr} : H a = some (.ins (CL c) dx gs) -> cI H Z fs gs fp -> bu H Z (.ins c fs) (.ref a) (a :: fp)
 | oZ {a : Addr} {gs : List (Key × V)} {kvs : List (Key × D)} : H a = some (.dK gs) -> b8 K CL Z kvs gs -> bu H Z (.oZ kvs) (.ref a) [a]
 | dct {a : Addr} {gs : Q.m} {kvs : List (List Key × T)} {fp : List Addr} : H a = some (.dT gs) -> bQ H Z kvs gs fp -> bu H Z (.dct kvs) (.ref a) (a :: fp)
 | pin {x : Addr} {t : T} {fp : List Addr} : bu H Z t (.ref x) fp -> bu H Z (.pin x t) (.ref x) fp
 | jc {a : Addr} {w : World} {vs : List V} {ds : List D} : H a = some (.ext (A5 w a ds vs)) -> aA K CL Z ds vs -> bu H Z (.jc w ds) (.ref a) [a]
inductive aI (H Z : Hp) : List T -> List V -> List Addr -> Prop where
 | nil : aI H Z [] [] []
 | cons {t : T} {v : V} {ts : List T} {vs : List V} {fp gp : List Addr} : bu H Z t v fp -> aI H Z ts vs gp -> aI H Z (t :: ts) (v :: vs) (fp ++ gp)
inductive cI (H Z : Hp) : List (Str × T) -> List (Str × V) -> List Addr -> Prop where
 | nil : cI H Z [] [] []
 | cons {x : Str} {t : T} {v : V} {ts : List (Str × T)} {vs : List (Str × V)} {fp gp : List Addr} : bu H Z t v fp -> cI H Z ts vs gp -> cI H Z ((x, t) :: ts) ((x, v) :: vs) (fp ++ gp)
inductive bQ (H Z : Hp) : List (List Key × T) -> List (List Key × V) -> List Addr -> Prop where
 | nil : bQ H Z [] [] []
 | cons {x : List Key} {t : T} {v : V} {ts : List (List Key × T)} {vs : Q.m} {fp gp : List Addr} : bu H Z t v fp -> bQ H Z ts vs gp -> bQ H Z ((x, t) :: ts) ((x, v) :: vs) (fp ++ gp)
end
inductive dJ (H Z : Hp) : List (Option T) -> L2.St -> List Addr -> Prop where
 | nil : dJ H Z [] [] []
 | skip {o : Option V} {δ : Q.e} {σ : L2.St} {fp : List Addr} : dJ H Z δ σ fp -> dJ H Z (none :: δ) (o :: σ) fp
 | cons {t : T} {v : V} {δ : Q.e} {σ : L2.St} {fp gp : List Addr} : bu K CL H Z t v fp -> dJ H Z δ σ gp -> dJ H Z (some t :: δ) (some v :: σ) (fp ++ gp)
variable {K : Q.h} {CL : Q.d} {H H' : Hp} {a : Addr}
theorem Rd.mono {u : HO} (e : ay H H') (h : Rd H a u) : Rd H' a u := h.imp (e _ _) fun ⟨o, q⟩ => ⟨o, e _ _ q⟩
variable {xs : List V}
theorem ay.tY (e : ay H H') (h : kD K H a xs) : kD K H' a xs := by
 rcases h with (h | ⟨o, h⟩) | h
 . exact .inl (.inl (e _ _ h))
 . exact .inl (.inr ⟨o, e _ _ h⟩)
 . exact .inr h
variable {Z Z' : Hp} {v : V}
theorem aV.mono (e : ay Z Z') {d : D} (h : aV K CL Z d v) : aV K CL Z' d v :=
 aV.rec (motive_1 := fun d v _ => aV K CL Z' d v) (motive_2 := fun d v _ => aA K CL Z' d v) (motive_3 := fun d v _ => iI K CL Z' d v) (motive_4 := fun d v _ => b8 K CL Z' d v) (motive_5 := fun d v _ => bY K CL Z' d v)
   .non .bl .int .str .any .val (fun h _ r => .tup (ay.tY e h) r) (fun h _ r => .lst (e.seq h) r) (fun h _ r => .ins (e _ _ h) r) (fun h _ r => .oZ (e _ _ h) r) (fun h _ r => .dct (Rd.mono e h) r) (fun h _ r => .jc (e _ _ h) r) .nil Q.q .nil Q.q .nil Q.q .nil Q.q h
theorem aA.mono (e : ay Z Z') {d : List D} {v : List V} (h : aA K CL Z d v) : aA K CL Z' d v :=
 aA.rec (motive_1 := fun d v _ => aV K CL Z' d v) (motive_2 := fun d v _ => aA K CL Z' d v) (motive_3 := fun d v _ => iI K CL Z' d v) (motive_4 := fun d v _ => b8 K CL Z' d v) (motive_5 := fun d v _ => bY K CL Z' d v)
   .non .bl .int .str .any .val (fun h _ r => .tup (ay.tY e h) r) (fun h _ r => .lst (e.seq h) r) (fun h _ r => .ins (e _ _ h) r) (fun h _ r => .oZ (e _ _ h) r) (fun h _ r => .dct (Rd.mono e h) r) (fun h _ r => .jc (e _ _ h) r) .nil Q.q .nil Q.q .nil Q.q .nil Q.q h
theorem b8.mono (e : ay Z Z') {d : List (Key × D)} {v : List (Key × V)} (h : b8 K CL Z d v) : b8 K CL Z' d v :=
 b8.rec (motive_1 := fun d v _ => aV K CL Z' d v) (motive_2 := fun d v _ => aA K CL Z' d v) (motive_3 := fun d v _ => iI K CL Z' d v) (motive_4 := fun d v _ => b8 K CL Z' d v) (motive_5 := fun d v _ => bY K CL Z' d v)
   .non .bl .int .str .any .val (fun h _ r => .tup (ay.tY e h) r) (fun h _ r => .lst (e.seq h) r) (fun h _ r => .ins (e _ _ h) r) (fun h _ r => .oZ (e _ _ h) r) (fun h _ r => .dct (Rd.mono e h) r) (fun h _ r => .jc (e _ _ h) r) .nil Q.q .nil Q.q .nil Q.q .nil Q.q h
theorem bY.mono (e : ay Z Z') {d : List (List Key × D)} {v : Q.m} (h : bY K CL Z d v) : bY K CL Z' d v :=
 bY.rec (motive_1 := fun d v _ => aV K CL Z' d v) (motive_2 := fun d v _ => aA K CL Z' d v) (motive_3 := fun d v _ => iI K CL Z' d v) (motive_4 := fun d v _ => b8 K CL Z' d v) (motive_5 := fun d v _ => bY K CL Z' d v)
   .non .bl .int .str .any .val (fun h _ r => .tup (ay.tY e h) r) (fun h _ r => .lst (e.seq h) r) (fun h _ r => .ins (e _ _ h) r) (fun h _ r => .oZ (e _ _ h) r) (fun h _ r => .dct (Rd.mono e h) r) (fun h _ r => .jc (e _ _ h) r) .nil Q.q .nil Q.q .nil Q.q .nil Q.q h
variable {t : T} {fp : List Addr}
theorem bu.mono (e : ay Z Z') (k : ∀ a ∈ fp, H' a = H a) (h : bu K CL H Z t v fp) : bu K CL H' Z' t v fp :=
 bu.rec (motive_1 := fun t v fp _ => (∀ a ∈ fp, H' a = H a) -> bu K CL H' Z' t v fp) (motive_2 := fun t v fp _ => (∀ a ∈ fp, H' a = H a) -> aI K CL H' Z' t v fp) (motive_3 := fun t v fp _ => (∀ a ∈ fp, H' a = H a) -> cI K CL H' Z' t v fp) (motive_4 := fun t v fp _ => (∀ a ∈ fp, H' a = H a) -> bQ K CL H' Z' t v fp)
   (fun h _ => .sh (h.mono e)) (fun h _ r k => .tup (e _ _ h) (r k)) (fun h _ r k => .lst ((k _ ahL).trans h) Q.t) (fun h _ r k => .ins ((k _ ahL).trans h) Q.t) (fun h f k => .oZ ((k _ ahL).trans h) (b8.mono e f)) (fun h _ r k => .dct ((k _ ahL).trans h) Q.t) (fun _ r k => .pin (r k)) (fun h f k => .jc ((k _ ahL).trans h) (aA.mono e f)) (fun _ => .nil) Q.v (fun _ => .nil) Q.v (fun _ => .nil) Q.v h k
theorem aI.mono (e : ay Z Z') {t : List T} {v : List V} (k : ∀ a ∈ fp, H' a = H a) (h : aI K CL H Z t v fp) : aI K CL H' Z' t v fp :=
 aI.rec (motive_1 := fun t v fp _ => (∀ a ∈ fp, H' a = H a) -> bu K CL H' Z' t v fp) (motive_2 := fun t v fp _ => (∀ a ∈ fp, H' a = H a) -> aI K CL H' Z' t v fp) (motive_3 := fun t v fp _ => (∀ a ∈ fp, H' a = H a) -> cI K CL H' Z' t v fp) (motive_4 := fun t v fp _ => (∀ a ∈ fp, H' a = H a) -> bQ K CL H' Z' t v fp)
   (fun h _ => .sh (h.mono e)) (fun h _ r k => .tup (e _ _ h) (r k)) (fun h _ r k => .lst ((k _ ahL).trans h) Q.t) (fun h _ r k => .ins ((k _ ahL).trans h) Q.t) (fun h f k => .oZ ((k _ ahL).trans h) (b8.mono e f)) (fun h _ r k => .dct ((k _ ahL).trans h) Q.t) (fun _ r k => .pin (r k)) (fun h f k => .jc ((k _ ahL).trans h) (aA.mono e f)) (fun _ => .nil) Q.v (fun _ => .nil) Q.v (fun _ => .nil) Q.v h k
theorem cI.mono (e : ay Z Z') {t : List (Str × T)} {v : List (Str × V)} (k : ∀ a ∈ fp, H' a = H a) (h : cI K CL H Z t v fp) : cI K CL H' Z' t v fp :=
 cI.rec (motive_1 := fun t v fp _ => (∀ a ∈ fp, H' a = H a) -> bu K CL H' Z' t v fp) (motive_2 := fun t v fp _ => (∀ a ∈ fp, H' a = H a) -> aI K CL H' Z' t v fp) (motive_3 := fun t v fp _ => (∀ a ∈ fp, H' a = H a) -> cI K CL H' Z' t v fp) (motive_4 := fun t v fp _ => (∀ a ∈ fp, H' a = H a) -> bQ K CL H' Z' t v fp)
   (fun h _ => .sh (h.mono e)) (fun h _ r k => .tup (e _ _ h) (r k)) (fun h _ r k => .lst ((k _ ahL).trans h) Q.t) (fun h _ r k => .ins ((k _ ahL).trans h) Q.t) (fun h f k => .oZ ((k _ ahL).trans h) (b8.mono e f)) (fun h _ r k => .dct ((k _ ahL).trans h) Q.t) (fun _ r k => .pin (r k)) (fun h f k => .jc ((k _ ahL).trans h) (aA.mono e f)) (fun _ => .nil) Q.v (fun _ => .nil) Q.v (fun _ => .nil) Q.v h k
theorem bQ.mono (e : ay Z Z') {t : List (List Key × T)} {v : Q.m} (k : ∀ a ∈ fp, H' a = H a) (h : bQ K CL H Z t v fp) : bQ K CL H' Z' t v fp :=
 bQ.rec (motive_1 := fun t v fp _ => (∀ a ∈ fp, H' a = H a) -> bu K CL H' Z' t v fp) (motive_2 := fun t v fp _ => (∀ a ∈ fp, H' a = H a) -> aI K CL H' Z' t v fp) (motive_3 := fun t v fp _ => (∀ a ∈ fp, H' a = H a) -> cI K CL H' Z' t v fp) (motive_4 := fun t v fp _ => (∀ a ∈ fp, H' a = H a) -> bQ K CL H' Z' t v fp)
   (fun h _ => .sh (h.mono e)) (fun h _ r k => .tup (e _ _ h) (r k)) (fun h _ r k => .lst ((k _ ahL).trans h) Q.t) (fun h _ r k => .ins ((k _ ahL).trans h) Q.t) (fun h f k => .oZ ((k _ ahL).trans h) (b8.mono e f)) (fun h _ r k => .dct ((k _ ahL).trans h) Q.t) (fun _ r k => .pin (r k)) (fun h f k => .jc ((k _ ahL).trans h) (aA.mono e f)) (fun _ => .nil) Q.v (fun _ => .nil) Q.v (fun _ => .nil) Q.v h k
theorem bu.there (h : bu K CL H Z t v fp) : ∀ a ∈ fp, ∃ o, H a = some o :=
 bu.rec (motive_1 := fun t v fp _ => ∀ a ∈ fp, ∃ o, H a = some o) (motive_2 := fun t v fp _ => ∀ a ∈ fp, ∃ o, H a = some o) (motive_3 := fun t v fp _ => ∀ a ∈ fp, ∃ o, H a = some o) (motive_4 := fun t v fp _ => ∀ a ∈ fp, ∃ o, H a = some o)
   (fun _ a ha => absurd ha ah9) (fun _ _ r => r) (fun h _ r a ha => (ahT.mp ha).elim (fun q => ⟨_, q ▸ h⟩) (r a)) (fun h _ r a ha => (ahT.mp ha).elim (fun q => ⟨_, q ▸ h⟩) (r a)) (fun h _ a ha => (ahT.mp ha).elim (fun q => ⟨_, q ▸ h⟩) (fun q => absurd q ah9)) (fun h _ r a ha => (ahT.mp ha).elim (fun q => ⟨_, q ▸ h⟩) (r a)) (fun _ r => r) (fun h _ a ha => (ahT.mp ha).elim (fun q => ⟨_, q ▸ h⟩) (fun q => absurd q ah9)) (fun a ha => absurd ha ah9) (fun _ _ h r a ha => (ahZ.mp ha).elim (h a) (r a)) (fun a ha => absurd ha ah9) (fun _ _ h r a ha => (ahZ.mp ha).elim (h a) (r a)) (fun a ha => absurd ha ah9) (fun _ _ h r a ha => (ahZ.mp ha).elim (h a) (r a)) h
theorem aI.there {t : List T} {v : List V} (h : aI K CL H Z t v fp) : ∀ a ∈ fp, ∃ o, H a = some o :=
 aI.rec (motive_1 := fun t v fp _ => ∀ a ∈ fp, ∃ o, H a = some o) (motive_2 := fun t v fp _ => ∀ a ∈ fp, ∃ o, H a = some o) (motive_3 := fun t v fp _ => ∀ a ∈ fp, ∃ o, H a = some o) (motive_4 := fun t v fp _ => ∀ a ∈ fp, ∃ o, H a = some o)
   (fun _ a ha => absurd ha ah9) (fun _ _ r => r) (fun h _ r a ha => (ahT.mp ha).elim (fun q => ⟨_, q ▸ h⟩) (r a)) (fun h _ r a ha => (ahT.mp ha).elim (fun q => ⟨_, q ▸ h⟩) (r a)) (fun h _ a ha => (ahT.mp ha).elim (fun q => ⟨_, q ▸ h⟩) (fun q => absurd q ah9)) (fun h _ r a ha => (ahT.mp ha).elim (fun q => ⟨_, q ▸ h⟩) (r a)) (fun _ r => r) (fun h _ a ha => (ahT.mp ha).elim (fun q => ⟨_, q ▸ h⟩) (fun q => absurd q ah9)) (fun a ha => absurd ha ah9) (fun _ _ h r a ha => (ahZ.mp ha).elim (h a) (r a)) (fun a ha => absurd ha ah9) (fun _ _ h r a ha => (ahZ.mp ha).elim (h a) (r a)) (fun a ha => absurd ha ah9) (fun _ _ h r a ha => (ahZ.mp ha).elim (h a) (r a)) h
theorem bu.bM (e : ay Z Z') (k : ∀ a ∈ fp, Z' a = H a) (h : bu K CL H Z t v fp) : aV K CL Z' t.bM v :=
 bu.rec (motive_1 := fun t v fp _ => (∀ a ∈ fp, Z' a = H a) -> aV K CL Z' t.bM v) (motive_2 := fun t v fp _ => (∀ a ∈ fp, Z' a = H a) -> aA K CL Z' (T.gj t) v) (motive_3 := fun t v fp _ => (∀ a ∈ fp, Z' a = H a) -> iI K CL Z' (T.vd t) v) (motive_4 := fun t v fp _ => (∀ a ∈ fp, Z' a = H a) -> bY K CL Z' (T.wX t) v)
   (fun h _ => by rw [T.bM]; exact h.mono e) (fun h _ r k => by rw [T.bM]; exact .tup (kD.of (e _ _ h)) (r k)) (fun h _ r k => by rw [T.bM]; exact .lst (kZ.of ((k _ ahL).trans h)) Q.t) (fun h _ r k => by rw [T.bM]; exact .ins ((k _ ahL).trans h) Q.t) (fun h f k => by rw [T.bM]; exact .oZ ((k _ ahL).trans h) (b8.mono e f)) (fun h _ r k => by rw [T.bM]; exact .dct (.inl ((k _ ahL).trans h)) Q.t) (fun _ r k => by rw [T.bM]; exact r k) (fun h f k => by rw [T.bM]; exact .jc ((k _ ahL).trans h) (aA.mono e f)) (fun _ => by rw [T.gj]; exact .nil) (fun _ _ h r k => by rw [T.gj]; exact .cons (h fun a ha => k a (ahR _ ha)) (r fun a ha => k a (ahM _ ha))) (fun _ => by rw [T.vd]; exact .nil) (fun _ _ h r k => by rw [T.vd]; exact .cons (h fun a ha => k a (ahR _ ha)) (r fun a ha => k a (ahM _ ha))) (fun _ => by rw [T.wX]; exact .nil) (fun _ _ h r k => by rw [T.wX]; exact .cons (h fun a ha => k a (ahR _ ha)) (r fun a ha => k a (ahM _ ha))) h k
variable {vs : List V}
theorem aA.ind {P : List D -> List V -> Prop} (n : P [] []) (c : ∀ {d : D} {v : V} {ds : List D} {vs : List V}, aV K CL Z d v -> aA K CL Z ds vs -> P ds vs -> P (d :: ds) (v :: vs)) {ds : List D} (h : aA K CL Z ds vs) : P ds vs :=
 aA.rec (motive_1 := fun _ _ _ => True) (motive_2 := fun d v _ => P d v) (motive_3 := fun _ _ _ => True) (motive_4 := fun _ _ _ => True) (motive_5 := fun _ _ _ => True)
   trivial (fun _ => trivial) (fun _ => trivial) (fun _ => trivial) (fun _ => trivial) (fun _ => trivial) Q.o Q.o Q.o Q.o Q.o Q.o n (fun a b _ i => c a b i) trivial Q.r trivial Q.r trivial Q.r h
theorem b8.ind {P : List (Key × D) -> List (Key × V) -> Prop} (n : P [] []) (c : ∀ {x : Key} {d : D} {v : V} {ds : List (Key × D)} {vs : List (Key × V)}, aV K CL Z d v -> b8 K CL Z ds vs -> P ds vs -> P ((x, d) :: ds) ((x, v) :: vs)) {ds : List (Key × D)} {vs : List (Key × V)} (h : b8 K CL Z ds vs) : P ds vs :=
 b8.rec (motive_1 := fun _ _ _ => True) (motive_2 := fun _ _ _ => True) (motive_3 := fun _ _ _ => True) (motive_4 := fun d v _ => P d v) (motive_5 := fun _ _ _ => True)
   trivial (fun _ => trivial) (fun _ => trivial) (fun _ => trivial) (fun _ => trivial) (fun _ => trivial) Q.o Q.o Q.o Q.o Q.o Q.o trivial Q.r trivial Q.r n (fun a b _ i => c a b i) trivial Q.r h
theorem bY.ind {P : List (List Key × D) -> List (List Key × V) -> Prop} (n : P [] []) (c : ∀ {x : List Key} {d : D} {v : V} {ds : List (List Key × D)} {vs : Q.m}, aV K CL Z d v -> bY K CL Z ds vs -> P ds vs -> P ((x, d) :: ds) ((x, v) :: vs)) {ds : List (List Key × D)} {vs : Q.m} (h : bY K CL Z ds vs) : P ds vs :=
 bY.rec (motive_1 := fun _ _ _ => True) (motive_2 := fun _ _ _ => True) (motive_3 := fun _ _ _ => True) (motive_4 := fun _ _ _ => True) (motive_5 := fun d v _ => P d v)
   trivial (fun _ => trivial) (fun _ => trivial) (fun _ => trivial) (fun _ => trivial) (fun _ => trivial) Q.o Q.o Q.o Q.o Q.o Q.o trivial Q.r trivial Q.r trivial Q.r n (fun a b _ i => c a b i) h
variable {ts : List T}
theorem aI.ind {P : List T -> List V -> List Addr -> Prop} (n : P [] [] []) (c : ∀ {t : T} {v : V} {ts : List T} {vs : List V} {fp gp : List Addr}, bu K CL H Z t v fp -> aI K CL H Z ts vs gp -> P ts vs gp -> P (t :: ts) (v :: vs) (fp ++ gp)) (h : aI K CL H Z ts vs fp) : P ts vs fp :=
 aI.rec (motive_1 := fun _ _ _ _ => True) (motive_2 := fun d v f _ => P d v f) (motive_3 := fun _ _ _ _ => True) (motive_4 := fun _ _ _ _ => True)
   (fun _ => trivial) Q.o Q.o Q.o (fun _ _ => trivial) Q.o (fun _ _ => trivial) (fun _ _ => trivial) n (fun a b _ i => c a b i) trivial Q.r trivial Q.r h
theorem cI.ind {P : List (Str × T) -> List (Str × V) -> List Addr -> Prop} (n : P [] [] []) (c : ∀ {x : Str} {t : T} {v : V} {ts : List (Str × T)} {vs : List (Str × V)} {fp gp : List Addr}, bu K CL H Z t v fp -> cI K CL H Z ts vs gp -> P ts vs gp -> P ((x, t) :: ts) ((x, v) :: vs) (fp ++ gp)) {ts : List (Str × T)} {vs : List (Str × V)} (h : cI K CL H Z ts vs fp) : P ts vs fp :=
 cI.rec (motive_1 := fun _ _ _ _ => True) (motive_2 := fun _ _ _ _ => True) (motive_3 := fun d v f _ => P d v f) (motive_4 := fun _ _ _ _ => True)
   (fun _ => trivial) Q.o Q.o Q.o (fun _ _ => trivial) Q.o (fun _ _ => trivial) (fun _ _ => trivial) trivial Q.r n (fun a b _ i => c a b i) trivial Q.r h
theorem bQ.ind {P : List (List Key × T) -> List (List Key × V) -> List Addr -> Prop} (n : P [] [] []) (c : ∀ {x : List Key} {t : T} {v : V} {ts : List (List Key × T)} {vs : Q.m} {fp gp : List Addr}, bu K CL H Z t v fp -> bQ K CL H Z ts vs gp -> P ts vs gp -> P ((x, t) :: ts) ((x, v) :: vs) (fp ++ gp)) {ts : List (List Key × T)} {vs : Q.m} (h : bQ K CL H Z ts vs fp) : P ts vs fp :=
 bQ.rec (motive_1 := fun _ _ _ _ => True) (motive_2 := fun _ _ _ _ => True) (motive_3 := fun _ _ _ _ => True) (motive_4 := fun d v f _ => P d v f)
   (fun _ => trivial) Q.o Q.o Q.o (fun _ _ => trivial) Q.o (fun _ _ => trivial) (fun _ _ => trivial) trivial Q.r trivial Q.r n (fun a b _ i => c a b i) h
theorem aA.length {d : List D} {v : List V} (h : aA K CL Z d v) : d.length = v.length :=
 aA.ind (P := fun d v => d.length = v.length) rfl (fun _ _ i => congrArg (· + 1) i) h
theorem aI.length {d : List T} {v : List V} (h : aI K CL H Z d v fp) : d.length = v.length :=
 aI.ind (P := fun d v _ => d.length = v.length) rfl (fun _ _ i => congrArg (· + 1) i) h
theorem dJ.length {d : Q.e} {v : L2.St} (h : dJ K CL H Z d v fp) : d.length = v.length := by
 induction h with
 | nil => rfl
 | skip _ i => exact congrArg (· + 1) i
 | cons _ _ i => exact congrArg (· + 1) i
theorem aA.get {Z : Hp} : ∀ {ds : List D} {vs : List V} {i : Nat} {d : D}, aA K CL Z ds vs -> ds[i]? = some d -> ∃ v, vs[i]? = some v /\ aV K CL Z d v
 | _, _, _, _, .nil, e => by simp at e
 | _, _, 0, _, .cons r _, e => by simp at e; subst e; exact ⟨_, rfl, r⟩
 | _, _, i + 1, d, .cons _ t, e => by
   obtain ⟨u, h1, h2⟩ := aA.get (i := i) (d := d) t (by simpa using e)
   exact ⟨u, by simpa using h1, h2⟩
theorem aA.O4 {Z : Hp} : ∀ {ds : List D} {vs : List V} {i : Nat} {v : V}, aA K CL Z ds vs -> vs[i]? = some v -> ∃ d, ds[i]? = some d /\ aV K CL Z d v
 | _, _, _, _, .nil, e => by simp at e
 | _, _, 0, _, .cons r _, e => by simp at e; subst e; exact ⟨_, rfl, r⟩
 | _, _, i + 1, d, .cons _ t, e => by
   obtain ⟨u, h1, h2⟩ := aA.O4 (i := i) (v := d) t (by simpa using e)
   exact ⟨u, by simpa using h1, h2⟩
theorem dJ.get : ∀ {δ : Q.e} {σ : L2.St} {fp : List Addr} {i : Nat} {t : T}, dJ K CL H Z δ σ fp -> δ[i]? = some (some t) →
   ∃ v f1 f2 f3, σ[i]? = some (some v) /\ fp = f1 ++ (f2 ++ f3) /\ bu K CL H Z t v f2 ∧
     (∀ {H' Z' : Hp} {t' : T} {v' : V} {g : List Addr}, ay Z Z' -> (∀ a ∈ f1 ++ f3, H' a = H a) -> bu K CL H' Z' t' v' g -> dJ K CL H' Z' (δ.set i (some t')) (σ.set i (some v')) (f1 ++ (g ++ f3))) ∧
     (∀ {o : Option V}, dJ K CL H Z (δ.set i none) (σ.set i o) (f1 ++ f3)) := by
 intro δ σ fp i t h
 have mono : ∀ {H H' Z Z' : Hp} {δ : Q.e} {σ : L2.St} {fp : List Addr}, ay Z Z' -> (∀ a ∈ fp, H' a = H a) -> dJ K CL H Z δ σ fp -> dJ K CL H' Z' δ σ fp := by
   intro H H' Z Z' δ σ fp e k r
   induction r with
   | nil => exact .nil
   | skip _ ih => exact .skip (ih k)
   | cons r _ ih => exact .cons (r.mono e fun a ha => k a (ahR _ ha)) (ih fun a ha => k a (ahM _ ha))
 induction h generalizing i with
 | nil => intro e; simp at e
 | @skip o δ σ fp r ih =>
   cases i with
   | zero => intro e; simp at e
   | succ i =>
     intro e
     obtain ⟨v, f1, f2, f3, h1, h2, h3, h4, h5⟩ := ih (i := i) (by simpa using e)
     exact ⟨v, f1, f2, f3, by simpa using h1, h2, h3, fun e k q => .skip (h4 e k q), .skip h5⟩
 | @cons t0 v0 δ σ fp gp r0 r ih =>
   cases i with
   | zero =>
     intro e
     simp at e
     subst e
     refine ⟨v0, [], fp, gp, rfl, rfl, r0, fun {H' Z' t' v' g} e k q => dJ.cons (fp := g) (gp := gp) q (mono (fp := gp) e (fun a ha => k a (by simpa using ha)) r), .skip (by simpa using r)⟩
   | succ i =>
     intro e
     obtain ⟨v, f1, f2, f3, h1, h2, h3, h4, h5⟩ := ih (i := i) (by simpa using e)
     refine ⟨v, fp ++ f1, f2, f3, by simpa using h1, by rw [h2, List.append_assoc], h3, fun {H' Z' t' v' g} e k q => ?_, fun {o} => ?_⟩
     . rw [ahQ]
       exact .cons (r0.mono e fun a ha => k a (by simp [ha])) (h4 e (fun a ha => k a (by rw [ahQ]; exact ahM _ ha)) q)
     . rw [ahQ]
       exact .cons r0 h5
variable {δ : Q.e} {σ : L2.St}
theorem dJ.mono (e : ay Z Z') (k : ∀ a ∈ fp, H' a = H a) (r : dJ K CL H Z δ σ fp) : dJ K CL H' Z' δ σ fp := by
 induction r with
 | nil => exact .nil
 | skip _ ih => exact .skip (ih k)
 | cons r _ ih => exact .cons (r.mono e fun a ha => k a (ahR _ ha)) (ih fun a ha => k a (ahM _ ha))
theorem dJ.there (r : dJ K CL H Z δ σ fp) : ∀ a ∈ fp, ∃ o, H a = some o := by
 induction r with
 | nil => intro a ha; cases ha
 | skip _ ih => exact ih
 | cons r _ ih => exact fun a ha => (ahZ.mp ha).elim (r.there a) (ih a)
theorem dJ.put (r : dJ K CL H Z δ σ fp) {g : List Addr} (q : bu K CL H Z t v g) :
   ∀ {i : Nat}, i < δ.length -> ∃ f, dJ K CL H Z (δ.set i (some t)) (σ.set i (some v)) f /\ ∃ f', f'.Sublist fp /\ f.Perm (g ++ f') := by
 induction r with
 | nil => intro i hi; simp at hi
 | @skip o δ σ fp r ih =>
   intro i hi
   cases i with
   | zero => exact ⟨g ++ fp, .cons q r, fp, aiv _, aki _⟩
   | succ i =>
     obtain ⟨f, h1, f', h2, h3⟩ := ih (i := i) (by simpa using hi)
     exact ⟨f, .skip h1, f', h2, h3⟩
 | @cons t0 v0 δ σ fp gp r0 r ih =>
   intro i hi
   cases i with
   | zero => exact ⟨g ++ gp, .cons q r, gp, aiQ _ _, aki _⟩
   | succ i =>
     obtain ⟨f, h1, f', h2, h3⟩ := ih (i := i) (by simpa using hi)
     refine ⟨fp ++ f, .cons r0 h1, fp ++ f', air (aiv _) h2, ?_⟩
     refine (aiH fp h3).trans ?_
     rw [← ahQ, ← ahQ]
     exact List.Perm.append_right f' aim
def Cu (X : Cx) (e : Expr) : TE := fun σ H Q => ∀ (pins : Q.j) (s : Shared), Inv X pins σ H s -> wpAny Q.f X.A (eval e X.env) (EP X pins σ Q) X.xe s
def O5 (X : Cx) (e : Expr) : TT := fun σ H Q => ∀ (pins : Q.j) (s : Shared), Inv X pins σ H s -> wpAny Q.f X.A (isTrue e X.env (eval e X.env)) (TP X pins σ Q) X.xe s
def Jy (X : Cx) (es : List Expr) : TA := fun σ H Q => ∀ (pos : Pos) (pins : Q.j) (s : Shared), Inv X pins σ H s -> wpAny Q.f X.A (spliced (backTo pos (starEach es X.env))) (AP X pins σ Q) X.xe s
def Jz (X : Cx) (st : Stmt) : TS := fun D σ H => ∀ (pins : Q.j) (s : Shared), Inv X pins σ H s -> wpAny Q.f X.A (exec st X.env) (SP X pins D) X.xe s
def U6 (X : Cx) (st : List Stmt) : TS := fun D σ H => ∀ (pins : Q.j) (s : Shared), Inv X pins σ H s -> wpAny Q.f X.A (execs st X.env) (SP X pins D) X.xe s
variable {X : Cx} {e : Expr}
theorem cA : PE X e (Cu X e) := fun pins s _ _ _ I h => h pins s I
theorem U7 : PT X e (O5 X e) := fun pins s _ _ _ I h => h pins s I
theorem IB {e : List Expr} : PA X e (Jy X e) := fun pos pins s _ _ _ I h => h pos pins s I
theorem psS {e : Stmt} : PS X e (Jz X e) := fun pins s _ _ _ I h => h pins s I
theorem JA {e : List Stmt} : Ef X e (U6 X e) := fun pins s _ _ _ I h => h pins s I
theorem bN {t : TE} (h : PE X e t) {Q : VK} (q : t σ H Q) : Cu X e σ H Q := fun pins s I => h pins s σ H Q I q
variable {Q : Bool -> Hp -> Prop}
theorem Cv {t : TT} (h : PT X e t) (q : t σ H Q) : O5 X e σ H Q := fun pins s I => h pins s σ H Q I q
theorem Cw {e : List Expr} {t : TA} (h : PA X e t) {Q : List V -> Hp -> Prop} (q : t σ H Q) : Jy X e σ H Q := fun pos pins s I => h pos pins s σ H Q I q
theorem pe {e : Stmt} {t : TS} (h : PS X e t) {D : Ends} (q : t D σ H) : Jz X e D σ H := fun pins s I => h pins s σ H D I q
theorem Zn {e : List Stmt} {t : TS} (h : Ef X e t) {D : Ends} (q : t D σ H) : U6 X e D σ H := fun pins s I => h pins s σ H D I q
def notStar : Expr -> Bool
 | .Starred _ _ => false
 | _ => true
variable {es : List Expr} {env : Env}
theorem aW (h : notStar e = true) : starEach (e :: es) env = (false, eval e env) :: starEach es env := by
 cases e <;> first | rfl | (cases h)
structure Bx where
 B : Hp
 Z : Hp
def jd : HO -> Bool
 | .tup _ => true
 | .bM _ _ => true
 | _ => false
def Ew (x : Str) : Bool := x.cps[0]? == some 35
def acP (x : Str) : Str := ⟨x.cps.extract 1 x.cps.size⟩
def k8 (CL : Q.d) (Z : Hp) : Prop := ∀ x, Ew x = true -> CL x ≠ 0 -> Z (CL x) = some (.tabs (acP x))
structure aY (K : Q.h) (CL : Q.d) (b : Bx) (H Z : Hp) (δ : Q.e) (σ : L2.St) (ts : List T) (vs : List V) : Prop where
 rep : ∃ fp gp, dJ K CL H Z δ σ fp /\ aI K CL H Z ts vs gp /\ (fp ++ gp).Nodup /\ ∀ a ∈ fp ++ gp, Z a = none /\ b.B a = none
 bh : ay b.B H
 zz : ay b.Z Z
 zh : ay Z H
 new : ∀ a o, Z a = some o -> b.Z a = none -> b.B a = none
 tp : ∀ a o, H a = some o -> jd o = true -> Z a = some o
 tab : k8 CL b.Z
variable {b : Bx}
theorem k8.mono {A B : Hp} (h : k8 CL A) (e : ay A B) : k8 CL B := fun x hx h0 => e _ _ (h x hx h0)
theorem aY.U8 (S : aY K CL b H Z δ σ ts vs) : k8 CL Z := S.tab.mono S.zz
theorem aY.U9 (S : aY K CL b H Z δ σ ts vs) : k8 CL H := S.U8.mono S.zh
theorem Cy {A B : Hp} (e : ay A B) (h : B a = none) : A a = none := e.free h
variable {p : Addr}
theorem ay.upd {o : HO} (h : H p = none) : ay H (upd H p o) := fun b u e => by rw [ao (bG e h)]; exact e
theorem aY.view (S : aY K CL b H Z δ σ (t :: ts) (v :: vs)) : aV K CL H t.bM v := by
 obtain ⟨fp, gp, _, r, _, _⟩ := S.rep
 cases r with
 | cons r _ => exact r.bM S.zh fun _ _ => rfl
theorem aY.pop (S : aY K CL b H Z δ σ (t :: ts) (v :: vs)) : aY K CL b H Z δ σ ts vs := by
 obtain ⟨fp, gp, e, r, nd, k⟩ := S.rep
 cases r with
 | @cons _ _ _ _ f1 f2 r1 r2 =>
   refine ⟨⟨fp, f2, e, r2, nd.sublist (air (aiv _) (aiQ _ _)), fun a ha => k a ?_⟩, S.bh, S.zz, S.zh, S.new, S.tp, S.tab⟩
   rcases ahZ.mp ha with h | h
   . exact ahR _ h
   . exact ahM _ (ahM _ h)
theorem aY.push {d : D} (S : aY K CL b H Z δ σ ts vs) (r : aV K CL Z d v) : aY K CL b H Z δ σ (.sh d :: ts) (v :: vs) := by
 obtain ⟨fp, gp, e, r2, nd, k⟩ := S.rep
 exact ⟨⟨fp, [] ++ gp, e, .cons (.sh r) r2, nd, k⟩, S.bh, S.zz, S.zh, S.new, S.tp, S.tab⟩
theorem aY.yL (S : aY K CL b H Z δ σ (t :: ts) (v :: vs)) : ∃ Z', ay Z Z' /\ aY K CL b H Z' δ σ (.sh t.bM :: ts) (v :: vs) := by
 classical
 obtain ⟨fp, gp, e, r, nd, k⟩ := S.rep
 cases r with
 | @cons _ _ _ _ f1 f2 r1 r2 =>
   have nZ : ∀ a ∈ f1, Z a = none /\ b.B a = none := fun a ha => k a (ahM _ (ahR _ ha))
   have sz : ay Z (fun a => if a ∈ f1 then H a else Z a) := fun a o q => by
     by_cases ha : a ∈ f1
     . rw [(nZ a ha).1] at q; cases q
     . show (if a ∈ f1 then H a else Z a) = some o
       rw [ahX ha]; exact q
   have Zo := ais.mp nd
   have dj : ∀ a ∈ fp ++ f2, a ∉ f1 := fun a ha h1 => by
     rcases ahZ.mp ha with h | h
     . exact Zo.2.2 a h a (ahR _ h1) rfl
     . exact (ais.mp Zo.2.1).2.2 a h1 a h rfl
   refine ⟨fun a => if a ∈ f1 then H a else Z a, sz, ⟨⟨fp, [] ++ f2, e.mono sz (fun _ _ => rfl), .cons (.sh (r1.bM sz fun a ha => ah7 ha)) (r2.mono sz fun _ _ => rfl), ?_, fun a ha => ?_⟩, S.bh, S.zz.trans sz, fun a o q => ?_, fun a o q z => ?_, fun a o q i => ?_, S.tab⟩⟩
   . exact nd.sublist (air (aiv _) (aiQ _ _))
   . have JB : a ∈ fp ++ f2 := ha
     refine ⟨?_, (k a ?_).2⟩
     . show (if a ∈ f1 then H a else Z a) = none
       rw [ahX (dj a JB)]
       refine (k a ?_).1
       rcases ahZ.mp JB with h | h
       . exact ahR _ h
       . exact ahM _ (ahM _ h)
     . rcases ahZ.mp JB with h | h
       . exact ahR _ h
       . exact ahM _ (ahM _ h)
   . have q' : (if a ∈ f1 then H a else Z a) = some o := q
     by_cases ha : a ∈ f1
     . rw [ah7 ha] at q'; exact q'
     . rw [ahX ha] at q'; exact S.zh a o q'
   . have q' : (if a ∈ f1 then H a else Z a) = some o := q
     by_cases ha : a ∈ f1
     . exact (nZ a ha).2
     . rw [ahX ha] at q'; exact S.new a o q' z
   . exact sz a o (S.tp a o q i)
variable {i : Nat}
theorem aY.O6 (S : aY K CL b H Z δ σ ts vs) (hi : δ[i]? = some (some t)) : ∃ v Z', σ[i]? = some (some v) /\ ay Z Z' /\ aY K CL b H Z' (δ.set i (some (.sh t.bM))) σ (.sh t.bM :: ts) (v :: vs) := by
 classical
 obtain ⟨fp, gp, e, r, nd, k⟩ := S.rep
 obtain ⟨v, f1, f2, f3, hv, nL, rt, put, _⟩ := e.get hi
 subst nL
 have nZ : ∀ a ∈ f2, Z a = none /\ b.B a = none := fun a ha => k a (by simp [ha])
 have sz : ay Z (fun a => if a ∈ f2 then H a else Z a) := fun a o q => by
   by_cases ha : a ∈ f2
   . rw [(nZ a ha).1] at q; cases q
   . show (if a ∈ f2 then H a else Z a) = some o
     rw [ahX ha]; exact q
 have dj : ∀ a ∈ (f1 ++ f3) ++ gp, a ∉ f2 := fun a ha h2 => by
   have hp : ((f1 ++ (f2 ++ f3)) ++ gp).Perm (f2 ++ ((f1 ++ f3) ++ gp)) := by
     rw [← ahQ, ← ahQ]
     refine (List.perm_append_right_iff gp).mpr ?_
     rw [← ahQ]
     exact (List.perm_append_right_iff f3).mpr aim
   exact (ais.mp (hp.nodup_iff.mp nd)).2.2 a h2 a ha rfl
 have rF : aV K CL (fun a => if a ∈ f2 then H a else Z a) t.bM v := rt.bM sz fun a ha => ah7 ha
 have Va : σ.set i (some v) = σ := by
   apply ajH
   intro j
   rw [List.getElem?_set]
   split
   . rename_i h; subst h
     split
     . exact hv.symm
     . rename_i h2; rw [aiI Q.a]
   . rfl
 have e2 : dJ K CL H (fun a => if a ∈ f2 then H a else Z a) (δ.set i (some (.sh t.bM))) σ (f1 ++ ([] ++ f3)) := by
   have := put (H' := H) (t' := .sh t.bM) (v' := v) (g := []) sz (fun _ _ => rfl) (.sh rF)
   rwa [Va] at this
 refine ⟨v, fun a => if a ∈ f2 then H a else Z a, hv, sz, ⟨⟨f1 ++ ([] ++ f3), [] ++ gp, e2, .cons (.sh rF) (r.mono sz fun _ _ => rfl), ?_, fun a ha => ?_⟩, S.bh, S.zz.trans sz, fun a o q => ?_, fun a o q z => ?_, fun a o q i => sz a o (S.tp a o q i), S.tab⟩⟩
 . exact nd.sublist (air (air (aiv _) (aiQ _ _)) (aiv _))
 . have JB : a ∈ (f1 ++ f3) ++ gp := ha
   have hm : a ∈ (f1 ++ (f2 ++ f3)) ++ gp := by
     simp only [ahZ] at JB ⊢
     rcases JB with (h | h) | h
     . exact .inl (.inl h)
     . exact .inl (.inr (.inr h))
     . exact .inr h
   refine ⟨?_, (k a hm).2⟩
   show (if a ∈ f2 then H a else Z a) = none
   rw [ahX (dj a JB)]
   exact (k a hm).1
 . have q' : (if a ∈ f2 then H a else Z a) = some o := q
   by_cases ha : a ∈ f2
   . rw [ah7 ha] at q'; exact q'
   . rw [ahX ha] at q'; exact S.zh a o q'
 . have q' : (if a ∈ f2 then H a else Z a) = some o := q
   by_cases ha : a ∈ f2
   . exact (nZ a ha).2
   . rw [ahX ha] at q'; exact S.new a o q' z
theorem aY.move (S : aY K CL b H Z δ σ ts vs) (hi : δ[i]? = some (some t)) : ∃ v, σ[i]? = some (some v) /\ aY K CL b H Z (δ.set i none) σ (t :: ts) (v :: vs) := by
 obtain ⟨fp, gp, e, r, nd, k⟩ := S.rep
 obtain ⟨v, f1, f2, f3, hv, nL, rt, _, del⟩ := e.get hi
 subst nL
 have Va : σ.set i (some v) = σ := by
   apply ajH
   intro j
   rw [List.getElem?_set]
   split
   . rename_i h; subst h
     split
     . exact hv.symm
     . rename_i h2; rw [aiI Q.a]
   . rfl
 have hp : ((f1 ++ (f2 ++ f3)) ++ gp).Perm ((f1 ++ f3) ++ (f2 ++ gp)) := by
   have h1 : (f2 ++ f3).Perm (f3 ++ f2) := aim
   have h2 := (aiH f1 h1).append_right gp
   simp only [ahQ] at h2 ⊢
   exact h2
 refine ⟨v, hv, ⟨⟨f1 ++ f3, f2 ++ gp, ?_, .cons rt r, hp.nodup_iff.mp nd, fun a ha => k a (hp.mem_iff.mpr ha)⟩, S.bh, S.zz, S.zh, S.new, S.tp, S.tab⟩⟩
 have := del (o := some v)
 rwa [Va] at this
theorem aY.look (S : aY K CL b H Z δ σ ts vs) (hi : δ[i]? = some (some t)) : ∃ v, σ[i]? = some (some v) /\ aV K CL H t.bM v := by
 obtain ⟨fp, gp, e, r, nd, k⟩ := S.rep
 obtain ⟨v, f1, f2, f3, hv, nL, rt, _, _⟩ := e.get hi
 exact ⟨v, hv, rt.bM S.zh fun _ _ => rfl⟩
theorem aY.SW {d : D} (S : aY K CL b H Z δ σ ts vs) (hi : δ[i]? = some (some (.sh d))) : ∃ v, σ[i]? = some (some v) /\ aV K CL Z d v := by
 obtain ⟨fp, gp, e, r, nd, k⟩ := S.rep
 obtain ⟨v, f1, f2, f3, hv, nL, rt, _, _⟩ := e.get hi
 cases rt with
 | sh h => exact ⟨v, hv, h⟩
theorem aY.set (S : aY K CL b H Z δ σ (t :: ts) (v :: vs)) (hi : i < δ.length) : aY K CL b H Z (δ.set i (some t)) (σ.set i (some v)) ts vs := by
 obtain ⟨fp, gp, e, r, nd, k⟩ := S.rep
 cases r with
 | @cons _ _ _ _ f1 f2 r1 r2 =>
   obtain ⟨f, h1, f', h2, h3⟩ := e.put r1 hi
   have hp : (f ++ f2).Perm (f' ++ (f1 ++ f2)) := by
     refine (h3.append_right f2).trans ?_
     rw [← ahQ]
     exact aim.append_right f2
   have JC : (f' ++ (f1 ++ f2)).Sublist (fp ++ (f1 ++ f2)) := air h2 (aiv _)
   exact ⟨⟨f, f2, h1, r2, hp.nodup_iff.mpr (nd.sublist JC), fun a ha => k a (JC.subset (hp.mem_iff.mp ha))⟩, S.bh, S.zz, S.zh, S.new, S.tp, S.tab⟩
mutual
def D.iY : D -> Bool
 | .tup ds => D.bq ds
 | .lst _ => false
 | .ins _ _ => false
 | .oZ _ => false
 | .dct _ => false
 | .any => false
 | .jc _ _ => false
 | _ => true
def D.bq : List D -> Bool
 | [] => true
 | d :: ds => d.iY && D.bq ds
end
mutual
def T.clean : T -> Bool
 | .sh d => d.iY
 | .tup ts => T.eX ts
 | .lst ts => T.eX ts
 | .ins _ fs => T.g9 fs
 | .oZ kvs => D.bq (kvs.map (·.2))
 | .dct kvs => T.k9 kvs
 | .pin _ t => t.clean
 | .jc _ _ => false
def T.eX : List T -> Bool
 | [] => true
 | t :: ts => t.clean && T.eX ts
def T.g9 : List (Str × T) -> Bool
 | [] => true
 | (_, t) :: ts => t.clean && T.g9 ts
def T.k9 : List (List Key × T) -> Bool
 | [] => true
 | (_, t) :: ts => t.clean && T.k9 ts
end
def bI (X : Cx) (CL : Q.d) (b : Bx) (e : Expr) (δ : Q.e) (t : T) (δ' : Q.e) : Prop :=
 ∀ (H Z : Hp) (σ : L2.St) (ts : List T) (vs : List V) (Q : VK), aY X.K CL b H Z δ σ ts vs -> (∀ v H' Z', ay Z Z' -> ay H H' -> aY X.K CL b H' Z' δ' σ (t :: ts) (v :: vs) -> Q v H') -> Cu X e σ H Q
def cU (X : Cx) (CL : Q.d) (b : Bx) (e : Expr) (δ : Q.e) (d : D) (δ' : Q.e) : Prop :=
 ∀ (H Z : Hp) (σ : L2.St) (ts : List T) (vs : List V) (Q : VK), aY X.K CL b H Z δ σ ts vs -> (∀ v H' Z', ay Z Z' -> ay H H' -> aY X.K CL b H' Z' δ' σ ts vs -> aV X.K CL H' d v -> Q v H') -> Cu X e σ H Q
def sU (X : Cx) (CL : Q.d) (b : Bx) (e : Expr) (δ : Q.e) (p : Bool) (δ' : Q.e) : Prop :=
 ∀ (H Z : Hp) (σ : L2.St) (ts : List T) (vs : List V) (Q : Bool -> Hp -> Prop), aY X.K CL b H Z δ σ ts vs -> (∀ H' Z', ay Z Z' -> ay H H' -> aY X.K CL b H' Z' δ' σ ts vs -> Q p H') -> O5 X e σ H Q
def Ex (X : Cx) (CL : Q.d) (b : Bx) (es : List Expr) (δ : Q.e) (tl : List T) (δ' : Q.e) : Prop :=
 ∀ (H Z : Hp) (σ : L2.St) (ts : List T) (vs : List V) (Q : List V -> Hp -> Prop), aY X.K CL b H Z δ σ ts vs →
   (∀ us H' Z', us.length = tl.length -> ay Z Z' -> ay H H' -> aY X.K CL b H' Z' δ' σ (tl.reverse ++ ts) (us.reverse ++ vs) -> Q us H') -> Jy X es σ H Q
def JD (X : Cx) (CL : Q.d) (b : Bx) (es : List Expr) (δ : Q.e) (ds : List D) (δ' : Q.e) : Prop :=
 ∀ (H Z : Hp) (σ : L2.St) (ts : List T) (vs : List V) (Q : List V -> Hp -> Prop), aY X.K CL b H Z δ σ ts vs →
   (∀ us H' Z', ay Z Z' -> ay H H' -> aY X.K CL b H' Z' δ' σ ts vs -> aA X.K CL H' ds us -> Q us H') -> Jy X es σ H Q
structure dZ where
 nx : List (Option T) -> Prop
 rt : T -> List (Option T) -> Prop
 bk : List (Option T) -> Prop := fun _ => False
 ct : List (Option T) -> Prop := fun _ => False
structure Meets (K : Q.h) (CL : Q.d) (b : Bx) (Z : Hp) (ts : List T) (vs : List V) (D : dZ) (E : Ends) : Prop where
 nx : ∀ δ' σ' H' Z', ay Z Z' -> aY K CL b H' Z' δ' σ' ts vs -> D.nx δ' -> E.nx σ' H'
 rt : ∀ t v H' Z' δ' σ', ay Z Z' -> aY K CL b H' Z' δ' σ' (t :: ts) (v :: vs) -> D.rt t δ' -> E.rt v H'
 bk : ∀ δ' σ' H' Z', ay Z Z' -> aY K CL b H' Z' δ' σ' ts vs -> D.bk δ' -> E.bk σ' H'
 ct : ∀ δ' σ' H' Z', ay Z Z' -> aY K CL b H' Z' δ' σ' ts vs -> D.ct δ' -> E.ct σ' H'
def N7 (X : Cx) (CL : Q.d) (b : Bx) (st : Stmt) (δ : Q.e) (D : dZ) : Prop :=
 ∀ (H Z : Hp) (σ : L2.St) (ts : List T) (vs : List V) (E : Ends), aY X.K CL b H Z δ σ ts vs -> Meets X.K CL b Z ts vs D E -> Jz X st E σ H
def dh (X : Cx) (CL : Q.d) (b : Bx) (st : List Stmt) (δ : Q.e) (D : dZ) : Prop :=
 ∀ (H Z : Hp) (σ : L2.St) (ts : List T) (vs : List V) (E : Ends), aY X.K CL b H Z δ σ ts vs -> Meets X.K CL b Z ts vs D E -> U6 X st E σ H
theorem Meets.mono {D : dZ} {E : Ends} (M : Meets K CL b Z ts vs D E) (e : ay Z Z') : Meets K CL b Z' ts vs D E :=
 ⟨fun _ _ _ _ s => M.nx _ _ _ _ (e.trans s), fun _ _ _ _ _ _ s => M.rt _ _ _ _ _ _ (e.trans s), fun _ _ _ _ s => M.bk _ _ _ _ (e.trans s), fun _ _ _ _ s => M.ct _ _ _ _ (e.trans s)⟩
theorem Ey (zh : ∀ a o, H a = some o -> jd o = true -> Z a = some o) (h : kD K H a xs) : kD K Z a xs := by
 rcases h with (h | ⟨o, h⟩) | h
 . exact .inl (.inl (zh _ _ h rfl))
 . exact .inl (.inr ⟨o, zh _ _ h rfl⟩)
 . exact .inr h
theorem aV.iY (zh : ∀ a o, H a = some o -> jd o = true -> Z a = some o) {d : D} (k : d.iY = true) (h : aV K CL H d v) : aV K CL Z d v :=
 aV.rec (motive_1 := fun d v _ => d.iY = true -> aV K CL Z d v) (motive_2 := fun d v _ => D.bq d = true -> aA K CL Z d v) (motive_3 := fun d v _ => True) (motive_4 := fun d v _ => True) (motive_5 := fun d v _ => True)
   (fun _ => .non) (fun b _ => .bl b) (fun b _ => .int b) (fun b _ => .str b) (fun _ k => by rw [D.iY] at k; cases k) (fun b _ => .val b) (fun h _ r k => .tup (Ey zh h) (r (by rw [D.iY] at k; exact k))) (fun _ _ _ k => by rw [D.iY] at k; cases k) (fun _ _ _ k => by rw [D.iY] at k; cases k) (fun _ _ _ k => by rw [D.iY] at k; cases k) (fun _ _ _ k => by rw [D.iY] at k; cases k) (fun _ _ _ k => by rw [D.iY] at k; cases k) (fun _ => .nil) (fun _ _ h r k => by rw [D.bq, aih] at k; exact .cons (h k.1) (r k.2)) trivial Q.r trivial Q.r trivial Q.r h k
theorem aA.iY (zh : ∀ a o, H a = some o -> jd o = true -> Z a = some o) {d : List D} {v : List V} (k : D.bq d = true) (h : aA K CL H d v) : aA K CL Z d v :=
 aA.rec (motive_1 := fun d v _ => d.iY = true -> aV K CL Z d v) (motive_2 := fun d v _ => D.bq d = true -> aA K CL Z d v) (motive_3 := fun d v _ => True) (motive_4 := fun d v _ => True) (motive_5 := fun d v _ => True)
   (fun _ => .non) (fun b _ => .bl b) (fun b _ => .int b) (fun b _ => .str b) (fun _ k => by rw [D.iY] at k; cases k) (fun b _ => .val b) (fun h _ r k => .tup (Ey zh h) (r (by rw [D.iY] at k; exact k))) (fun _ _ _ k => by rw [D.iY] at k; cases k) (fun _ _ _ k => by rw [D.iY] at k; cases k) (fun _ _ _ k => by rw [D.iY] at k; cases k) (fun _ _ _ k => by rw [D.iY] at k; cases k) (fun _ _ _ k => by rw [D.iY] at k; cases k) (fun _ => .nil) (fun _ _ h r k => by rw [D.bq, aih] at k; exact .cons (h k.1) (r k.2)) trivial Q.r trivial Q.r trivial Q.r h k
theorem b8.clean {Z1 : Hp} (zi : ∀ {d : D} {v : V}, d.iY = true -> aV K CL Z1 d v -> aV K CL Z d v) {kvs : List (Key × D)} {gs : List (Key × V)} (k : D.bq (kvs.map (·.2)) = true) (h : b8 K CL Z1 kvs gs) : b8 K CL Z kvs gs :=
 b8.ind (P := fun kvs gs => D.bq (kvs.map (·.2)) = true -> b8 K CL Z kvs gs) (fun _ => .nil) (fun h _ i k => by rw [ah6, D.bq, aih] at k; exact .cons (zi k.1 h) (i k.2)) h k
theorem bu.clean {Z1 : Hp} (zh : ∀ a xs, Z1 a = some (.tup xs) -> Z a = some (.tup xs)) (zi : ∀ {d : D} {v : V}, d.iY = true -> aV K CL Z1 d v -> aV K CL Z d v) (k : t.clean = true) (h : bu K CL H Z1 t v fp) : bu K CL H Z t v fp :=
 bu.rec (motive_1 := fun t v fp _ => t.clean = true -> bu K CL H Z t v fp) (motive_2 := fun t v fp _ => T.eX t = true -> aI K CL H Z t v fp) (motive_3 := fun t v fp _ => T.g9 t = true -> cI K CL H Z t v fp) (motive_4 := fun t v fp _ => T.k9 t = true -> bQ K CL H Z t v fp)
   (fun h k => .sh (zi (by rw [T.clean] at k; exact k) h)) (fun h _ r k => .tup (zh _ _ h) (r (by rw [T.clean] at k; exact k))) (fun h _ r k => .lst h (r (by rw [T.clean] at k; exact k))) (fun h _ r k => .ins h (r (by rw [T.clean] at k; exact k))) (fun h f k => .oZ h (b8.clean zi (by rw [T.clean] at k; exact k) f)) (fun h _ r k => .dct h (r (by rw [T.clean] at k; exact k))) (fun _ r k => .pin (r (by rw [T.clean] at k; exact k))) (fun _ _ k => by rw [T.clean] at k; cases k) (fun _ => .nil) (fun _ _ h r k => by rw [T.eX, aih] at k; exact .cons (h k.1) (r k.2)) (fun _ => .nil) (fun _ _ h r k => by rw [T.g9, aih] at k; exact .cons (h k.1) (r k.2)) (fun _ => .nil) (fun _ _ h r k => by rw [T.k9, aih] at k; exact .cons (h k.1) (r k.2)) h k
theorem aY.back {W W' : Hp} (S : aY K CL b H Z δ σ ts vs) (hh : ay H H') (zw : ay Z W) (ww : ay W W') (wh : ay W' H') (new : ∀ a o, W' a = some o -> W a = none -> H a = none)
   (tp : ∀ a o, H' a = some o -> jd o = true -> W' a = some o) (r : bu K CL H' W' t v fp) (nd : fp.Nodup) (own : ∀ a ∈ fp, W' a = none /\ H a = none) (c : W = Z \/ t.clean = true) :
   ∃ Z', ay Z Z' /\ aY K CL b H' Z' δ σ (t :: ts) (v :: vs) := by
 classical
 let Z' : Hp := fun a => if (H a).isSome = true then Z a else W' a
 have zs : ∀ {a : Addr} {o : HO}, H a = some o -> Z' a = Z a := fun {a o} e => by
   show (if (H a).isSome = true then Z a else W' a) = Z a
   rw [ah7 (by rw [e]; rfl)]
 have zn : ∀ {a : Addr}, H a = none -> Z' a = W' a := fun {a} e => by
   show (if (H a).isSome = true then Z a else W' a) = W' a
   rw [ahX (by rw [e]; simp)]
 have sz : ay Z Z' := fun a o q => by rw [zs (S.zh a o q)]; exact q
 have zw' : ∀ a o, Z' a = some o -> W' a = some o := fun a o q => by
   cases e : H a with
   | none => rw [zn e] at q; exact q
   | some u => rw [zs e] at q; exact ww a o (zw a o q)
 have ztp : ∀ a o, H' a = some o -> jd o = true -> Z' a = some o := fun a o q i => by
   cases e : H a with
   | none => rw [zn e]; exact tp a o q i
   | some u =>
     rw [zs e]
     have := hh a u e
     rw [q] at this; cases this
     exact S.tp a o e i
 have r' : bu K CL H' Z' t v fp := by
   rcases c with c | c
   . have : Z' = W' := by
       funext a
       cases e : H a with
       | none => exact zn e
       | some u =>
         rw [zs e]
         cases q : W' a with
         | none =>
           cases q2 : Z a with
           | none => rfl
           | some o => rw [ww a o (zw a o q2)] at q; cases q
         | some o =>
           cases q2 : W a with
           | none => rw [new a o q q2] at e; cases e
           | some o2 =>
             have := ww a o2 q2
             rw [q] at this; cases this
             rw [← c]; exact q2
     rw [this]; exact r
   . refine bu.clean (fun a xs h => ?_) (fun {d v} k h => ?_) c r
     . exact ztp a _ (wh a _ h) rfl
     . exact aV.iY (H := H') ztp k (h.mono wh)
 obtain ⟨f0, g0, e0, r0, Vb, k0⟩ := S.rep
 have old : ∀ a ∈ f0 ++ g0, ∃ o, H a = some o := fun a ha => (ahZ.mp ha).elim (e0.there a) (r0.there a)
 have keep : ∀ a ∈ f0 ++ g0, H' a = H a := fun a ha => by
   obtain ⟨o, e⟩ := old a ha
   rw [e]; exact hh a o e
 refine ⟨Z', sz, ⟨⟨f0, fp ++ g0, e0.mono sz (fun a ha => keep a (ahR _ ha)), .cons r' (r0.mono sz fun a ha => keep a (ahM _ ha)), ?_, fun a ha => ?_⟩, S.bh.trans hh, S.zz.trans sz, fun a o q => wh a o (zw' a o q), fun a o q z => ?_, ztp, S.tab⟩⟩
 . have hp : (f0 ++ (fp ++ g0)).Perm (fp ++ (f0 ++ g0)) := by
     rw [← ahQ, ← ahQ]
     exact aim.append_right g0
   refine hp.nodup_iff.mpr (ais.mpr ⟨nd, Vb, fun a ha c hc e => ?_⟩)
   subst e
   obtain ⟨o, q⟩ := old a hc
   rw [(own a ha).2] at q; cases q
 . have : a ∈ f0 ++ g0 \/ a ∈ fp := by
     simp only [ahZ] at ha ⊢
     rcases ha with h | h | h
     . exact .inl (.inl h)
     . exact .inr h
     . exact .inl (.inr h)
   rcases this with h | h
   . obtain ⟨o, q⟩ := old a h
     exact ⟨by rw [zs q]; exact (k0 a h).1, (k0 a h).2⟩
   . exact ⟨by rw [zn (own a h).2]; exact (own a h).1, S.bh.free (own a h).2⟩
 . cases e : H a with
   | none => exact S.bh.free e
   | some u => rw [zs e] at q; exact S.new a o q z
section
variable {δ1 δ2 : Q.e} {e1 e2 : Expr} {pos : Pos} {d d1 d2 : D}
theorem SX (h : bI X CL b e δ t δ1) : cU X CL b e δ t.bM δ1 := fun H Z σ ts vs Q S k => h H Z σ ts vs Q S fun v H' Z' z s S' => k v H' Z' z s S'.pop S'.view
theorem ah (h : bI X CL b e δ (.sh d) δ1) : cU X CL b e δ d δ1 := by have := SX h; rwa [T.bM] at this
theorem jA (h : cU X CL b e δ d δ1) (i : d.iY = true) : bI X CL b e δ (.sh d) δ1 := fun H Z σ ts vs Q S k => h H Z σ ts vs Q S fun v H' Z' z s S' r => k v H' Z' z s (S'.push (aV.iY S'.tp i r))
theorem Cz (h : bI X CL b e δ t δ1) : bI X CL b e δ (.sh t.bM) δ1 := fun H Z σ ts vs Q S k => h H Z σ ts vs Q S fun v H' Z' z s S' => by
 obtain ⟨Z2, z2, S2⟩ := S'.yL
 exact k v H' Z2 (z.trans z2) s S2
theorem aj {i : Int} {j : Nat} : bI X CL b (.Constant (.int i) j pos) δ (.sh (.int i)) δ := fun H Z σ ts vs Q S k => bN Uk (k _ _ Z (.refl _) (.refl _) (S.push (.int i)))
theorem SY {i : Bool} {j : Nat} : bI X CL b (.Constant (.bool i) j pos) δ (.sh (.bl i)) δ := fun H Z σ ts vs Q S k => bN Yy (k _ _ Z (.refl _) (.refl _) (S.push (.bl i)))
theorem Vc {j : Nat} : bI X CL b (.Constant .none j pos) δ (.sh .non) δ := fun H Z σ ts vs Q S k => bN Ul (k _ _ Z (.refl _) (.refl _) (S.push .non))
theorem cJ {x : Str} {j : Nat} : bI X CL b (.Constant (.str x) j pos) δ (.sh (.str x)) δ := fun H Z σ ts vs Q S k => bN Um (k _ _ Z (.refl _) (.refl _) (S.push (.str x)))
section
variable {x : Str} (i : Nat) (hi : X.N[i]? = some x := by rfl) (hv : X9 X.env.scope x := by first | exact Or.inl rfl | exact Or.inr (Or.inl rfl) | exact Or.inr (Or.inr rfl)) (hd : Q.p := by decide) (kE : (x == ("__classdict__" : Str)) = false := by decide)
include hi hv hd kE
theorem Vd (h : δ[i]? = some (some (.sh d)) := by rfl) : bI X CL b (.Name x pos) δ (.sh d) δ := fun H Z σ ts vs Q S k => by
 obtain ⟨v, e, r⟩ := S.SW h
 exact bN (iX hi hv hd kE) ⟨v, e, k v H Z (.refl _) (.refl _) (S.push r)⟩
theorem O7 (h : δ[i]? = some (some t) := by rfl) : bI X CL b (.Name x pos) δ (.sh t.bM) (δ.set i (some (.sh t.bM))) := fun H Z σ ts vs Q S k => by
 obtain ⟨v, Z', e, z, S'⟩ := S.O6 h
 exact bN (iX hi hv hd kE) ⟨v, e, k v H Z' z (.refl _) S'⟩
theorem O8 (h : δ[i]? = some (some t) := by rfl) : bI X CL b (.Name x pos) δ t (δ.set i none) := fun H Z σ ts vs Q S k => by
 obtain ⟨v, e, S'⟩ := S.move h
 exact bN (iX hi hv hd kE) ⟨v, e, k v H Z (.refl _) (.refl _) S'⟩
theorem Ve (h : δ[i]? = some (some t) := by rfl) : cU X CL b (.Name x pos) δ t.bM δ := fun H Z σ ts vs Q S k => by
 obtain ⟨v, e, r⟩ := S.look h
 exact bN (iX hi hv hd kE) ⟨v, e, k v H Z (.refl _) (.refl _) S r⟩
end
def Vf : D -> Option V
 | .non => some .non
 | .bl b => some (.bl b)
 | .int i => some (.int i)
 | .str x => some (.str x)
 | _ => none
theorem aV.sc {d : D} {w : V} (r : aV K CL Z d v) (h : Vf d = some w) : v = w := by
 cases r <;> first | (exact aie h) | (cases h)
theorem O9 {d : D} {w : V} (h : Vf d = some w) : aV K CL Z d w := by
 cases d <;> first | (cases h; constructor) | (cases h)
theorem pM {op : Operator} {r : R2} {w1 w2 w : V} (ho : rM X (binaryOp op) r) (h1 : cU X CL b e1 δ d1 δ1) (h2 : cU X CL b e2 δ1 d2 δ2) (s1 : Vf d1 = some w1) (s2 : Vf d2 = some w2) (s3 : Vf d = some w)
   (hr : ∀ (H : Hp) (Q : VK), Q w H -> r w1 w2 H Q) : bI X CL b (.BinOp e1 op e2 pos) δ (.sh d) δ2 := fun H Z σ ts vs Q S k => by
 refine bN (uY ho cA cA) (h1 H Z σ ts vs _ S fun v1 H1 Z1 z1 k1 S1 r1 => h2 H1 Z1 σ ts vs _ S1 fun v2 H2 Z2 z2 k2 S2 r2 => ?_)
 rw [r1.sc s1, r2.sc s2]
 exact hr H2 Q (k w H2 Z2 (z1.trans z2) (k1.trans k2) (S2.push (O9 s3)))
theorem bH {i j : Int} (h1 : cU X CL b e1 δ (.int i) δ1) (h2 : cU X CL b e2 δ1 (.int j) δ2) : bI X CL b (.BinOp e1 .Add e2 pos) δ (.sh (.int (i + j))) δ2 := pM UI h1 h2 rfl rfl rfl fun _ _ q => ⟨i, j, rfl, rfl, q⟩
theorem yM {i j : Int} (h1 : cU X CL b e1 δ (.int i) δ1) (h2 : cU X CL b e2 δ1 (.int j) δ2) : bI X CL b (.BinOp e1 .Sub e2 pos) δ (.sh (.int (i - j))) δ2 := pM UJ h1 h2 rfl rfl rfl fun _ _ q => ⟨i, j, rfl, rfl, q⟩
theorem jB {i j : Int} (h1 : cU X CL b e1 δ (.int i) δ1) (h2 : cU X CL b e2 δ1 (.int j) δ2) (c : Oz i j) : bI X CL b (.BinOp e1 .Mult e2 pos) δ (.sh (.int (i * j))) δ2 := pM UK h1 h2 rfl rfl rfl fun _ _ q => ⟨i, j, rfl, rfl, c, q⟩
theorem bF {i j : Int} (h1 : cU X CL b e1 δ (.int i) δ1) (h2 : cU X CL b e2 δ1 (.int j) δ2) (c : 0 < j) : bI X CL b (.BinOp e1 .Mod e2 pos) δ (.sh (.int (i % j))) δ2 := pM UL h1 h2 rfl rfl rfl fun _ _ q => ⟨i, j, rfl, rfl, c, q⟩
theorem d7 {i j : Int} (h1 : cU X CL b e1 δ (.int i) δ1) (h2 : cU X CL b e2 δ1 (.int j) δ2) (c : YT i j) : bI X CL b (.BinOp e1 .FloorDiv e2 pos) δ (.sh (.int (i / j))) δ2 := pM OB h1 h2 rfl rfl rfl fun _ _ q => ⟨i, j, rfl, rfl, c, q⟩
theorem JF {i j : Int} (h1 : cU X CL b e1 δ (.int i) δ1) (h2 : cU X CL b e2 δ1 (.int j) δ2) (c : YV i j) : bI X CL b (.BinOp e1 .Pow e2 pos) δ (.sh (.int (i ^ j.toNat))) δ2 := pM UM h1 h2 rfl rfl rfl fun _ _ q => ⟨i, j, rfl, rfl, c, q⟩
theorem pN {x y : Str} (h1 : cU X CL b e1 δ (.str x) δ1) (h2 : cU X CL b e2 δ1 (.str y) δ2) (c : x.length + y.length <= sizeLine) : bI X CL b (.BinOp e1 .Add e2 pos) δ (.sh (.str (x ++ y))) δ2 := pM Cb h1 h2 rfl rfl rfl fun _ _ q => ⟨x, y, rfl, rfl, c, q⟩
theorem JG {op : CmpOp} {r : R2} {p : Bool} {w1 w2 : V} (ho : rM X (compareOp op) r) (h1 : cU X CL b e1 δ d1 δ1) (h2 : cU X CL b e2 δ1 d2 δ2) (s1 : Vf d1 = some w1) (s2 : Vf d2 = some w2)
   (hr : ∀ (H : Hp) (Q : VK), Q (.bl p) H -> r w1 w2 H Q) (hm : behindInMarks op e2 = false) : sU X CL b (.Compare e1 [op] [e2] pos) δ p δ2 /\ bI X CL b (.Compare e1 [op] [e2] pos) δ (.sh (.bl p)) δ2 := by
 constructor
 . intro H Z σ ts vs Q S k
   refine Cv (qo ho cA cA hm) (h1 H Z σ ts vs _ S fun v1 H1 Z1 z1 k1 S1 r1 => h2 H1 Z1 σ ts vs _ S1 fun v2 H2 Z2 z2 k2 S2 r2 => ?_)
   rw [r1.sc s1, r2.sc s2]
   exact hr H2 _ ⟨p, rfl, k H2 Z2 (z1.trans z2) (k1.trans k2) S2⟩
 . intro H Z σ ts vs Q S k
   refine bN (qm ho cA cA hm) (h1 H Z σ ts vs _ S fun v1 H1 Z1 z1 k1 S1 r1 => h2 H1 Z1 σ ts vs _ S1 fun v2 H2 Z2 z2 k2 S2 r2 => ?_)
   rw [r1.sc s1, r2.sc s2]
   exact hr H2 _ (k _ H2 Z2 (z1.trans z2) (k1.trans k2) (S2.push (.bl p)))
theorem fQ {i j : Int} (h1 : cU X CL b e1 δ (.int i) δ1) (h2 : cU X CL b e2 δ1 (.int j) δ2) : sU X CL b (.Compare e1 [.Eq] [e2] pos) δ (decide (i = j)) δ2 /\ bI X CL b (.Compare e1 [.Eq] [e2] pos) δ (.sh (.bl (decide (i = j)))) δ2 :=
 JG YW h1 h2 rfl rfl (fun _ _ q => ⟨rfl, by rw [show decide (V.int i = V.int j) = decide (i = j) by simp]; exact q⟩) (pL _)
theorem Zq {i j : Int} (h1 : cU X CL b e1 δ (.int i) δ1) (h2 : cU X CL b e2 δ1 (.int j) δ2) : sU X CL b (.Compare e1 [.Lt] [e2] pos) δ (decide (i < j)) δ2 /\ bI X CL b (.Compare e1 [.Lt] [e2] pos) δ (.sh (.bl (decide (i < j)))) δ2 := JG YX h1 h2 rfl rfl (fun _ _ q => ⟨i, j, rfl, rfl, q⟩) (pL _)
theorem S6 {i j : Int} (h1 : cU X CL b e1 δ (.int i) δ1) (h2 : cU X CL b e2 δ1 (.int j) δ2) : sU X CL b (.Compare e1 [.Gt] [e2] pos) δ (decide (j < i)) δ2 /\ bI X CL b (.Compare e1 [.Gt] [e2] pos) δ (.sh (.bl (decide (j < i)))) δ2 := JG YY h1 h2 rfl rfl (fun _ _ q => ⟨i, j, rfl, rfl, q⟩) (pL _)
end
theorem aI.split : ∀ {as bs : List T} {us ws : List V} {gp : List Addr}, as.length = us.length -> aI K CL H Z (as ++ bs) (us ++ ws) gp -> ∃ g1 g2, gp = g1 ++ g2 /\ aI K CL H Z as us g1 /\ aI K CL H Z bs ws g2
 | [], _, [], _, gp, _, r => ⟨[], gp, rfl, .nil, r⟩
 | [], _, _ :: _, _, _, h, _ => by simp at h
 | _ :: _, _, [], _, _, h, _ => by simp at h
 | a :: as, bs, u :: us, ws, gp, h, r => by
   cases r with
   | @cons _ _ _ _ f1 f2 r1 r2 =>
     obtain ⟨g1, g2, e, h1, h2⟩ := aI.split (as := as) (us := us) (by simpa using h) r2
     exact ⟨f1 ++ g1, g2, by rw [e, ahQ], .cons r1 h1, h2⟩
variable {us : List V}
theorem aI.app {as bs : List T} {ws : List V} {g1 g2 : List Addr} (h : aI K CL H Z as us g1) (q : aI K CL H Z bs ws g2) : aI K CL H Z (as ++ bs) (us ++ ws) (g1 ++ g2) :=
 aI.ind (P := fun as us g1 => aI K CL H Z (as ++ bs) (us ++ ws) (g1 ++ g2)) q (fun r _ i => by rw [ahQ]; exact .cons r i) h
theorem aI.rev : ∀ {as : List T} {us : List V} {g : List Addr}, aI K CL H Z as.reverse us.reverse g -> ∃ g', aI K CL H Z as us g' /\ g'.Perm g
 | [], [], g, r => by
   have r' : aI K CL H Z [] [] g := r
   cases r'
   exact ⟨[], .nil, aki _⟩
 | [], u :: us, g, r => by have := r.length; simp at this
 | a :: as, [], g, r => by have := r.length; simp at this
 | a :: as, u :: us, g, r => by
   rw [aiU, aiU] at r
   have hl := r.length
   obtain ⟨g1, g2, e, r1, r2⟩ := aI.split (by simp at hl ⊢; omega) r
   subst e
   obtain ⟨g', r', p⟩ := aI.rev r1
   cases r2 with
   | @cons _ _ _ _ f1 f2 q1 q2 =>
     cases q2
     refine ⟨f1 ++ g', .cons q1 r', ?_⟩
     rw [aip]
     exact (aiH f1 p).trans aim
theorem aI.ofF : ∀ {ds : List D} {us : List V}, aA K CL Z ds us -> aI K CL H Z (ds.map T.sh) us []
 | _, _, .nil => .nil
 | _, _, .cons r t => .cons (fp := []) (gp := []) (.sh r) (aI.ofF t)
theorem aI.toF : ∀ {ds : List D} {us : List V} {g : List Addr}, aI K CL H Z (ds.map T.sh) us g -> aA K CL Z ds us /\ g = []
 | [], _, _, r => by
   have r' : aI K CL H Z [] _ _ := r
   cases r'
   exact ⟨.nil, rfl⟩
 | d :: ds, _, _, r => by
   have r' : aI K CL H Z (T.sh d :: ds.map T.sh) _ _ := r
   cases r' with
   | cons r1 r2 =>
     cases r1 with
     | sh h =>
       obtain ⟨q, e⟩ := aI.toF r2
       exact ⟨.cons h q, by rw [e]; rfl⟩
theorem iA : ∀ (ds : List D), T.gj (ds.map T.sh) = ds
 | [] => rfl
 | d :: ds => by rw [ah6, T.gj, iA ds, T.bM]
variable {tl : List T}
theorem aY.yN (S : aY K CL b H Z δ σ (tl.reverse ++ ts) (us.reverse ++ vs)) (hl : us.length = tl.length) (hp : H p = none) :
   ay Z (upd Z p (.tup us)) /\ ay H (upd H p (.tup us)) /\ aY K CL b (upd H p (.tup us)) (upd Z p (.tup us)) δ σ (.tup tl :: ts) (.ref p :: vs) := by
 obtain ⟨fp, gp, e, r, nd, k⟩ := S.rep
 obtain ⟨g1, g2, eg, r1, r2⟩ := aI.split (by simp [hl]) r
 subst eg
 obtain ⟨g', r', pm⟩ := r1.rev
 have zp : Z p = none := S.zh.free hp
 have sz : ay Z (upd Z p (.tup us)) := ay.upd zp
 have sh : ay H (upd H p (.tup us)) := ay.upd hp
 have keep : ∀ a ∈ fp ++ (g1 ++ g2), a ≠ p := fun a ha => by
   have : ∃ o, H a = some o := by
     rcases ahZ.mp ha with h | h
     . exact e.there a h
     . exact r.there a h
   obtain ⟨o, q⟩ := this
   exact bG q hp
 have JH : (fp ++ (g' ++ g2)).Perm (fp ++ (g1 ++ g2)) := (pm.append_right g2).append_left fp
 have kk : ∀ a ∈ fp ++ (g' ++ g2), a ≠ p := fun a ha => keep a (JH.mem_iff.mp ha)
 refine ⟨sz, sh, ⟨⟨fp, g' ++ g2, e.mono sz (fun a ha => ao (keep a (ahR _ ha))), .cons (.tup aB (r'.mono sz fun a ha => ao (kk a (by simp [ha])))) (r2.mono sz fun a ha => ao (keep a (by simp [ha]))), JH.nodup_iff.mpr nd, fun a ha => ?_⟩, S.bh.trans sh, S.zz.trans sz, fun a o q => ?_, fun a o q z => ?_, fun a o q i => ?_, S.tab⟩⟩
 . exact ⟨by rw [ao (kk a ha)]; exact (k a (JH.mem_iff.mp ha)).1, (k a (JH.mem_iff.mp ha)).2⟩
 . by_cases ha : a = p
   . subst ha; rw [aB] at q ⊢; exact q
   . rw [ao ha] at q ⊢; exact S.zh a o q
 . by_cases ha : a = p
   . subst ha; exact S.bh.free hp
   . rw [ao ha] at q; exact S.new a o q z
 . by_cases ha : a = p
   . subst ha; rw [aB] at q ⊢; exact q
   . rw [ao ha] at q ⊢; exact S.tp a o q i
theorem aY.pO {g0 : List Addr} (S : aY K CL b H Z δ σ (tl.reverse ++ ts) (us.reverse ++ vs)) (hl : us.length = tl.length) (hp : H p = none) :
   ay H (upd H p (.lst us)) /\ aY K CL b (upd H p (.lst us)) Z δ σ (.lst tl :: ts) (.ref p :: vs) := by
 obtain ⟨fp, gp, e, r, nd, k⟩ := S.rep
 obtain ⟨g1, g2, eg, r1, r2⟩ := aI.split (by simp [hl]) r
 subst eg
 obtain ⟨g', r', pm⟩ := r1.rev
 have zp : Z p = none := S.zh.free hp
 have sh : ay H (upd H p (.lst us)) := ay.upd hp
 have keep : ∀ a ∈ fp ++ (g1 ++ g2), a ≠ p := fun a ha => by
   have : ∃ o, H a = some o := by
     rcases ahZ.mp ha with h | h
     . exact e.there a h
     . exact r.there a h
   obtain ⟨o, q⟩ := this
   exact bG q hp
 have JH : (fp ++ (g' ++ g2)).Perm (fp ++ (g1 ++ g2)) := (pm.append_right g2).append_left fp
 have kk : ∀ a ∈ fp ++ (g' ++ g2), a ≠ p := fun a ha => keep a (JH.mem_iff.mp ha)
 have pm3 : (fp ++ ((p :: g') ++ g2)).Perm (p :: (fp ++ (g' ++ g2))) := by
   rw [aiz]; exact ai2
 refine ⟨sh, ⟨⟨fp, (p :: g') ++ g2, e.mono (.refl _) (fun a ha => ao (keep a (ahR _ ha))), .cons (.lst aB (r'.mono (.refl _) fun a ha => ao (kk a (by simp [ha])))) (r2.mono (.refl _) fun a ha => ao (keep a (by simp [ha]))), ?_, fun a ha => ?_⟩, S.bh.trans sh, S.zz, S.zh.trans sh, S.new, fun a o q i => ?_, S.tab⟩⟩
 . refine pm3.nodup_iff.mpr (aiE.mpr ⟨fun h => kk p h rfl, JH.nodup_iff.mpr nd⟩)
 . rcases ahT.mp (pm3.mem_iff.mp ha) with h | h
   . subst h; exact ⟨zp, S.bh.free hp⟩
   . exact k a (JH.mem_iff.mp h)
 . by_cases ha : a = p
   . subst ha; rw [aB] at q; cases q; cases i
   . rw [ao ha] at q; exact S.tp a o q i
variable {δ1 δ2 : Q.e} {e1 e2 : Expr} {p q : Bool} {pos : Pos} {d : D} {ds : List D}
theorem fB : Ex X CL b [] δ [] δ := fun H Z σ ts vs Q S k => Cw c5 (k [] H Z rfl (.refl _) (.refl _) S)
theorem cB (h1 : bI X CL b e δ t δ1) (h2 : Ex X CL b es δ1 tl δ2) (hs : Q.w := by exact aW rfl) : Ex X CL b (e :: es) δ (t :: tl) δ2 := fun H Z σ ts vs Q S k =>
 Cw (bL cA IB hs) (h1 H Z σ ts vs _ S fun v H1 Z1 z1 k1 S1 => h2 H1 Z1 σ _ _ _ S1 fun us H2 Z2 hl z2 k2 S2 => k (v :: us) H2 Z2 (by simp [hl]) (z1.trans z2) (k1.trans k2) (by
   rw [aiU, aiU, ahQ, ahQ]
   exact S2))
theorem aD : JD X CL b [] δ [] δ := fun H Z σ ts vs Q S k => Cw c5 (k [] H Z (.refl _) (.refl _) S .nil)
theorem ai (h1 : cU X CL b e δ d δ1) (h2 : JD X CL b es δ1 ds δ2) (hs : Q.w := by exact aW rfl) : JD X CL b (e :: es) δ (d :: ds) δ2 := fun H Z σ ts vs Q S k =>
 Cw (bL cA IB hs) (h1 H Z σ ts vs _ S fun v H1 Z1 z1 k1 S1 r1 => h2 H1 Z1 σ _ _ _ S1 fun us H2 Z2 z2 k2 S2 r2 => k (v :: us) H2 Z2 (z1.trans z2) (k1.trans k2) S2 (.cons (r1.mono k2) r2))
variable {j : Nat}
theorem mJ (h : Ex X CL b es δ tl δ1) (hl : tl.length <= sizeLine) : bI X CL b (.Tuple es j pos) δ (.tup tl) δ1 := fun H Z σ ts vs Q S k =>
 bN (UR IB) (h H Z σ ts vs _ S fun us H1 Z1 hu z1 k1 S1 => ⟨by rw [hu]; exact hl, fun p hp => by
   obtain ⟨a, c, S2⟩ := S1.yN hu hp
   exact k _ _ _ (z1.trans a) (k1.trans c) S2⟩)
theorem aF (h : Ex X CL b es δ (ds.map T.sh) δ1) (hl : ds.length <= sizeLine) : bI X CL b (.Tuple es j pos) δ (.sh (.tup ds)) δ1 := by
 have := Cz (mJ (pos := pos) (j := j) h (by simpa using hl))
 rwa [T.bM, iA] at this
theorem mK (h : Ex X CL b es δ tl δ1) (hl : tl.length <= sizeLine) : bI X CL b (.List es pos) δ (.lst tl) δ1 := fun H Z σ ts vs Q S k =>
 bN (UT IB) (h H Z σ ts vs _ S fun us H1 Z1 hu z1 k1 S1 => ⟨by rw [hu]; exact hl, fun p hp => by
   obtain ⟨c, S2⟩ := S1.pO (g0 := []) hu hp
   exact k _ _ _ z1 (k1.trans c) S2⟩)
theorem jT (h : bI X CL b e δ (.sh (.bl p)) δ1) (he : ∀ whole, isTrue e X.env whole = (do let v ← whole; standAt e.pos; holding [v] (truthy v)) := by intro _; rfl) : sU X CL b e δ p δ1 := fun H Z σ ts vs Q S k =>
 Cv (Uo cA he) (h H Z σ ts vs _ S fun v H1 Z1 z1 k1 S1 => ⟨p, by have := S1.view; rw [T.bM] at this; exact this.sc rfl, k H1 Z1 z1 k1 S1.pop⟩)
theorem kg (h : sU X CL b e δ p δ1) : sU X CL b (.UnaryOp .Not e pos) δ (!p) δ1 := fun H Z σ ts vs Q S k => Cv (Ur U7) (h H Z σ ts vs _ S fun H1 Z1 z1 k1 S1 => k H1 Z1 z1 k1 S1)
def Vg (X : Cx) (e : Expr) : TT := fun σ H Q => ∀ (whole : Sem Value) (pins : Q.j) (s : Shared), Inv X pins σ H s -> wpAny Q.f X.A (isTrue e X.env whole) (TP X pins σ Q) X.xe s
theorem pwS : PW X e (Vg X e) := fun whole pins s _ _ _ I h => h whole pins s I
def Vh (X : Cx) (CL : Q.d) (b : Bx) (e : Expr) (δ : Q.e) (p : Bool) (δ' : Q.e) : Prop :=
 ∀ (H Z : Hp) (σ : L2.St) (ts : List T) (vs : List V) (Q : Bool -> Hp -> Prop), aY X.K CL b H Z δ σ ts vs -> (∀ H' Z', ay Z Z' -> ay H H' -> aY X.K CL b H' Z' δ' σ ts vs -> Q p H') -> Vg X e σ H Q
theorem Pa {t : TT} (h : PW X e t) (q : t σ H Q) : Vg X e σ H Q := fun whole pins s I => h whole pins s σ H Q I q
theorem yO (h : Vh X CL b e δ p δ1) : sU X CL b e δ p δ1 := fun H Z σ ts vs Q S k pins s I => h H Z σ ts vs Q S k _ pins s I
theorem Ez (h : sU X CL b e δ p δ1) : Vh X CL b (.BoolOp .And [e] pos) δ p δ1 := fun H Z σ ts vs Q S k => Pa (Ou U7) (h H Z σ ts vs _ S k)
theorem pP (h : sU X CL b e δ p δ1) : Vh X CL b (.BoolOp .Or [e] pos) δ p δ1 := fun H Z σ ts vs Q S k => Pa (Up U7) (h H Z σ ts vs _ S k)
theorem JK (h : sU X CL b e δ p δ1) (h2 : p = true -> Vh X CL b (.BoolOp .And (e2 :: es) pos) δ1 q δ1) : Vh X CL b (.BoolOp .And (e :: e2 :: es) pos) δ (p && q) δ1 := fun H Z σ ts vs Q S k =>
 Pa (Uq U7 pwS) (h H Z σ ts vs _ S fun H1 Z1 z1 k1 S1 => by
   cases p with
   | true => exact Jr (h2 rfl H1 Z1 σ ts vs _ S1 fun H2 Z2 z2 k2 S2 => k H2 Z2 (z1.trans z2) (k1.trans k2) S2)
   | false => exact Jq (k H1 Z1 z1 k1 S1))
theorem pB (h : sU X CL b e δ p δ1) (h2 : p = false -> Vh X CL b (.BoolOp .Or (e2 :: es) pos) δ1 q δ1) : Vh X CL b (.BoolOp .Or (e :: e2 :: es) pos) δ (p || q) δ1 := fun H Z σ ts vs Q S k =>
 Pa (Yz U7 pwS) (h H Z σ ts vs _ S fun H1 Z1 z1 k1 S1 => by
   cases p with
   | true => exact Jr (k H1 Z1 z1 k1 S1)
   | false => exact Jq (h2 rfl H1 Z1 σ ts vs _ S1 fun H2 Z2 z2 k2 S2 => k H2 Z2 (z1.trans z2) (k1.trans k2) S2))
theorem JL {op : BoolOp} (h : bI X CL b e δ t δ1) : bI X CL b (.BoolOp op [e] pos) δ t δ1 := fun H Z σ ts vs Q S k => bN (Us cA) (h H Z σ ts vs _ S k)
theorem JM (h : bI X CL b e δ (.sh (.bl p)) δ1) (h2 : p = true -> bI X CL b (.BoolOp .And (e2 :: es) pos) δ1 (.sh (.bl q)) δ1) : bI X CL b (.BoolOp .And (e :: e2 :: es) pos) δ (.sh (.bl (p && q))) δ1 := fun H Z σ ts vs Q S k =>
 bN (Ut cA cA) (h H Z σ ts vs _ S fun v H1 Z1 z1 k1 S1 => by
   have hv : v = .bl p := by have := S1.view; rw [T.bM] at this; exact this.sc rfl
   refine ⟨p, hv, ?_⟩
   cases p with
   | true => exact Jr (h2 rfl H1 Z1 σ ts vs _ S1.pop fun v H2 Z2 z2 k2 S2 => k v H2 Z2 (z1.trans z2) (k1.trans k2) S2)
   | false => exact Jq (k _ H1 Z1 z1 k1 (S1.pop.push (.bl false))))
theorem Vi (h : bI X CL b e δ (.sh (.bl p)) δ1) : bI X CL b (.UnaryOp .Not e pos) δ (.sh (.bl (!p))) δ1 := fun H Z σ ts vs Q S k =>
 bN (L2.Uu cA) (h H Z σ ts vs _ S fun v H1 Z1 z1 k1 S1 => ⟨p, by have := S1.view; rw [T.bM] at this; exact this.sc rfl, k _ H1 Z1 z1 k1 (S1.pop.push (.bl (!p)))⟩)
variable {k : Int}
theorem tZ (r : aA K CL Z ds vs) (h : rN ds k = some d) : ∃ v, rN vs k = some v /\ aV K CL Z d v := by
 unfold rN at h ⊢
 rw [← r.length]
 cases e : Ep ds.length k with
 | none => rw [e] at h; cases h
 | some j =>
   rw [e] at h
   exact r.get h
theorem gJ (h1 : cU X CL b e1 δ (.tup ds) δ1) (h2 : cU X CL b e2 δ1 (.int k) δ2) (hk : rN ds k = some d) (hs : k7 e2 := by exact fun _ _ => rfl) : cU X CL b (.Subscript e1 e2 pos) δ d δ2 := fun H Z σ ts vs Q S kk =>
 bN (xH Jk cA cA hs) (h1 H Z σ ts vs _ S fun v1 H1 Z1 z1 k1 S1 r1 => h2 H1 Z1 σ ts vs _ S1 fun v2 H2 Z2 z2 k2 S2 r2 => by
   have Gy := r1.mono k2
   cases Gy with
   | tup hq rr =>
     obtain ⟨v, hv, rv⟩ := tZ rr hk
     exact ⟨_, _, k, v, rfl, r2.sc rfl, hq, hv, kk v H2 Z2 (z1.trans z2) (k1.trans k2) S2 rv⟩)
theorem cu (h1 : cU X CL b e1 δ (.lst ds) δ1) (h2 : cU X CL b e2 δ1 (.int k) δ2) (hk : rN ds k = some d) (hs : k7 e2 := by exact fun _ _ => rfl) : cU X CL b (.Subscript e1 e2 pos) δ d δ2 := fun H Z σ ts vs Q S kk =>
 bN (xH yE cA cA hs) (h1 H Z σ ts vs _ S fun v1 H1 Z1 z1 k1 S1 r1 => h2 H1 Z1 σ ts vs _ S1 fun v2 H2 Z2 z2 k2 S2 r2 => by
   have Gy := r1.mono k2
   cases Gy with
   | lst hq rr =>
     obtain ⟨v, hv, rv⟩ := tZ rr hk
     exact ⟨_, _, k, v, rfl, r2.sc rfl, hq, hv, kk v H2 Z2 (z1.trans z2) (k1.trans k2) S2 rv⟩)
variable {x : Str}
theorem JN {c : Nat} (h1 : cU X CL b e1 δ (.str x) δ1) (h2 : cU X CL b e2 δ1 (.int k) δ2) (hl : x.length <= sizeLine) (hk : rN x.cps.toList k = some c) (hs : k7 e2 := by exact fun _ _ => rfl) : bI X CL b (.Subscript e1 e2 pos) δ (.sh (.str ⟨#[c]⟩)) δ2 := fun H Z σ ts vs Q S kk =>
 bN (xH UY cA cA hs) (h1 H Z σ ts vs _ S fun v1 H1 Z1 z1 k1 S1 r1 => h2 H1 Z1 σ ts vs _ S1 fun v2 H2 Z2 z2 k2 S2 r2 =>
   ⟨x, k, c, r1.sc rfl, r2.sc rfl, hl, hk, kk _ H2 Z2 (z1.trans z2) (k1.trans k2) (S2.push (.str _))⟩)
theorem CB (h1 : bI X CL b e1 δ (.sh (.tup ds)) δ1) (h2 : cU X CL b e2 δ1 (.int k) δ2) (hk : rN ds k = some d) (hs : k7 e2 := by exact fun _ _ => rfl) : bI X CL b (.Subscript e1 e2 pos) δ (.sh d) δ2 := fun H Z σ ts vs Q S kk =>
 bN (xH Jk cA cA hs) (h1 H Z σ ts vs _ S fun v1 H1 Z1 z1 k1 S1 => h2 H1 Z1 σ _ _ _ S1 fun v2 H2 Z2 z2 k2 S2 r2 => by
   obtain ⟨fp, gp, _, r, _, _⟩ := S2.rep
   cases r with
   | cons r _ =>
     cases r with
     | sh r =>
       cases r with
       | tup hq rr =>
         obtain ⟨v, hv, rv⟩ := tZ rr hk
         exact ⟨_, _, k, v, rfl, r2.sc rfl, ay.tY S2.zh hq, hv, kk v H2 Z2 (z1.trans z2) (k1.trans k2) (S2.pop.push rv)⟩)
theorem ic (h1 : bI X CL b e1 δ (.sh (.lst ds)) δ1) (h2 : cU X CL b e2 δ1 (.int k) δ2) (hk : rN ds k = some d) (hs : k7 e2 := by exact fun _ _ => rfl) : bI X CL b (.Subscript e1 e2 pos) δ (.sh d) δ2 := fun H Z σ ts vs Q S kk =>
 bN (xH yE cA cA hs) (h1 H Z σ ts vs _ S fun v1 H1 Z1 z1 k1 S1 => h2 H1 Z1 σ _ _ _ S1 fun v2 H2 Z2 z2 k2 S2 r2 => by
   obtain ⟨fp, gp, _, r, _, _⟩ := S2.rep
   cases r with
   | cons r _ =>
     cases r with
     | sh r =>
       cases r with
       | lst hq rr =>
         obtain ⟨v, hv, rv⟩ := tZ rr hk
         exact ⟨_, _, k, v, rfl, r2.sc rfl, S2.zh.seq hq, hv, kk v H2 Z2 (z1.trans z2) (k1.trans k2) (S2.pop.push rv)⟩)
theorem aY.pC : ∀ {ds : List D} {us : List V} {ts : List T} {vs : List V}, aA K CL Z ds us -> aY K CL b H Z δ σ ts vs -> aY K CL b H Z δ σ ((ds.map T.sh).reverse ++ ts) (us.reverse ++ vs)
 | _, _, _, _, .nil, S => S
 | _, _, ts, vs, .cons (d := d) (v := v) (ds := ds) (vs := us) r t, S => by
   rw [ah6, aiU, aiU, ahQ, ahQ]
   exact aY.pC t (S.push r)
section
variable {pp : Pos} {ds : List D}
theorem EA (hm : X.mg "len" = none) (h : cU X CL b e δ (.lst ds) δ1) (hg : Gl X "len" := by rfl) (hs : Q.x := by exact aW rfl) (hpl : (backTo pos (starEach ([] : List Expr) X.env)).any (·.1) = false := by rfl) : bI X CL b (.Call (.Name "len" pp) [e] [] pos) δ (.sh (.int ds.length)) δ1 := fun H Z σ ts vs Q S k =>
 bN (gI yG hg hm PySem.boot_len (bL cA c5 hs) (he := hs)) (h H Z σ ts vs _ S fun v H1 Z1 z1 k1 S1 r => by
   cases r with
   | lst hq rr => exact ⟨_, _, rfl, .inl hq, by rw [← rr.length]; exact k _ H1 Z1 z1 k1 (S1.push (.int _))⟩)
theorem iJ (hm : X.mg "list" = none) (h : cU X CL b e δ (.lst ds) δ1) (hi : D.bq ds = true) (hg : Gl X "list" := by rfl) (hv : bootBuiltins "list" = some (.type "list") := by rfl) (hs : Q.x := by exact aW rfl) : bI X CL b (.Call (.Name "list" pp) [e] [] pos) δ (.lst (ds.map T.sh)) δ1 := fun H Z σ ts vs Q S k =>
 bN (gC yH hg hm hv (bL cA c5 hs) (he := hs)) (h H Z σ ts vs _ S fun v H1 Z1 z1 k1 S1 r => by
   cases r with
   | lst hq rr =>
     refine ⟨_, _, rfl, .inl hq, fun l hl => ?_⟩
     obtain ⟨c, S2⟩ := (aY.pC (aA.iY S1.tp hi rr) S1).pO (g0 := []) (by simp [rr.length]) hl
     exact k _ _ _ z1 (k1.trans c) S2)
def IC (K : Q.h) (CL : Q.d) {A : Type} (n : Nat) (arg : A -> List D) (Pre : A -> Prop) (res : A -> T) : Sp := fun vs H Q _ =>
 ∃ (W : Hp) (a : A), ay W H /\ (∀ c o, H c = some o -> jd o = true -> W c = some o) /\ aA K CL W (arg a) vs /\ (arg a).length = n /\ Pre a /\ k8 CL W ∧
   ∀ v H' W' fp, ay H H' -> ay W W' -> ay W' H' -> (∀ c o, W' c = some o -> W c = none -> H c = none) -> (∀ c o, H' c = some o -> jd o = true -> W' c = some o) →
     bu K CL H' W' (res a) v fp -> fp.Nodup -> (∀ c ∈ fp, W' c = none /\ H c = none) -> Q v H'
variable {A : Type} {k n : Nat} {f : Addr} {fd : FuncData} {ps : List Str} {arg : A -> List D} {Pre : A -> Prop} {res : A -> T}
theorem Pb (a : A) (F : gH X.prog X.w X.K X.mg X.base sR k f fd ps (IC X.K CL n arg Pre res)) (hr : fk k X.A) (hm : X.mg x = some (.ref f)) (hk : PySem.W.keepIn X.K (.ref f) = true) (hb : Binds X.K fd ps [])
   (h : JD X CL b (e :: es) δ (arg a) δ1) (hn : (arg a).length = n) (hp : Pre a) (hc : (res a).clean = true) (hg : Gl X x)
   (rS : Q.p := by decide) (he : Q.w := by exact aW rfl) (hpl : (backTo pos (starEach es X.env)).any (·.1) = false := by rfl) :
   bI X CL b (.Call (.Name x pp) (e :: es) [] pos) δ (res a) δ1 := fun H Z σ ts vs Q S kk =>
 bN (Ej F hr hg hm hk hb .nil Es IB rS he hpl) (h H Z σ ts vs _ S fun us H1 Z1 z1 k1 S1 r => by
   rw [aip]
   refine ⟨H1, a, .refl _, fun _ _ q _ => q, r, hn, hp, S1.U9, fun v H' W' fp hh ww wh nw tp rt nd own => ?_⟩
   obtain ⟨Z', z', S'⟩ := S1.back hh S1.zh ww wh nw tp rt nd own (.inr hc)
   exact kk v H' Z' (z1.trans z') (k1.trans hh) S')
variable {D D' : dZ} {st : Stmt} {fC Zr : List Stmt}
theorem Meets.to {E : Ends} (M : Meets K CL b Z ts vs D E) (h1 : ∀ δ, D'.nx δ -> D.nx δ) (h2 : ∀ t δ, D'.rt t δ -> D.rt t δ) (h3 : ∀ δ, D'.bk δ -> D.bk δ) (h4 : ∀ δ, D'.ct δ -> D.ct δ) : Meets K CL b Z ts vs D' E :=
 ⟨fun _ _ _ _ s S k => M.nx _ _ _ _ s S (h1 _ k), fun _ _ _ _ _ _ s S k => M.rt _ _ _ _ _ _ s S (h2 _ _ k), fun _ _ _ _ s S k => M.bk _ _ _ _ s S (h3 _ k), fun _ _ _ _ s S k => M.ct _ _ _ _ s S (h4 _ k)⟩
theorem aE (h : D.nx δ) : dh X CL b [] δ D := fun H Z σ ts vs E S M => Zn Ow (M.nx δ σ H Z (.refl _) S h)
theorem cC (h : N7 X CL b st δ { D with nx := fun δ1 => dh X CL b fC δ1 D }) : dh X CL b (st :: fC) δ D := fun H Z σ ts vs E S M =>
 Zn (IY psS JA) (h H Z σ ts vs _ S ⟨fun δ' σ' H' Z' s S' k => k H' Z' σ' ts vs E S' (M.mono s), M.rt, M.bk, M.ct⟩)
theorem Vj (h : bI X CL b e δ t δ1) (k : D.rt t δ1) : N7 X CL b (.Return (some e) pos) δ D := fun H Z σ ts vs E S M => pe (Uv cA) (h H Z σ ts vs _ S fun v H1 Z1 z1 k1 S1 => M.rt t v H1 Z1 δ1 σ z1 S1 k)
theorem Zt (h : sU X CL b e δ p δ1) (h1 : p = true -> dh X CL b fC δ1 D) (h2 : p = false -> dh X CL b Zr δ1 D) : N7 X CL b (.If e fC Zr pos) δ D := fun H Z σ ts vs E S M =>
 pe (YG U7 JA JA) (h H Z σ ts vs _ S fun H1 Z1 z1 k1 S1 => by
   cases p with
   | true => exact Jr (h1 rfl H1 Z1 σ ts vs E S1 (M.mono z1))
   | false => exact Jq (h2 rfl H1 Z1 σ ts vs E S1 (M.mono z1)))
theorem JQ (i : Nat) {pos' : Pos} (h : bI X CL b e δ t δ1) (k : D.nx (δ1.set i (some t))) (hl : i < δ1.length := by decide) (hN : X.N.Nodup := by assumption) (hi : X.N[i]? = some x := by rfl) (hx : Loc X.env.scope x := by first | exact .inl rfl | exact .inr rfl)
   (hs : swapsWith e (some (.Name x pos')) pos.line X.env = pure false := by rfl) (hf : X.fn x = true \/ X.env.scope.names.lookup x = some .local := by first | exact .inl rfl | exact .inr rfl | assumption) : N7 X CL b (.Assign [.Name x pos'] e pos) δ D := fun H Z σ ts vs E S M =>
 pe (UD hN hi hx cA hs hf) (h H Z σ ts vs _ S fun v H1 Z1 z1 k1 S1 => M.nx _ _ H1 Z1 z1 (S1.set hl) k)
end
def entry (N : List Str) (ds : List D) : List (Option T) := ds.map (fun d => some (T.sh d)) ++ List.replicate (N.length - ds.length) none
theorem jC {K : Q.h} {CL : Q.d} {H Z : Hp} : ∀ {ds : List D} {vs : List V} (n : Nat), aA K CL Z ds vs -> dJ K CL H Z (ds.map (fun d => some (T.sh d)) ++ List.replicate n none) (vs.map some ++ List.replicate n none) []
 | _, _, 0, .nil => .nil
 | _, _, n + 1, .nil => .skip (jC (ds := []) (vs := []) n .nil)
 | _, _, n, .cons r t => .cons (fp := []) (gp := []) (.sh r) (jC n t)
variable {P : Program} {w : World} {st : Stmt} {f : Addr} {fd : FuncData} {N ps : List Str} {A : Type}
theorem EB {mg : Str -> Option Value} {base : Heap} {qual : Str} {k : Nat} {arg : A -> List D} {Pre : A -> Prop} {res : A -> T} (F : kG K x qual st f fd) (S : aQ N ps (au st))
   (hb : ∀ (i7 : Value) (Ar : Around) (outer : List Env) (s : Shared) (H : Hp) (E : XK) (b : Bx) (a : A), fk k (Ar.deeper (envOfC qual (au st) s.heap.objs.size f i7)) -> Pre a →
     dh (u5 sR P w K mg base N qual (au st) f i7 Ar outer s H E).Ov CL b (fq st) (entry N (arg a)) { nx := fun _ => res a = .sh .non, rt := fun t _ => t = res a }) :
   gH P w K mg base sR (k + 1) f fd ps (IC K CL ps.length arg Pre res) := by
 refine F.ok S (fun vs H Q E h => ?_) (fun i7 Ar outer s H vs Q E hr h => ?_)
 . obtain ⟨W, a, _, _, r, hl, _⟩ := h
   rw [← r.length]; exact hl
 . obtain ⟨W, a, wh, tp, r, hl, hp, tb, kk⟩ := h
   refine ⟨_, JA, hb i7 Ar outer s H E ⟨H, W⟩ a hr hp H W _ [] [] _ ⟨⟨[], [], ?_, .nil, ajn, fun a ha => by cases ha⟩, .refl _, .refl _, wh, fun a o q z => ?_, tp, tb⟩ ⟨fun δ' σ' H' Z' s' S' e => ?_, fun t v H' Z' δ' σ' s' S' e => ?_, fun _ _ _ _ _ _ e => e.elim, fun _ _ _ _ _ _ e => e.elim⟩⟩
   . unfold entry L2.start
     rw [← r.length]
     exact jC _ r
   . have q' : W a = some o := q
     have z' : W a = none := z
     rw [q'] at z'; cases z'
   . exact kk .non H' Z' [] S'.bh S'.zz S'.zh S'.new S'.tp (by rw [show res a = .sh .non from e]; exact .sh .non) ajn fun a ha => by cases ha
   . have e' : t = res a := e
     subst e'
     obtain ⟨fp, gp, _, r', nd, own⟩ := S'.rep
     cases r' with
     | @cons _ _ _ _ f1 f2 r1 r2 =>
       have h1 := (ais.mp nd).2.1
       exact kk v H' Z' f1 S'.bh S'.zz S'.zh S'.new S'.tp r1 (ais.mp h1).1 fun a ha => own a (ahM _ (ahR _ ha))
variable {prog : Program} {A : Around} {R : Result -> Shared -> Prop} {s : Shared} {elt iter : Expr} {ifs : List Expr} {scope : Scope}
theorem yP {target : Expr} {it acc : Value} (I : Nat -> Shared -> Prop)
   (turn : ∀ n s, I n s -> wpAny (model prog w) A (pyNext it) (fun r s₁ => match r with
     | none => R (.ok .next) s₁
     | some v => wpAny (model prog w) A (letOwnedTupleGo target it v) (fun _ S7 => wpAny (model prog w) A (assign target env v) (fun _ s₂ =>
         wpAny (model prog w) A (forIn ifs true fun c r => if r = true then do let ok ← isTrue c env (eval c env); pure (ForInStep.yield ok) else pure (ForInStep.yield r)) (fun ok s₃ =>
           if ok = true then wpAny (model prog w) A (eval elt env) (fun x s₄ =>
             wpAny (model prog w) A (call (.builtin "list.append") [acc, x]) (fun _ s₅ => ∃ m, m < n /\ I m s₅) (fun _ _ => False) s₄) (fun _ _ => False) s₃
           else ∃ m, m < n /\ I m s₃) (fun _ _ => False) s₂) (fun _ _ => False) S7) (fun _ _ => False) s₁) (fun _ _ => False) s)
   (n : Nat) (h : I n s) :
   codeAny (model prog w) A (.compLoop (.ListComp elt [⟨target, iter, ifs, 0⟩] scope pos) 0 it acc env) R s := by
 refine codeAny_loop rfl I (fun n s hI => ?_) n h
 show wpAny _ A ((compTurn (.ListComp elt [⟨target, iter, ifs, 0⟩] scope pos) 0 it acc env).onRaise (fun x => do noteFrame x env; theTreesLotGoes x)) _ _ s
 refine wpAny_noted ?_
 rw [compTurn_list]
 refine ahJ (wpAny_standAt (ahJ (aja (turn n s hI) (fun r s₁ h₁ => ?_) fun _ _ h' => h'.elim)))
 cases r with
 | none => exact ahO h₁
 | some v =>
   refine ahJ (aja h₁ (fun _ S7 Zu => ?_) fun _ _ h' => h'.elim)
   refine ahJ (aja Zu (fun _ s₂ h₂ => ahJ (aja h₂ (fun ok s₃ h₃ => ?_) fun _ _ h' => h'.elim)) fun _ _ h' => h'.elim)
   cases ok with
   | false => exact ahO ⟨rfl, h₃⟩
   | true =>
     exact ahJ (ahJ (aja h₃ (fun x s₄ h₄ => ahJ (aja h₄ (fun _ s₅ h₅ => ahO (ahO ⟨rfl, h₅⟩)) fun _ _ h' => h'.elim)) fun _ _ h' => h'.elim))
def gK (env : Env) : List (Str × NameKind) -> List (Str × Addr) -> List (Str × Addr)
 | [], cs => cs
 | (n, k) :: r, cs => gK env r (if k == .free then (n, (env.cells.lookup n).getD 0) :: cs else cs)
theorem wY (h : ∀ x ∈ scope.names, x.2 = .free -> ∃ c, env.cells.lookup x.1 = some c) : closureFor scope env = pure (gK env scope.names []) := by
 have go : ∀ (l : List (Str × NameKind)) (cs : List (Str × Addr)), (∀ x ∈ l, x.2 = .free -> ∃ c, env.cells.lookup x.1 = some c) →
     (forIn l cs fun x r => match x with | (name, kind) => if (kind == NameKind.free) = true then do let a ← cellOf env name; pure (ForInStep.yield ((name, a) :: r)) else pure (ForInStep.yield r) : Sem (List (Str × Addr))) = pure (gK env l cs) := by
   intro l
   induction l with
   | nil => intro cs _; rfl
   | cons x r ih =>
     intro cs hx
     obtain ⟨n, k⟩ := x
     rw [List.forIn_cons]
     by_cases hk : k = .free
     . subst hk
       obtain ⟨c, hc⟩ := hx (n, .free) ahL rfl
       have e : cellOf env n = pure c := by unfold cellOf; rw [hc]
       simp only [ajk, ajY, e, pure_bind]
       rw [ih _ fun y hy => hx y (ahP _ hy)]
       simp only [gK, ajk, ajY]
       rw [hc]; rfl
     . have hb : (k == NameKind.free) = false := by simpa using hk
       simp only [hb, ajo, ajs, pure_bind]
       rw [ih _ fun y hy => hx y (ahP _ hy)]
       simp only [gK, hb, ajo, ajs]
 unfold closureFor
 have := go scope.names [] h
 simp only [bind_pure] at this ⊢
 exact this
theorem pQ {env : Env} : ∀ {l : List (Str × NameKind)} {cs : List (Str × Addr)} {y : Str} {c : Addr}, (∀ x ∈ l, x.2 = .free -> ∃ c, env.cells.lookup x.1 = some c) -> (∀ y c, cs.lookup y = some c -> env.cells.lookup y = some c) →
   (gK env l cs).lookup y = some c -> env.cells.lookup y = some c
 | [], cs, y, c, _, h, e => h y c e
 | (n, k) :: r, cs, y, c, hx, h, e => by
   refine pQ (l := r) (fun z hz => hx z (ahP _ hz)) (fun z d hz => ?_) e
   by_cases hk : k = .free
   . subst hk
     obtain ⟨c', hc⟩ := hx (n, .free) ahL rfl
     simp only [ajk, ajY, hc, Option.getD_some, ain] at hz
     by_cases hzn : (z == n) = true
     . rw [hzn] at hz
       have : z = n := by simpa using hzn
       subst this
       cases hz
       exact hc
     . have : (z == n) = false := by simpa using hzn
       rw [this] at hz
       exact h z d hz
   . have hb : (k == NameKind.free) = false := by simpa using hk
     rw [hb] at hz
     exact h z d hz
theorem sV {env : Env} {y : Str} : ∀ {l : List (Str × NameKind)} {cs : List (Str × Addr)}, (∃ c, cs.lookup y = some c) -> ∃ c, (gK env l cs).lookup y = some c
 | [], cs, h => h
 | (n, k) :: r, cs, h => by
   refine sV (l := r) ?_
   by_cases hk : (k == NameKind.free) = true
   . rw [ah7 hk, ain]
     by_cases hy : (y == n) = true
     . rw [hy]; exact ⟨_, rfl⟩
     . have : (y == n) = false := by simpa using hy
       rw [this]; exact h
   . rw [ahX hk]; exact h
theorem pR {env : Env} {y : Str} : ∀ {l : List (Str × NameKind)} {cs : List (Str × Addr)}, l.lookup y = some .free -> ∃ c, (gK env l cs).lookup y = some c
 | [], _, h => by simp at h
 | (n, k) :: r, cs, h => by
   rw [ain] at h
   by_cases hy : (y == n) = true
   . rw [hy] at h
     cases h
     refine sV (l := r) ?_
     rw [ah7 (by rfl), ain, hy]
     exact ⟨_, rfl⟩
   . have : (y == n) = false := by simpa using hy
     rw [this] at h
     exact pR (l := r) h
def dS (X : Cx) (scope : Scope) (Nc : List Str) (C : Addr) (s : Shared) (H : Hp) (fp : List Addr) : Cx where
 prog := X.prog
 w := X.w
 K := X.K
 mg := X.mg
 base := X.base
 A := X.A
 N := Nc
 s₀ := s
 H₀ := H
 env := compEnvC scope (gK X.env scope.names []) C X.env
 outer := X.stack
 stack := X.stack
 ex := fp
 fn := fun _ => false
 calm := X.calm
 pn := []
 xe := fun _ _ => False
structure kK (X : Cx) (scope : Scope) (x : Str) (Nc : List Str) (ix : List Nat) : Prop where
 kind : scope.kind = .function
 yQ : ∀ y ∈ scope.names, y.2 ≠ .cell
 nd : Nc.Nodup
 names : ∀ y ∈ scope.names, y.2 = .local -> scope.names.lookup y.1 = some .local
 own : scope.names.lookup x = some .local
 frees : ∀ y ∈ scope.names, y.2 = .free -> scope.names.lookup y.1 = some .free /\ (X.env.kindOf y.1 = some .cell \/ X.env.kindOf y.1 = some .free)
 hd : Nc = x :: ix.filterMap (X.N[·]?)
 Zv : ∀ i ∈ ix, ∃ y, X.N[i]? = some y /\ scope.names.lookup y = some .free
theorem fD {env : Env} : ∀ {names : List (Str × NameKind)} {x : Str} {k : NameKind}, names.lookup x = some k -> 
   (names.map fun (n, k) => if (k == NameKind.free && env.scope.kind == .function && env.kindOf n == some .cell) then (n, NameKind.cell) else (n, k)).lookup x = some (if (k == NameKind.free && env.scope.kind == .function && env.kindOf x == some .cell) then .cell else k)
 | [], _, _, h => by simp at h
 | (n, k') :: r, x, k, h => by
   have ih := @fD env r x k
   show List.lookup x ((if (k' == NameKind.free && env.scope.kind == .function && env.kindOf n == some .cell) = true then (n, NameKind.cell) else (n, k')) :: _) = _
   cases hx : x == n with
   | true =>
     simp only [ain, hx] at h
     cases h
     have e : x = n := by simpa using hx
     subst e
     split <;> simp [ain]
   | false =>
     simp only [ain, hx] at h
     split
     . simp only [ain, hx]; exact ih h
     . simp only [ain, hx]; exact ih h
theorem i9 {env : Env} : ∀ {names : List (Str × NameKind)} {x : Str}, names.lookup x = none -> 
   (names.map fun (n, k) => if (k == NameKind.free && env.scope.kind == .function && env.kindOf n == some .cell) then (n, NameKind.cell) else (n, k)).lookup x = none
 | [], _, _ => rfl
 | (n, k') :: r, x, h => by
   have ih := @i9 env r x
   show List.lookup x ((if (k' == NameKind.free && env.scope.kind == .function && env.kindOf n == some .cell) = true then (n, NameKind.cell) else (n, k')) :: _) = _
   cases hx : x == n with
   | true => simp only [ain, hx] at h; cases h
   | false =>
     simp only [ain, hx] at h
     split
     . simp only [ain, hx]; exact ih h
     . simp only [ain, hx]; exact ih h
variable {Nc : List Str} {pins : Q.j}
theorem Gz {Ed : Q.j} {σ' : L2.St} {s' : Shared} {Yh : Heap} (I : Q.g) (nL : ∀ b ∈ fp, tG X pins H b)
   (J : Inv (dS X scope Nc s.heap.objs.size s H fp) Ed σ' H' s') (hs : Heap.SameBut s.heap.objs.size s'.heap Yh) : Inv X pins σ H' { s' with heap := Yh } := by
 have un : Un (Iz X.stack) fp H H' s.heap s'.heap := J.base
 have un2 : Un (Iz X.stack) fp H H' s.heap Yh := by
   have ne : ∀ b o, s.heap.get? b = some o -> b ≠ s.heap.objs.size := fun b o e => aiF (aid e)
   refine ⟨fun b o e n hb hx => (hs.2 b (ne b o e)).trans (un.keep b o e n hb hx), fun b o e n hb hx => ?_, un.free, fun b o e hx => ?_, un.wO, un.gj, un.wQ⟩
   . obtain ⟨sl, q⟩ := un.slot b o e n hb hx
     exact ⟨sl, (hs.2 b (ne b o e)).trans q⟩
   . obtain ⟨o', q⟩ := un.there b o e hx
     exact ⟨o', (hs.2 b (ne b o e)).trans q⟩
 have nC : H' s.heap.objs.size = none := J.free
 have cP : qi X.prog X.w H' Yh := fun b u e => by
   refine (J.cP b u e).uV (fun c v hc q => (hs.2 c ?_).trans q) (fun _ q => q) fun _ _ q => q
   rintro rfl
   rcases hc with z | z
   . subst z; rw [nC] at e; cases e
   . rw [nC] at z; cases z
 obtain ⟨hh, g, d, t, Ye⟩ := s'
 obtain rfl : Ye = s.os := J.os
 show L2.Inv X pins σ H' { s with heap := Yh, gens := g, drawn := d, toks := t }
 exact I.call (h' := Yh) (g' := g) (d' := d) (t' := t) (ch := fp) un2 cP J.bare fun b hb => ⟨(nL b hb).2.2.2.1, (nL b hb).2.1, (nL b hb).2.2.2.2.1, (nL b hb).2.2.2.2.2⟩
def Vk (X : Cx) : List Expr -> TT
 | [] => fun _ H Q => Q true H
 | [c] => O5 X c
 | _ => fun _ _ _ => False
theorem JR (I : Q.g) (h : Vk X ifs σ H Q) (hx : X.xe = fun _ _ => False) :
   wpAny Q.f X.A (forIn ifs true fun c r => if r = true then do let ok ← isTrue c X.env (eval c X.env); pure (ForInStep.yield ok) else pure (ForInStep.yield r)) (TP X pins σ Q) (fun _ _ => False) s := by
 match ifs, h with
 | [], h => exact wpAny_tests_nil ⟨H, I, h⟩
 | [c], h =>
   have := h pins s I
   rw [hx] at this
   exact wpAny_tests_one this
def TIv (X : Cx) (CL : Q.d) (b : Bx) (ifs : List Expr) (δ : Q.e) (p : Bool) : Prop :=
 match ifs with
 | [] => p = true
 | [c] => sU X CL b c δ p δ
 | _ => False
theorem TIv.sem (h : TIv X CL b ifs δ p) (S : aY X.K CL b H Z δ σ [] [])
   (k : ∀ H' Z', ay Z Z' -> ay H H' -> aY X.K CL b H' Z' δ σ [] [] -> Q p H') : Vk X ifs σ H Q := by
 match ifs, h with
 | [], h =>
   have e : p = true := h
   subst e
   exact k H Z (.refl _) (.refl _) S
 | [c], h => exact (show sU X CL b c δ p δ from h) H Z σ [] [] Q S k
theorem xN : (T.lst ts).clean = T.eX ts := by rw [T.clean]
theorem ve {g : D -> T} : ∀ {ds : List D}, (∀ d ∈ ds, (g d).clean = true) -> T.eX (ds.map g) = true
 | [], _ => by rw [ajz, T.eX]
 | d :: ds, h => by
   rw [ah6, T.eX, h d ahL, ve fun e he => h e (ahP _ he)]
   rfl
theorem aI.at : ∀ {tl : List T} {us : List V} {fp : List Addr} {j : Nat} {t : T}, aI K CL H Z tl us fp -> tl[j]? = some t -> ∃ v f1 f2 f3, us[j]? = some v /\ fp = f1 ++ (f2 ++ f3) /\ bu K CL H Z t v f2 ∧
   ∀ {H' : Hp} {t' : T} {v' : V} {g : List Addr}, (∀ a ∈ f1 ++ f3, H' a = H a) -> bu K CL H' Z t' v' g -> aI K CL H' Z (tl.set j t') (us.set j v') (f1 ++ (g ++ f3))
 | _, _, _, _, _, .nil, e => by simp at e
 | _, _, _, 0, _, .cons (fp := fp) (gp := gp) r q, e => by
   simp at e
   subst e
   exact ⟨_, [], fp, gp, rfl, rfl, r, fun {H' t' v' g} k r' => aI.cons (fp := g) (gp := gp) r' (aI.mono (fp := gp) (.refl _) (fun a ha => k a (by simpa using ha)) q)⟩
 | _, _, _, j + 1, t, .cons (fp := fp) (gp := gp) r q, e => by
   obtain ⟨v, f1, f2, f3, h1, h2, h3, h4⟩ := aI.at (j := j) (t := t) q (by simpa using e)
   refine ⟨v, fp ++ f1, f2, f3, by simpa using h1, by rw [h2, List.append_assoc], h3, fun k r' => ?_⟩
   rw [ahQ]
   exact .cons (r.mono (.refl _) fun a ha => k a (by simp [ha])) (h4 (fun a ha => k a (by rw [ahQ]; exact ahM _ ha)) r')
variable {α : Type}
theorem fE {l : List α} {x : α} (h : l[i]? = some x) : l.set i x = l := by
 apply ajH
 intro j
 rw [List.getElem?_set]
 split
 . rename_i e; subst e
   split
   . exact h.symm
   . rename_i h2; rw [aiI Q.a]
 . rfl
variable {gp : List Addr}
theorem aY.write {f1 f2 f3 g EC : List Addr} (S : aY K CL b H Z δ σ ts vs) (nd : ((f1 ++ (f2 ++ f3)) ++ gp).Nodup) (own : ∀ c ∈ (f1 ++ (f2 ++ f3)) ++ gp, Z c = none /\ b.B c = none) (ha : a ∈ f2)
   (hH : ∃ o, H a = some o) (e' : dJ K CL (upd H a (.lst xs)) Z δ2 σ (f1 ++ (g ++ f3))) (r' : aI K CL (upd H a (.lst xs)) Z tl us EC) (pm : ((f1 ++ (g ++ f3)) ++ EC).Nodup) (sub : ∀ c ∈ (f1 ++ (g ++ f3)) ++ EC, c ∈ (f1 ++ (f2 ++ f3)) ++ gp) :
   aY K CL b (upd H a (.lst xs)) Z δ2 σ tl us := by
 have oa := own a (by simp [ha])
 refine ⟨⟨_, _, e', r', pm, fun c hc => own c (sub c hc)⟩, fun c o q => ?_, S.zz, fun c o q => ?_, S.new, fun c o q i => ?_, S.tab⟩
 . rw [ao (bG q oa.2)]; exact S.bh c o q
 . rw [ao (bG q oa.1)]; exact S.zh c o q
 . by_cases hc : c = a
   . subst hc; rw [aB] at q; cases q; cases i
   . rw [ao hc] at q; exact S.tp c o q i
theorem aY.append (S : aY K CL b H Z δ σ (t :: ts) (v :: vs)) (hi : δ[i]? = some (some (.lst tl))) :
   ∃ a us, σ[i]? = some (some (.ref a)) /\ H a = some (.lst us) /\ us.length = tl.length /\ aY K CL b (upd H a (.lst (us ++ [v]))) Z (δ.set i (some (.lst (tl ++ [t])))) σ ts vs := by
 obtain ⟨fp, gp, e, r, nd, k⟩ := S.rep
 obtain ⟨v0, f1, f2, f3, hv, nL, rt, put, _⟩ := e.get hi
 subst nL
 cases rt with
 | @lst a us _ g ha rs =>
   cases r with
   | @cons _ _ _ _ ft gr q1 q2 =>
     have ne : ∀ c ∈ (f1 ++ (g ++ f3)) ++ (ft ++ gr), c ≠ a := fun c hc e => by
       subst e
       have hp : ((f1 ++ ((c :: g) ++ f3)) ++ (ft ++ gr)).Perm (c :: ((f1 ++ (g ++ f3)) ++ (ft ++ gr))) := by
         rw [aiz, ← aiz]
         exact (ai2.append_right _)
       exact (aiE.mp (hp.nodup_iff.mp nd)).1 hc
     refine ⟨a, us, hv, ha, rs.length.symm, ?_⟩
     have r1 : bu K CL (upd H a (.lst (us ++ [v]))) Z (.lst (tl ++ [t])) (.ref a) (a :: (g ++ (ft ++ []))) :=
       .lst aB (aI.app (rs.mono (.refl _) fun c hc => ao (ne c (by simp [hc]))) (.cons (q1.mono (.refl _) fun c hc => ao (ne c (by simp [hc]))) .nil))
     have e2 := put (H' := upd H a (.lst (us ++ [v]))) (.refl _) (fun c hc => ao (ne c (by
       rcases ahZ.mp hc with h | h
       . simp [h]
       . simp [h]))) r1
     rw [fE hv] at e2
     have hp : ((f1 ++ ((a :: (g ++ (ft ++ []))) ++ f3)) ++ gr).Perm ((f1 ++ ((a :: g) ++ f3)) ++ (ft ++ gr)) := by
       simp only [aip, aiz, ahQ]
       refine aiH f1 (List.Perm.cons a (aiH g ?_))
       rw [← ahQ, ← ahQ]
       exact aim.append_right gr
     exact S.write nd k (ahL) ⟨_, ha⟩ e2 (q2.mono (.refl _) fun c hc => ao (ne c (by simp [hc]))) (hp.nodup_iff.mpr nd) fun c hc => hp.mem_iff.mp hc
theorem aY.setAt (S : aY K CL b H Z δ σ (t :: ts) (v :: vs)) (hi : δ[i]? = some (some (.lst tl))) (hj : j < tl.length) :
   ∃ a us, σ[i]? = some (some (.ref a)) /\ H a = some (.lst us) /\ us.length = tl.length /\ aY K CL b (upd H a (.lst (us.set j v))) Z (δ.set i (some (.lst (tl.set j t)))) σ ts vs := by
 obtain ⟨fp, gp, e, r, nd, k⟩ := S.rep
 obtain ⟨v0, f1, f2, f3, hv, nL, rt, put, _⟩ := e.get hi
 subst nL
 cases rt with
 | @lst a us _ g ha rs =>
   cases r with
   | @cons _ _ _ _ ft gr q1 q2 =>
     have ne : ∀ c ∈ (f1 ++ (g ++ f3)) ++ (ft ++ gr), c ≠ a := fun c hc e => by
       subst e
       have hp : ((f1 ++ ((c :: g) ++ f3)) ++ (ft ++ gr)).Perm (c :: ((f1 ++ (g ++ f3)) ++ (ft ++ gr))) := by
         rw [aiz, ← aiz]
         exact (ai2.append_right _)
       exact (aiE.mp (hp.nodup_iff.mp nd)).1 hc
     refine ⟨a, us, hv, ha, rs.length.symm, ?_⟩
     obtain ⟨vj, g1, g2, g3, _, hg, _, set⟩ := rs.at (ahN hj)
     subst hg
     have r1 : bu K CL (upd H a (.lst (us.set j v))) Z (.lst (tl.set j t)) (.ref a) (a :: (g1 ++ (ft ++ g3))) :=
       .lst aB (set (fun c hc => ao (ne c (by
         rcases ahZ.mp hc with h | h
         . simp [h]
         . simp [h]))) (q1.mono (.refl _) fun c hc => ao (ne c (by simp [hc]))))
     have e2 := put (H' := upd H a (.lst (us.set j v))) (.refl _) (fun c hc => ao (ne c (by
       rcases ahZ.mp hc with h | h
       . simp [h]
       . simp [h]))) r1
     rw [fE hv] at e2
     have hp : ((f1 ++ ((a :: (g1 ++ (ft ++ g3))) ++ f3)) ++ gr).Perm ((f1 ++ ((a :: (g1 ++ g3)) ++ f3)) ++ (ft ++ gr)) := by
       simp only [aiz, ahQ]
       refine aiH f1 (List.Perm.cons a (aiH g1 ?_))
       have := (aim (l₁ := ft) (l₂ := g3 ++ f3)).append_right gr
       simp only [ahQ] at this
       exact this
     have sb : ((f1 ++ ((a :: (g1 ++ g3)) ++ f3)) ++ (ft ++ gr)).Sublist ((f1 ++ ((a :: (g1 ++ (g2 ++ g3))) ++ f3)) ++ (ft ++ gr)) := by
       refine air (air (aiv _) (air (List.Sublist.cons₂ a ?_) (aiv _))) (aiv _)
       exact air (aiv _) (aiQ _ _)
     exact S.write nd k (ahL) ⟨_, ha⟩ e2 (q2.mono (.refl _) fun c hc => ao (ne c (by simp [hc]))) (hp.nodup_iff.mpr (nd.sublist sb)) fun c hc => sb.subset (hp.mem_iff.mp hc)
section
variable {Zw : List T} {D : dZ} {pp pa pb : Pos}
theorem Vl (i : Nat) (h0 : δ[i]? = some (some (.lst Zw))) (h : bI X CL b e δ t δ1) (h1 : δ1[i]? = some (some (.lst tl))) (hl : tl.length < sizeLine) (k : D.nx (δ1.set i (some (.lst (tl ++ [t])))))
   (hi : X.N[i]? = some x := by rfl) (hv : X9 X.env.scope x := by first | exact Or.inl rfl | exact Or.inr (Or.inl rfl) | exact Or.inr (Or.inr rfl)) (hd : Q.p := by decide) (kE : (x == ("__classdict__" : Str)) = false := by decide)
   (fU : attributeBase (.Name x pp) "append" X.env (eval (.Name x pp) X.env) = eval (.Name x pp) X.env := by rfl)
   (mH : Q.C := by rfl)
   (hline : (pa.endLine == pb.line) = true := by rfl) (hs : Q.x := by exact aW rfl) (CD : swapsWith (.Call (.Attribute (.Name x pp) "append" pa) [e] [] pb) none pos.line X.env = pure false := by rfl) :
   N7 X CL b (.Expr (.Call (.Attribute (.Name x pp) "append" pa) [e] [] pb) pos) δ D := fun H Z σ ts vs E S M =>
 pe (yu (Jm PySem.F.plainAttrs_list PySem.F.slot_list_append PySem.F.type_list_append rT (iX hi hv hd kE) (bL cA c5 hs) fU mH hline hs rfl) CD) (by
   obtain ⟨v0, e0, r0⟩ := S.look h0
   refine ⟨v0, e0, ?_, ?_⟩
   . rw [T.bM] at r0
     cases r0 with
     | lst hq _ => exact .inl ⟨rfl, _, hq⟩
   . refine h H Z σ ts vs _ S fun v H1 Z1 z1 k1 S1 => ?_
     obtain ⟨a, us, ea, ha, hu, S2⟩ := S1.append h1
     rw [e0] at ea
     cases ea
     exact ⟨a, us, v, rfl, rfl, ha, by rw [hu]; exact hl, M.nx _ σ _ Z1 z1 S2 k⟩)
end
def Zx : Option (Option T) -> Option T
 | some (some t) => some (.sh t.bM)
 | _ => none
def shO : Option (Option T) -> Option T
 | some (some (T.sh d)) => some (.sh d)
 | _ => none
def A6 (δ : Q.e) (ix : List Nat) : List (Option T) := ix.map fun i => Zx δ[i]?
def A7 (δ : Q.e) (ix : List Nat) : List (Option T) := ix.map fun i => shO δ[i]?
theorem A8 (S : aY K CL b H Z δ σ ts vs) : ∀ (ix : List Nat) (H' : Hp), dJ K CL H' H (A6 δ ix) (ix.map fun i => (σ[i]?).getD none) []
 | [], _ => .nil
 | i :: r, H' => by
   have ih := A8 S r H'
   show dJ K CL H' H (Zx δ[i]? :: A6 δ r) (((σ[i]?).getD none) :: r.map fun i => (σ[i]?).getD none) []
   cases e : δ[i]? with
   | none => exact .skip ih
   | some o =>
     cases o with
     | none => exact .skip ih
     | some t =>
       obtain ⟨v, hv, rv⟩ := S.look e
       rw [hv]
       exact .cons (fp := []) (gp := []) (.sh rv) ih
theorem A9 (S : aY K CL b H Z δ σ ts vs) : ∀ (ix : List Nat) (H' : Hp), dJ K CL H' Z (A7 δ ix) (ix.map fun i => (σ[i]?).getD none) []
 | [], _ => .nil
 | i :: r, H' => by
   have ih := A9 S r H'
   show dJ K CL H' Z (shO δ[i]? :: A7 δ r) (((σ[i]?).getD none) :: r.map fun i => (σ[i]?).getD none) []
   cases e : δ[i]? with
   | none => exact .skip ih
   | some o =>
     cases o with
     | none => exact .skip ih
     | some t =>
       cases t with
       | sh d =>
         obtain ⟨v, hv, rv⟩ := S.SW e
         rw [hv]
         exact .cons (fp := []) (gp := []) (.sh rv) ih
       | tup _ => exact .skip ih
       | lst _ => exact .skip ih
       | ins _ _ => exact .skip ih
       | oZ _ => exact .skip ih
       | dct _ => exact .skip ih
       | pin _ _ => exact .skip ih
       | jc _ _ => exact .skip ih
section
variable {ds : List D}
structure Comes (X : Cx) (CL : Q.d) (b : Bx) (δ1 : Q.e) (σ : L2.St) (ts : List T) (vs : List V) (Z H : Hp) (ds : List D) (J : It) (H1 : Hp) : Prop where
 ex : ∃ Z1 us, ay Z Z1 /\ ay H H1 /\ aY X.K CL b H1 Z1 δ1 σ ts vs /\ aA X.K CL Z1 ds us /\ (∀ i H2, ay Z1 H2 -> i < ds.length -> J.go i H2) ∧
   (∀ i H2 x H', ay Z1 H2 -> i < ds.length -> J.SJ i H2 x H' -> H' = H2 /\ us[i]? = some x) /\ (∀ H2, ay Z1 H2 -> J.stop ds.length H2)
def S8 (X : Cx) (CL : Q.d) (b : Bx) (tg e : Expr) (δ : Q.e) (ds : List D) (δ1 : Q.e) : Prop :=
 ∃ wi, PI X tg e wi /\ ∀ (H Z : Hp) (σ : L2.St) (ts : List T) (vs : List V) (R : It -> Hp -> Prop), aY X.K CL b H Z δ σ ts vs -> (∀ J H1, Comes X CL b δ1 σ ts vs Z H ds J H1 -> R J H1) -> wi σ H R
theorem gu {tg : Expr} (h : bI X CL b iter δ (.sh (.lst ds)) δ1) : S8 X CL b tg iter δ ds δ1 := by
 refine ⟨_, Ox cA, fun H Z σ ts vs R S k => h H Z σ ts vs _ S fun v H1 Z1 z1 k1 S1 => ?_⟩
 obtain ⟨fp, gp, _, r, _, _⟩ := S1.rep
 cases r with
 | cons r _ =>
   cases r with
   | sh r =>
     cases r with
     | @lst a us _ hq rr =>
       refine ⟨a, rfl, ⟨us, S1.zh.seq hq⟩, k _ _ ⟨Z1, us, z1, k1, S1.pop, rr, fun i H2 s hi => ?_, fun i H2 y H' s hi hy => ⟨hy.1, hy.2 us (s.seq hq)⟩, fun H2 s => ⟨us, s.seq hq, by rw [rr.length]; exact ah0 _⟩⟩⟩
       have Vm : i < us.length := by rw [← rr.length]; exact hi
       exact ⟨us, us[i], s.seq hq, by simp [Vm]⟩
theorem JS {tg : Expr} (h : bI X CL b iter δ (.sh (.tup ds)) δ1) : S8 X CL b tg iter δ ds δ1 := by
 refine ⟨_, UG cA, fun H Z σ ts vs R S k => h H Z σ ts vs _ S fun v H1 Z1 z1 k1 S1 => ?_⟩
 obtain ⟨fp, gp, _, r, _, _⟩ := S1.rep
 cases r with
 | cons r _ =>
   cases r with
   | sh r =>
     cases r with
     | @tup a us _ hq rr =>
       refine ⟨a, rfl, ⟨us, ay.tY S1.zh hq⟩, k _ _ ⟨Z1, us, z1, k1, S1.pop, rr, fun i H2 s hi => ?_, fun i H2 y H' s hi hy => ⟨hy.1, hy.2 us (ay.tY s hq)⟩, fun H2 s => ⟨us, ay.tY s hq, by rw [rr.length]; exact ah0 _⟩⟩⟩
       have Vm : i < us.length := by rw [← rr.length]; exact hi
       exact ⟨us, us[i], ay.tY s hq, by simp [Vm]⟩
def b9 (lo : Int) (n : Nat) : List D := (List.range n).map fun (i : Nat) => D.int (lo + i)
theorem JT (lo : Int) (n : Nat) : aA K CL Z (b9 lo n) ((List.range n).map fun (i : Nat) => V.int (lo + i)) := by
 unfold b9
 generalize List.range n = l
 induction l with
 | nil => exact .nil
 | cons i r ih => exact .cons (.int _) ih
theorem cK {tg : Expr} {pr pc : Pos} {n : Int} (hm : X.mg "range" = none) (h : cU X CL b iter δ (.int n) δ1) (hn : -(2 ^ 62) <= n /\ n < 2 ^ 62) (hg : Gl X "range") (UA : starEach [iter] X.env = [(false, eval iter X.env)] := by rfl) (acT : starEach [iter] X.env = (false, eval iter X.env) :: starEach [] X.env := by exact aW rfl) :
   S8 X CL b tg (.Call (.Name "range" pr) [iter] [] pc) δ (b9 0 n.toNat) δ1 := by
 refine ⟨_, Ge hg hm (bL cA c5 acT) UA, fun H Z σ ts vs R S k => h H Z σ ts vs _ S fun v H1 Z1 z1 k1 S1 r => ⟨n, by rw [r.sc rfl], hn.1, hn.2, k _ _ ⟨Z1, _, z1, k1, S1, JT 0 n.toNat, fun i H2 s hi => ?_, fun i H2 y H' s hi hy => ?_, fun H2 s => ?_⟩⟩⟩
 . show i < n.toNat
   have : (b9 0 n.toNat).length = n.toNat := by simp [b9]
   omega
 . have Vm : i < n.toNat := by simpa [b9] using hi
   refine ⟨hy.1, ?_⟩
   rw [ahU, aiJ Vm, hy.2]
   rfl
 . show n.toNat <= (b9 0 n.toNat).length
   simp [b9]
theorem Vo {D : dZ} {fC : List Stmt} (i : Nat) {pos' : Pos} (P : Nat -> List (Option T) -> Prop) (h : S8 X CL b (.Name x pos') iter δ ds δ1) (h0 : P 0 δ1) (hl : ∀ j δ, P j δ -> i < δ.length)
   (hs : ∀ j d δ, ds[j]? = some d -> P j δ -> dh X CL b fC (δ.set i (some (.sh d))) { nx := P (j + 1), rt := D.rt, bk := D.nx, ct := P (j + 1) }) (hd : ∀ δ, P ds.length δ -> D.nx δ)
   (hp : PassesOwn Q.f X.A X.env X.xe) (hc : X.calm = true) (hN : X.N.Nodup) (hi : X.N[i]? = some x) (hx : Loc X.env.scope x) (hf : X.fn x = true \/ X.env.scope.names.lookup x = some .local) (hq : ∀ x, foldedSetIterable iter X.env x = pure x := by intro _; rfl) :
   N7 X CL b (.For (.Name x pos') iter fC [] pos) δ D := fun H Z σ ts vs E S M => by
 obtain ⟨wi, pi, hw⟩ := h
 refine pe (yw hp hc pi (jS hN hi hx hf) JA hq) (hw H Z σ ts vs _ S fun J H1 zz => ?_)
 obtain ⟨Z1, us, z1, k1, S1, rr, go, yl, st⟩ := zz
 refine ⟨fun j m σ H2 => m = ds.length - j /\ j <= ds.length /\ ∃ Z2 δ2, ay Z1 Z2 /\ aY X.K CL b H2 Z2 δ2 σ ts vs /\ P j δ2, ⟨_, rfl, aiB _, Z1, δ1, .refl _, S1, h0⟩, ?_⟩
 rintro j m σ H2 ⟨rfl, hj, Z2, δ2, s, S2, p2⟩
 by_cases jD : j < ds.length
 . refine .inr ⟨go j H2 (s.trans S2.zh) jD, fun σ' H' => ∃ Z2 δ2, ay Z1 Z2 /\ aY X.K CL b H' Z2 δ2 σ' ts vs /\ P (j + 1) δ2, fun σ' H' h => ⟨ds.length - (j + 1), by omega, rfl, jD, h⟩, fun y H' hy => ?_⟩
   obtain ⟨e, hu⟩ := yl j H2 y H' (s.trans S2.zh) jD hy
   subst e
   obtain ⟨d, yr, rd⟩ := rr.O4 hu
   have S3 := (S2.push (rd.mono s)).set (hl j δ2 p2)
   exact hs j d δ2 yr p2 _ Z2 _ ts vs _ S3 ⟨fun δ' σ' H' Z' s' S' k => ⟨Z', δ', s.trans s', S', k⟩, fun t v H' Z' δ' σ' s' S' k => M.rt t v H' Z' δ' σ' (z1.trans (s.trans s')) S' k, fun δ' σ' H' Z' s' S' k => M.nx δ' σ' H' Z' (z1.trans (s.trans s')) S' k, fun δ' σ' H' Z' s' S' k => ⟨Z', δ', s.trans s', S', k⟩⟩
 . have e : j = ds.length := by omega
   subst e
   exact .inl ⟨st H2 (s.trans S2.zh), M.nx δ2 σ H2 Z2 (z1.trans s) S2 (hd δ2 p2)⟩
def Block (X : Cx) (CL : Q.d) (scope : Scope) (Nc : List Str) (ifs : List Expr) (elt : Expr) (δc : Q.e) (ds : List D) (p : D -> Bool) (g : D -> T) : Prop :=
 ∀ C s0 H0 f0 b' d, d ∈ ds -> TIv (dS X scope Nc C s0 H0 f0) CL b' ifs (some (.sh d) :: δc) (p d) /\ (p d = true -> bI (dS X scope Nc C s0 H0 f0) CL b' elt (some (.sh d) :: δc) (g d) (some (.sh d) :: δc))
variable {δc : Q.e} {p : D -> Bool} {g : D -> T}
end
def isD : L3.D -> String -> Option Bool
 | .non, n => if n = "int" \/ n = "str" \/ n = "list" \/ n = "tuple" \/ n = "bool" \/ n = "dict" then some false else none
 | .bl _, n => if n = "int" \/ n = "bool" then some true else if n = "str" \/ n = "list" \/ n = "tuple" \/ n = "dict" then some false else none
 | .int _, n => if n = "int" then some true else if n = "str" \/ n = "list" \/ n = "tuple" \/ n = "bool" \/ n = "dict" then some false else none
 | .str _, n => if n = "str" then some true else if n = "int" \/ n = "list" \/ n = "tuple" \/ n = "bool" \/ n = "dict" then some false else none
 | .lst _, n => if n = "list" then some true else if n = "int" \/ n = "str" \/ n = "tuple" \/ n = "bool" \/ n = "dict" then some false else none
 | .tup _, n => if n = "tuple" then some true else if n = "int" \/ n = "str" \/ n = "list" \/ n = "bool" \/ n = "dict" then some false else none
 | _, _ => none
def Vp (t n : String) : Option Bool := if (Value.type t == Value.type n) = true then some true else if PySem.W.kitMeta n = true then (fastBuiltinMro t).map (·.contains (.type n)) else none
theorem kL {t n : String} : PySem.W.kitOne K (.type t) (.type n) = Vp t n := rfl
theorem JV : (["NoneType", "bool", "int", "str", "list", "tuple"].all fun t => ["int", "str", "list", "tuple", "bool", "dict"].all fun n => Vp t n == some (t == n || (t == "bool" && n == "int"))) = true := Q.i
theorem nM {t n : String} (ht : t ∈ ["NoneType", "bool", "int", "str", "list", "tuple"]) (hn : n ∈ ["int", "str", "list", "tuple", "bool", "dict"]) : Vp t n = some (t == n || (t == "bool" && n == "int")) := by
 have := JV
 rw [ajI] at this
 have h := this t ht
 rw [ajI] at h
 simpa using h n hn
def Yi : L3.D -> Option String
 | .non => some "NoneType"
 | .bl _ => some "bool"
 | .int _ => some "int"
 | .str _ => some "str"
 | .lst _ => some "list"
 | .tup _ => some "tuple"
 | _ => none
theorem GA : g8 X (.builtin "isinstance") (fun xs H Q => ∃ y n d t, xs = [y, .ty n] /\ aV X.K CL H d y /\ Yi d = some t /\ n ∈ ["int", "str", "list", "tuple", "bool", "dict"] /\ Q (.bl (t == n || (t == "bool" && n == "int"))) H) := by
 intro pins s σ H xs us Q I r h
 obtain ⟨y, n, d, t, rfl, rd, ht, hn, q⟩ := h
 obtain ⟨u, u2, rfl, ru, ru2⟩ := r.two
 cases (show u2 = Value.type n from ru2)
 have fin : ∀ tk, EP X pins σ Q (.bool (t == n || (t == "bool" && n == "int"))) { s with toks := tk } := fun tk => ⟨.bl _, H, I.tok tk, rfl, q⟩
 cases rd with
 | non => cases ht; cases (show u = Value.none from ru); exact ajE PySem.W.kitx_none I.yq True.intro (kL.trans (nM (by decide) hn)) (fun z => nomatch z) fin
 | bl c => cases ht; cases (show u = Value.bool c from ru); exact ajE PySem.W.kitx_bool I.yq True.intro (kL.trans (nM (by decide) hn)) (fun z => nomatch z) fin
 | int c => cases ht; obtain ⟨tt, e⟩ := (show ∃ t, u = Value.int c t from ru); cases e; exact ajE PySem.W.kitx_int I.yq True.intro (kL.trans (nM Q.c hn)) (fun z => nomatch z) fin
 | str c => cases ht; obtain ⟨tt, e⟩ := (show ∃ t, u = Value.str c t from ru); cases e; exact ajE PySem.W.kitx_str I.yq True.intro (kL.trans (nM Q.c hn)) (fun z => nomatch z) fin
 | @lst a ws _ hq rr =>
   cases ht
   cases (show u = Value.ref a from ru)
   obtain ⟨its, _, pl, _⟩ := I.list hq
   obtain ⟨o, n', e, c, _⟩ := pl
   exact ajE PySem.W.kitx_list I.yq ⟨o, e, c⟩ (kL.trans (nM Q.c hn)) (fun z => nomatch z) fin
 | @tup a ws _ hq rr =>
   cases ht
   cases (show u = Value.ref a from ru)
   obtain ⟨its, _, pl, _⟩ := I.tuple hq
   obtain ⟨o, e, c, _⟩ := pl
   exact ajE PySem.W.kitx_tuple I.yq ⟨o, e, c⟩ (kL.trans (nM Q.c hn)) (fun z => nomatch z) fin
 | ins _ _ => cases ht
 | any _ => cases ht
 | val _ => cases ht
 | oZ _ _ => cases ht
 | dct _ _ => cases ht
 | jc _ _ => cases ht
variable {pp : Pos}
theorem t6 {d : L3.D} {t n : String} {nm : Str} {pq : Pos} (hm : X.mg "isinstance" = none) (Pg : X.mg nm = none) (hg : Gl X "isinstance") (Ph : Gl X nm) (hbn : bootBuiltins nm = some (.type n)) (hnm : nm ≠ "__name__") (S9 : (nm == ("__debug__" : Str)) = false) (h : cU X CL b e δ d δ1) (ht : Yi d = some t) (hn : n ∈ ["int", "str", "list", "tuple", "bool", "dict"])
   (hs : starEach [e, .Name nm pq] X.env = (false, eval e X.env) :: starEach [.Name nm pq] X.env := by exact aW rfl) :
   bI X CL b (.Call (.Name "isinstance" pp) [e, .Name nm pq] [] pos) δ (.sh (.bl (t == n || (t == "bool" && n == "int")))) δ1 := fun H Z σ ts vs Q S k =>
 bN (gI (GA (CL := CL)) hg hm boot_isinstance (bL cA (bL (Ot Ph Pg hbn (v := .ty n) rfl hnm S9) c5) hs) (he := hs)) (h H Z σ ts vs _ S fun v H1 Z1 z1 k1 S1 r =>
   ⟨v, n, d, t, rfl, r, ht, hn, k _ H1 Z1 z1 k1 (S1.push (.bl _))⟩)
variable {n : Nat}
theorem aq (h : Nat.ble n 1000 = true) : n <= sizeLine := ajh (gD (ahS h))
structure Vn (X : Cx) (i : Nat) (x : Str) : Prop where
 hi : X.N[i]? = some x
 hv : X9 X.env.scope x
 hd : (x == ("__debug__" : Str)) = false
 kE : (x == ("__classdict__" : Str)) = false
structure Ln (X : Cx) (i : Nat) (x : Str) : Prop extends Vn X i x where
 loc : Loc X.env.scope x
 hf : X.fn x = true \/ X.env.scope.names.lookup x = some .local
structure Gx (X : Cx) : Prop where
 nd : X.N.Nodup
 calm : X.calm = true
 xe : PassesOwn Q.f X.A X.env X.xe
structure Fc (X : Cx) (CL : Q.d) (x : Str) (k n : Nat) {A : Type} (arg : A -> List D) (Pre : A -> Prop) (res : A -> T) : Prop where
 ex : ∃ f fd ps, gH X.prog X.w X.K X.mg X.base sR k f fd ps (IC X.K CL n arg Pre res) /\ X.mg x = some (.ref f) /\ PySem.W.keepIn X.K (.ref f) = true /\ Binds X.K fd ps []
 room : fk k X.A
section
variable {d : L3.D} {D : dZ} {fC : List Stmt} {ds : List L3.D}
theorem v_ (n : Vn X i x) (h : δ[i]? = some (some (.sh d)) := by rfl) : bI X CL b (.Name x pos) δ (.sh d) δ := Vd i n.hi n.hv n.hd n.kE h
theorem vF (n : Vn X i x) (h : δ[i]? = some (some t) := by rfl) : bI X CL b (.Name x pos) δ (.sh t.bM) (δ.set i (some (.sh t.bM))) := O7 i n.hi n.hv n.hd n.kE h
theorem vM (n : Vn X i x) (h : δ[i]? = some (some t) := by rfl) : bI X CL b (.Name x pos) δ t (δ.set i none) := O8 i n.hi n.hv n.hd n.kE h
theorem vB (n : Vn X i x) (h : δ[i]? = some (some t) := by rfl) : cU X CL b (.Name x pos) δ t.bM δ := Ve i n.hi n.hv n.hd n.kE h
theorem iZ (h : cU X CL b e δ (.int k) δ1) : bI X CL b (.UnaryOp .USub e pos) δ (.sh (.int (-k))) δ1 := fun H Z σ ts vs Q S kk =>
 bN (YQ UN cA) (h H Z σ ts vs _ S fun v H1 Z1 z1 k1 S1 r => ⟨k, r.sc rfl, kk _ H1 Z1 z1 k1 (S1.push (.int _))⟩)
theorem vL (n : Vn X i x) (h : δ[i]? = some (some (.lst (ds.map T.sh))) := by rfl) : cU X CL b (.Name x pos) δ (.lst ds) δ := by
 have := vB (CL := CL) (b := b) (pos := pos) n h
 rwa [T.bM, iA] at this
theorem c_ {k : Nat} {A : Type} {arg : A -> List L3.D} {Pre : A -> Prop} {res : A -> T} (a : A) (F : Fc X CL x k n arg Pre res) (hg : Gl X x) (h : JD X CL b (e :: es) δ (arg a) δ1) (hp : Pre a) (hc : (res a).clean = true) (hn : (arg a).length = n := by rfl)
   (rS : Q.p := by decide) (he : Q.w := by exact aW rfl) (hpl : (backTo pos (starEach es X.env)).any (·.1) = false := by rfl) :
   bI X CL b (.Call (.Name x pp) (e :: es) [] pos) δ (res a) δ1 := by
 obtain ⟨f, fd, ps, F1, m, k, b⟩ := F.ex
 exact Pb a F1 F.room m k b h hn hp hc hg rS he hpl
theorem bw {pos' : Pos} (g : Gx X) (n : Ln X i x) (h : bI X CL b e δ t δ1) (k : dh X CL b fC (δ1.set i (some t)) D) (hl : i < δ1.length := by exact ahS rfl) (hs : swapsWith e (some (.Name x pos')) pos.line X.env = pure false := by rfl) :
   dh X CL b (.Assign [.Name x pos'] e pos :: fC) δ D := cC (JQ i h k hl g.nd n.hi n.loc hs n.hf)
theorem cj (h : bI X CL b e δ t δ1) (k : D.rt t δ1) : dh X CL b (.Return (some e) pos :: fC) δ D := cC (Vj h k)
theorem jQ {a c : List Stmt} (h : sU X CL b e δ p δ1) (h1 : p = true -> dh X CL b a δ1 { D with nx := fun δ2 => dh X CL b fC δ2 D }) (h2 : p = false -> dh X CL b c δ1 { D with nx := fun δ2 => dh X CL b fC δ2 D }) : dh X CL b (.If e a c pos :: fC) δ D := cC (Zt h h1 h2)
theorem dh.to {D' : dZ} (h : dh X CL b fC δ D') (h1 : ∀ δ, D'.nx δ -> D.nx δ) (h2 : ∀ t δ, D'.rt t δ -> D.rt t δ) (h3 : ∀ δ, D'.bk δ -> D.bk δ) (h4 : ∀ δ, D'.ct δ -> D.ct δ) : dh X CL b fC δ D := fun H Z σ ts vs E S M => h H Z σ ts vs E S (M.to h1 h2 h3 h4)
theorem xO {a c : List Stmt} (J : List (Option T) -> Prop) (h : sU X CL b e δ p δ1) (h1 : p = true -> dh X CL b a δ1 { D with nx := J }) (h2 : p = false -> dh X CL b c δ1 { D with nx := J }) (k : ∀ δ2, J δ2 -> dh X CL b fC δ2 D) : dh X CL b (.If e a c pos :: fC) δ D :=
 jQ h (fun hp => dh.to (h1 hp) k (fun _ _ q => q) (fun _ q => q) (fun _ q => q)) (fun hp => dh.to (h2 hp) k (fun _ _ q => q) (fun _ q => q) (fun _ q => q))
theorem ja {body : List Stmt} {pos' : Pos} (g : Gx X) (n : Ln X i x) (P : Nat -> List (Option T) -> Prop) (h : S8 X CL b (.Name x pos') e δ ds δ1) (h0 : P 0 δ1) (hl : ∀ j δ, P j δ -> i < δ.length)
   (hs : ∀ j d δ, ds[j]? = some d -> P j δ -> dh X CL b body (δ.set i (some (.sh d))) { nx := P (j + 1), rt := D.rt, bk := fun δ2 => dh X CL b fC δ2 D, ct := P (j + 1) }) (hd : ∀ δ, P ds.length δ -> dh X CL b fC δ D) (hq : ∀ x, foldedSetIterable e X.env x = pure x := by intro _; rfl) :
   dh X CL b (.For (.Name x pos') e body [] pos :: fC) δ D :=
 cC (Vo (D := { D with nx := fun δ1 => dh X CL b fC δ1 D }) i P h h0 hl hs hd g.xe g.calm g.nd n.hi n.loc n.hf hq)
theorem iK {o : Option Expr} {l : Nat} (h : ∃ c, swapsWith e o l env = pure c) : swapsWith e o l env = pure true \/ swapsWith e o l env = pure false := by
 obtain ⟨c, h⟩ := h
 cases c
 . exact .inr h
 . exact .inl h
theorem cy {C : Addr} (h1 : Nc[i]? = some x) (h2 : scope.names.lookup x = some .local) (hd : Q.p := by decide) (kE : (x == ("__classdict__" : Str)) = false := by decide) : Vn (dS X scope Nc C s H fp) i x :=
 ⟨h1, .inl (lookup_relabel_local h2), hd, kE⟩
theorem cz {C : Addr} (h1 : Nc[i]? = some x) (h2 : scope.names.lookup x = some .free) (hd : Q.p := by decide) (kE : (x == ("__classdict__" : Str)) = false := by decide) : Vn (dS X scope Nc C s H fp) i x := by
 refine ⟨h1, ?_, hd, kE⟩
 have q := fD (env := X.env) h2
 show (relabel scope X.env).names.lookup x = some .local \/ (relabel scope X.env).names.lookup x = some .cell \/ (relabel scope X.env).names.lookup x = some .free
 rw [show (relabel scope X.env).names.lookup x = _ from q]
 split
 . exact .inr (.inl rfl)
 . exact .inr (.inr rfl)
theorem dO {C : Addr} (h2 : scope.names.lookup x = some .globalImplicit) : Gl (dS X scope Nc C s H fp) x := by
 have q := fD (env := X.env) h2
 show (relabel scope X.env).names.lookup x = some .globalImplicit
 rw [show (relabel scope X.env).names.lookup x = _ from q]
 rfl
theorem f7 {C : Addr} {k : Nat} {A : Type} {arg : A -> List L3.D} {Pre : A -> Prop} {res : A -> T} (F : Fc X CL x k n arg Pre res) : Fc (dS X scope Nc C s H fp) CL x k n arg Pre res := ⟨F.ex, F.room⟩
end
variable {d : L3.D} {t : String} {pq : Pos}
theorem GB : bootBuiltins "int" = some (.type "int") := Q.i
theorem isI (hm : X.mg "isinstance" = none) (Pg : X.mg "int" = none) (hg : Gl X "isinstance") (Ph : Gl X "int") (h : cU X CL b e δ d δ1) (ht : Yi d = some t := by rfl) (hs : starEach [e, .Name "int" pq] X.env = (false, eval e X.env) :: starEach [.Name "int" pq] X.env := by exact aW rfl) :
   bI X CL b (.Call (.Name "isinstance" pp) [e, .Name "int" pq] [] pos) δ (.sh (.bl (t == "int" || (t == "bool" && "int" == "int")))) δ1 := t6 hm Pg hg Ph GB Q.c Q.c h ht Q.c hs
theorem CF : bootBuiltins "bool" = some (.type "bool") := Q.i
theorem isB (hm : X.mg "isinstance" = none) (Pg : X.mg "bool" = none) (hg : Gl X "isinstance") (Ph : Gl X "bool") (h : cU X CL b e δ d δ1) (ht : Yi d = some t := by rfl) (hs : starEach [e, .Name "bool" pq] X.env = (false, eval e X.env) :: starEach [.Name "bool" pq] X.env := by exact aW rfl) :
   bI X CL b (.Call (.Name "isinstance" pp) [e, .Name "bool" pq] [] pos) δ (.sh (.bl (t == "bool" || (t == "bool" && "bool" == "int")))) δ1 := t6 hm Pg hg Ph CF Q.c Q.c h ht Q.c hs
theorem dM : bootBuiltins "list" = some (.type "list") := Q.i
theorem isL (hm : X.mg "isinstance" = none) (Pg : X.mg "list" = none) (hg : Gl X "isinstance") (Ph : Gl X "list") (h : cU X CL b e δ d δ1) (ht : Yi d = some t := by rfl) (hs : starEach [e, .Name "list" pq] X.env = (false, eval e X.env) :: starEach [.Name "list" pq] X.env := by exact aW rfl) :
   bI X CL b (.Call (.Name "isinstance" pp) [e, .Name "list" pq] [] pos) δ (.sh (.bl (t == "list" || (t == "bool" && "list" == "int")))) δ1 := t6 hm Pg hg Ph dM Q.c Q.c h ht Q.c hs
theorem mL : bootBuiltins "tuple" = some (.type "tuple") := Q.i
theorem isT (hm : X.mg "isinstance" = none) (Pg : X.mg "tuple" = none) (hg : Gl X "isinstance") (Ph : Gl X "tuple") (h : cU X CL b e δ d δ1) (ht : Yi d = some t := by rfl) (hs : starEach [e, .Name "tuple" pq] X.env = (false, eval e X.env) :: starEach [.Name "tuple" pq] X.env := by exact aW rfl) :
   bI X CL b (.Call (.Name "isinstance" pp) [e, .Name "tuple" pq] [] pos) δ (.sh (.bl (t == "tuple" || (t == "bool" && "tuple" == "int")))) δ1 := t6 hm Pg hg Ph mL Q.c Q.c h ht Q.c hs
def mw (sc : Scope) (l : List (Str × NameKind)) : Bool := l.all fun p => sc.names.lookup p.1 == some p.2
theorem ck {sc : Scope} {l : List (Str × NameKind)} (h : mw sc l = true) (i : Nat) {k : NameKind} (hi : l[i]? = some (x, k)) : sc.names.lookup x = some k := by
 unfold mw at h
 rw [ajI] at h
 exact akh.mp (h _ (ah3 hi))
inductive Pj (X : Cx) : List Nat -> List Str -> Prop where
 | nil : Pj X [] []
 | cons {i : Nat} {y : Str} {ix : List Nat} {ys : List Str} (n : Vn X i y) (k : X.env.kindOf y = some .cell \/ X.env.kindOf y = some .free) (r : Pj X ix ys) : Pj X (i :: ix) (y :: ys)
def JW (scope : Scope) (x : Str) (Ba : List Str) : Bool :=
 scope.kind == .function && scope.names.lookup x == some .local && Ba.all (fun y => scope.names.lookup y == some .free) && decide ((x :: Ba).Nodup) &&
   scope.names.all fun y => y.2 != .cell && (y.2 != .local || scope.names.lookup y.1 == some .local) && (y.2 != .free || (Ba.contains y.1 && scope.names.lookup y.1 == some .free))
variable {ix : List Nat}
theorem bO {Ba : List Str} (c : Pj X ix Ba) (ok : JW scope x Ba = true) : kK X scope x (x :: Ba) ix := by
 unfold JW at ok
 simp only [aih, ajI, decide_eq_true_eq, akh] at ok
 obtain ⟨⟨⟨⟨h1, h2⟩, h3⟩, h4⟩, h5⟩ := ok
 have kc : ∀ y ∈ Ba, X.env.kindOf y = some .cell \/ X.env.kindOf y = some .free := by
   clear h3 h4 h5
   induction c with
   | nil => intro y hy; cases hy
   | cons n k r ih =>
     intro y hy
     rcases ahT.mp hy with e | hy
     . subst e; exact k
     . exact ih y hy
 refine ⟨h1, fun y hy e => ?_, h4, fun y hy e => ?_, h2, fun y hy e => ?_, ?_, fun i hi => ?_⟩
 . have := (h5 y hy).1.1
   rw [e] at this
   simp at this
 . have := (h5 y hy).1.2
   rw [e] at this
   simpa using this
 . have := (h5 y hy).2
   rw [e] at this
   simp at this
   exact ⟨this.2, kc _ this.1⟩
 . congr 1
   clear h3 h4 h5 kc
   induction c with
   | nil => rfl
   | cons n k r ih => rw [ajx, n.hi, ← ih]
 . clear h4 h5 kc
   induction c with
   | nil => cases hi
   | @cons i' y ix ys n k r ih =>
     rcases ahT.mp hi with e | hi
     . subst e; exact ⟨y, n.hi, h3 y ahL⟩
     . exact ih (fun z hz => h3 z (ahP _ hz)) hi
def D.rO : D -> Int
 | .int i => i
 | _ => 0
def D.toS : D -> Str
 | .str x => x
 | _ => Str.empty
theorem Vq {bs : List Int} (h0 : 0 <= k) (h1 : k < bs.length) : rN (bs.map D.int) k = some (.int (bs.getD k.toNat 0)) := by
 obtain ⟨j, rfl⟩ : ∃ j : Nat, k = j := ⟨k.toNat, by omega⟩
 refine aO ?_
 have hl : j < bs.length := by omega
 rw [ahU, ahN hl]
 simp [List.getD, hl]
theorem Bb : ∀ (bs : List Int), D.bq (bs.map D.int) = true
 | [] => rfl
 | i :: r => by rw [ah6, D.bq, Bb r]; rfl
theorem jE {lo : Int} {d : D} (h : (b9 lo n)[j]? = some d) : d = .int (lo + j) /\ j < n := by
 have hl : j < n := by
   have := (ahW.mp h).1
   simpa [b9] using this
 refine ⟨?_, hl⟩
 unfold b9 at h
 rw [ahU, aiJ hl] at h
 exact (aie h).symm
theorem gE (l : List α) : l.filter (fun _ => true) = l := by simp
theorem Bc {K : Q.h} {CL : Q.d} {Z : Hp} : ∀ (ns : List Int), aA K CL Z (ns.map D.int) (ns.map V.int)
 | [] => .nil
 | n :: r => .cons (.int n) (Bc r)
theorem Vr {arg : List Int -> List D} {pre : List Int -> Prop} {res : List Int -> T} {ns : List Int} (ha : arg ns = [.lst (ns.map D.int)]) (hp : pre ns) (hr : res ns = .sh (.bl true)) (hS : kZ K H a (ns.map V.int)) (h0 : ∀ x, Ew x = true -> CL x = 0 := by intros; rfl) :
   IC K CL 1 arg pre res [.ref a] H (fun v _ => v = .bl true) fun _ _ _ => False :=
 ⟨H, ns, .refl _, fun _ _ q _ => q, by rw [ha]; exact .cons (.lst hS (Bc ns)) .nil, by rw [ha]; rfl, hp, fun x hx e => absurd (h0 x hx) e, fun v H' W' fp _ _ _ _ _ r _ _ => by
   rw [hr] at r
   cases r with
   | sh r => exact r.sc rfl⟩
mutual
def D.toPy : D -> PyData
 | .non => .none
 | .bl b => .bool b
 | .int i => .int i
 | .str x => .str x
 | .tup ds => .tuple (D.di ds)
 | .lst ds => .list (D.di ds)
 | .ins _ _ => .none
 | .oZ _ => .none
 | .dct _ => .none
 | .any => .none
 | .val _ => .none
 | .jc _ _ => .none
def D.di : List D -> List PyData
 | [] => []
 | d :: ds => d.toPy :: D.di ds
end
inductive jv : Nat -> D -> Prop where
 | non (n : Nat) : jv n .non
 | bl (n : Nat) (b : Bool) : jv n (.bl b)
 | int (n : Nat) (i : Int) : jv n (.int i)
 | str (n : Nat) (x : Str) (h : PyData.strOk x = true) : jv n (.str x)
 | tup {n : Nat} {ds : List D} (h : ∀ d ∈ ds, jv n d) : jv (n + 1) (.tup ds)
 | lst {n : Nat} {ds : List D} (h : ∀ d ∈ ds, jv n d) : jv (n + 1) (.lst ds)
def rW (a b : D) : Bool := PyData.eqv a.toPy b.toPy
theorem jv.Vs {n : Nat} : ∀ {ds : List D}, (∀ d ∈ ds, d.toPy.canLay0 = true /\ d.toPy.depth <= n) -> PyData.canLayAll0 (D.di ds) = true /\ PyData.depthAll (D.di ds) <= n
 | [], _ => ⟨by rw [D.di, PyData.canLayAll0], by rw [D.di, PyData.depthAll]; exact aiB _⟩
 | d :: ds, h => by
   have h1 := h d ahL
   have h2 := jv.Vs (ds := ds) fun e he => h e (ahP _ he)
   rw [D.di, PyData.canLayAll0, PyData.depthAll, h1.1, h2.1]
   exact ⟨rfl, Nat.max_le.mpr ⟨h1.2, h2.2⟩⟩
theorem jv.lay {d : D} (h : jv n d) : d.toPy.canLay0 = true /\ d.toPy.depth <= n := by
 induction h with
 | non n => exact ⟨by rw [D.toPy, PyData.canLay0], by rw [D.toPy, PyData.depth]; exact aiB _⟩
 | bl n b => exact ⟨by rw [D.toPy, PyData.canLay0], by rw [D.toPy, PyData.depth]; exact aiB _⟩
 | int n i => exact ⟨by rw [D.toPy, PyData.canLay0], by rw [D.toPy, PyData.depth]; exact aiB _⟩
 | str n x hx => exact ⟨by rw [D.toPy, PyData.canLay0]; exact hx, by rw [D.toPy, PyData.depth]; exact aiB _⟩
 | @tup n ds _ ih =>
   have := jv.Vs ih
   rw [D.toPy, PyData.canLay0, PyData.depth]
   exact ⟨this.1, by omega⟩
 | @lst n ds _ ih =>
   have := jv.Vs ih
   rw [D.toPy, PyData.canLay0, PyData.depth]
   exact ⟨this.1, by omega⟩
theorem fV {d : D} (h : jv n d) : rW d d = true := SeqAt.eqv_refl _ h.lay.1
theorem rX (I : L2.Inv X pins σ H s) {d : D} {u : Value} (hd : jv n d) (q : aV X.K CL H d v) (r : RelV v u) : ∃ as, Reads s.heap u d.toPy as := by
 refine aV.rec (motive_1 := fun d v _ => ∀ (n : Nat) (u : Value), jv n d -> RelV v u -> ∃ as, Reads s.heap u d.toPy as)
   (motive_2 := fun ds vs _ => ∀ (n : Nat) (us : List Value), (∀ d ∈ ds, jv n d) -> Vals vs us -> ∃ as, ReadsAll s.heap us (D.di ds) as) (motive_3 := fun _ _ _ => True) (motive_4 := fun _ _ _ => True) (motive_5 := fun _ _ _ => True)
   (fun _ _ _ r => ?non) (fun b _ _ _ r => ?bl) (fun i _ _ _ r => ?int) (fun x _ _ _ r => ?str) (fun _ _ _ hd _ => by cases hd) (fun _ _ _ hd _ => by cases hd) (fun hq _ ih n u hd r => ?tup) (fun hq _ ih n u hd r => ?lst) (fun _ _ _ _ _ hd _ => by cases hd) (fun _ _ _ _ _ hd _ => by cases hd) (fun _ _ _ _ _ hd _ => by cases hd) (fun _ _ _ _ _ hd _ => by cases hd)
   (fun _ _ _ r => ?nil) (fun _ _ ih ihs n us h r => ?cons) trivial Q.r trivial Q.r trivial Q.r q n u hd r
 case non => cases r; rw [D.toPy]; exact ⟨[], .none⟩
 case bl => cases r; rw [D.toPy]; exact ⟨[], .bool b⟩
 case int => obtain ⟨t, rfl⟩ := r; rw [D.toPy]; exact ⟨[], .int i t⟩
 case str => obtain ⟨t, rfl⟩ := r; rw [D.toPy]; exact ⟨[], .str x t⟩
 case tup =>
   cases hd with
   | tup hd =>
     cases r
     obtain ⟨its, rv, ⟨o, e, c, k, dt⟩, _⟩ := I.tuple hq
     obtain ⟨as, ra⟩ := ih _ _ hd rv
     rw [D.toPy]
     exact ⟨as, .tuple e c dt (by simpa using ra)⟩
 case lst =>
   cases hd with
   | lst hd =>
     cases r
     obtain ⟨its, rv, ⟨o, k, e, c, _, dt⟩, _⟩ := I.list hq
     obtain ⟨as, ra⟩ := ih _ _ hd rv
     rw [D.toPy]
     exact ⟨_, .list e c dt (by simpa using ra)⟩
 case nil => cases r; rw [D.di]; exact ⟨[], .nil⟩
 case cons =>
   cases r with
   | cons r rs =>
     obtain ⟨as, ra⟩ := ih n _ (h _ ahL) r
     obtain ⟨bs, rb⟩ := ihs n _ (fun e he => h e (ahP _ he)) rs
     rw [D.di]
     exact ⟨as ++ bs, .cons ra rb⟩
variable {δ3 : Q.e} {p2 : Pos} {t : T} {fC : List Stmt} {DD : dZ} {d1 d2 : D} {ds : List D}
theorem Vt (hu : X.A.units + 64 < cLine) : rM X (compareOp .Eq) (fun x y H Q => ∃ a c, aV X.K CL H a x /\ aV X.K CL H c y /\ jv 60 a /\ jv 60 c /\ Q (.bl (rW a c)) H) := by
 intro pins s σ H x y v u Q I rx ry h
 obtain ⟨a, c, ra, rc, da, dc, q⟩ := h
 obtain ⟨as, r1⟩ := rX I da ra rx
 obtain ⟨bs, r2⟩ := rX I dc rc ry
 exact SeqAt.rcAt_reads r1 r2 da.lay.1 dc.lay.1 (by have := da.lay.2; omega) X.prog X.w X.xe _ ⟨.bl _, H, I, rfl, q⟩
theorem Vu (hu : X.A.units + 64 < cLine) : rM X (compareOp .NotEq) (fun x y H Q => ∃ a c, aV X.K CL H a x /\ aV X.K CL H c y /\ jv 60 a /\ jv 60 c /\ Q (.bl (!rW a c)) H) := by
 intro pins s σ H x y v u Q I rx ry h
 obtain ⟨a, c, ra, rc, da, dc, q⟩ := h
 obtain ⟨as, r1⟩ := rX I da ra rx
 obtain ⟨bs, r2⟩ := rX I dc rc ry
 exact SeqAt.rcNeAt_reads r1 r2 da.lay.1 dc.lay.1 (by have := da.lay.2; omega) X.prog X.w X.xe _ ⟨.bl _, H, I, rfl, q⟩
theorem Zy {op : CmpOp} {f : Bool -> Bool} (ho : rM X (compareOp op) (fun x y H Q => ∃ a c, aV X.K CL H a x /\ aV X.K CL H c y /\ jv 60 a /\ jv 60 c /\ Q (.bl (f (rW a c))) H)) (h1 : cU X CL b e1 δ d1 δ1) (h2 : cU X CL b e2 δ1 d2 δ2) (k1 : jv 60 d1) (k2 : jv 60 d2)
   (hm : behindInMarks op e2 = false) : sU X CL b (.Compare e1 [op] [e2] pos) δ (f (rW d1 d2)) δ2 /\ bI X CL b (.Compare e1 [op] [e2] pos) δ (.sh (.bl (f (rW d1 d2)))) δ2 := by
 constructor
 . intro H Z σ ts vs Q S k
   refine Cv (qo ho cA cA hm) (h1 H Z σ ts vs _ S fun v1 H1 Z1 z1 Vv S1 r1 => h2 H1 Z1 σ ts vs _ S1 fun v2 H2 Z2 z2 JX S2 r2 => ?_)
   exact ⟨d1, d2, r1.mono JX, r2, k1, k2, _, rfl, k H2 Z2 (z1.trans z2) (Vv.trans JX) S2⟩
 . intro H Z σ ts vs Q S k
   refine bN (qm ho cA cA hm) (h1 H Z σ ts vs _ S fun v1 H1 Z1 z1 Vv S1 r1 => h2 H1 Z1 σ ts vs _ S1 fun v2 H2 Z2 z2 JX S2 r2 => ?_)
   exact ⟨d1, d2, r1.mono JX, r2, k1, k2, k _ H2 Z2 (z1.trans z2) (Vv.trans JX) (S2.push (.bl _))⟩
theorem JY (hu : X.A.units + 64 < cLine) (h1 : cU X CL b e1 δ d1 δ1) (h2 : cU X CL b e2 δ1 d2 δ2) (k1 : jv 60 d1) (k2 : jv 60 d2) : sU X CL b (.Compare e1 [.Eq] [e2] pos) δ (rW d1 d2) δ2 /\ bI X CL b (.Compare e1 [.Eq] [e2] pos) δ (.sh (.bl (rW d1 d2))) δ2 :=
 Zy (f := fun b => b) (Vt hu) h1 h2 k1 k2 (pL _)
theorem mO (hu : X.A.units + 64 < cLine) (h1 : cU X CL b e1 δ d1 δ1) (h2 : cU X CL b e2 δ1 d2 δ2) (k1 : jv 60 d1) (k2 : jv 60 d2) : sU X CL b (.Compare e1 [.NotEq] [e2] pos) δ (!rW d1 d2) δ2 /\ bI X CL b (.Compare e1 [.NotEq] [e2] pos) δ (.sh (.bl (!rW d1 d2))) δ2 :=
 Zy (f := fun b => !b) (Vu hu) h1 h2 k1 k2 (pL _)
def cutD (xs : List α) (lo hi : Option Int) : List α := (xs.drop (HT.fz xs.length 0 lo)).take (HT.fz xs.length xs.length hi - HT.fz xs.length 0 lo)
theorem aA.drop {K : Q.h} {Z : Hp} : ∀ {ds : List L3.D} {vs : List V} (n : Nat), aA K CL Z ds vs -> aA K CL Z (ds.drop n) (vs.drop n)
 | _, _, 0, r => r
 | _, _, _ + 1, .nil => .nil
 | _, _, n + 1, .cons _ t => aA.drop n t
theorem aA.take {K : Q.h} {Z : Hp} : ∀ {ds : List L3.D} {vs : List V} (n : Nat), aA K CL Z ds vs -> aA K CL Z (ds.take n) (vs.take n)
 | _, _, 0, _ => .nil
 | _, _, _ + 1, .nil => .nil
 | _, _, n + 1, .cons r t => .cons r (aA.take n t)
theorem aA.cut {ds : List L3.D} (r : aA K CL Z ds vs) (lo hi : Option Int) : aA K CL Z (cutD ds lo hi) (yz vs lo hi) := by
 unfold cutD yz
 rw [r.length]
 exact (r.drop _).take _
theorem qy : ∀ {ds : List L3.D}, D.bq ds = true -> ∀ d ∈ ds, d.iY = true
 | [], _, _, h => by cases h
 | d :: ds, k, e, h => by
   rw [D.bq, aih] at k
   rcases ahT.mp h with h | h
   . subst h; exact k.1
   . exact qy k.2 e h
theorem lq : ∀ {ds : List L3.D}, (∀ d ∈ ds, d.iY = true) -> D.bq ds = true
 | [], _ => rfl
 | d :: ds, h => by rw [D.bq, h d ahL, lq fun e he => h e (ahP _ he)]; rfl
theorem Pk {xs : List α} {lo hi : Option Int} {x : α} (h : x ∈ cutD xs lo hi) : x ∈ xs := List.mem_of_mem_drop (ajb h)
def Tc (X : Cx) (CL : Q.d) (b : Bx) (e : Option Expr) (δ : Q.e) (k : Option Int) (δ' : Q.e) : Prop :=
 ∃ t, PO X e t /\ ∀ (H Z : Hp) (σ : L2.St) (ts : List T) (vs : List V) (Q : Option Int -> Hp -> Prop), aY X.K CL b H Z δ σ ts vs -> (∀ H' Z', ay Z Z' -> ay H H' -> aY X.K CL b H' Z' δ' σ ts vs -> Q k H') -> t σ H Q
theorem jU : Tc X CL b none δ none δ := ⟨_, OW, fun H Z σ ts vs Q S k => k H Z (.refl _) (.refl _) S⟩
theorem jV (h : cU X CL b e δ (.int k) δ1) : Tc X CL b (some e) δ (some k) δ1 := ⟨_, OX cA, fun H Z σ ts vs Q S kk => h H Z σ ts vs _ S fun v H1 Z1 z1 k1 S1 r => ⟨k, r.sc rfl, kk H1 Z1 z1 k1 S1⟩⟩
theorem mP {lo hi : Option Expr} {l h : Option Int} (h1 : cU X CL b e δ (.lst ds) δ1) (hi1 : D.bq ds = true) (h2 : Tc X CL b lo δ1 l δ2) (h3 : Tc X CL b hi δ2 h δ3) : bI X CL b (.Subscript e (.Slice lo hi none p2) pos) δ (.lst ((cutD ds l h).map T.sh)) δ3 := fun H Z σ ts vs Q S k => by
 obtain ⟨t2, Zz, w2⟩ := h2
 obtain ⟨t3, ZC, w3⟩ := h3
 refine bN (u9 OY cA Zz ZC) (h1 H Z σ ts vs _ S fun v H1 Z1 z1 k1 S1 r => w2 H1 Z1 σ ts vs _ S1 fun H2 Z2 z2 k2 S2 => w3 H2 Z2 σ ts vs _ S2 fun H3 Z3 z3 k3 S3 => ?_)
 have r' := r.mono (k2.trans k3)
 cases r' with
 | lst hq rr =>
   refine ⟨_, _, rfl, hq, fun p hp => ?_⟩
   have rc := aA.iY S3.tp (lq fun d hd => qy hi1 d (Pk hd)) (rr.cut l h)
   obtain ⟨c, S4⟩ := (aY.pC rc S3).pO (g0 := []) (by simp [rc.length]) hp
   exact k _ _ _ (z1.trans (z2.trans z3)) (k1.trans (k2.trans (k3.trans c))) S4
theorem dF (hm : X.mg "tuple" = none) (h : cU X CL b e δ (.lst ds) δ1) (hi : D.bq ds = true) (hg : Gl X "tuple") (hs : Q.x := by exact aW rfl) : bI X CL b (.Call (.Name "tuple" pp) [e] [] pos) δ (.sh (.tup ds)) δ1 := fun H Z σ ts vs Q S k =>
 bN (gC pA hg hm mL (bL cA c5 hs) (he := hs)) (h H Z σ ts vs _ S fun v H1 Z1 z1 k1 S1 r => by
   cases r with
   | lst hq rr =>
     refine ⟨_, _, rfl, .inl ⟨hq, fun l hl => ?_⟩⟩
     obtain ⟨a, c, S2⟩ := (aY.pC (aA.iY S1.tp hi rr) S1).yN (by simp [rr.length]) hl
     obtain ⟨Z3, z3, S3⟩ := S2.yL
     rw [T.bM, iA] at S3
     exact k _ _ Z3 (z1.trans (a.trans z3)) (k1.trans c) S3)
theorem xP {Zw : List T} {pa pb : Pos} (n : Vn X i x) (h0 : δ[i]? = some (some (.lst Zw))) (h : bI X CL b e δ t δ1) (h1 : δ1[i]? = some (some (.lst tl))) (hl : tl.length <= 1000000) (k : dh X CL b fC (δ1.set i (some (.lst (tl ++ [t])))) DD)
   (fU : attributeBase (.Name x pp) "append" X.env (eval (.Name x pp) X.env) = eval (.Name x pp) X.env := by rfl)
   (mH : Q.C := by rfl)
   (hline : (pa.endLine == pb.line) = true := by rfl) (hs : Q.x := by exact aW rfl) (CD : swapsWith (.Call (.Attribute (.Name x pp) "append" pa) [e] [] pb) none pos.line X.env = pure false := by rfl) :
   dh X CL b (.Expr (.Call (.Attribute (.Name x pp) "append" pa) [e] [] pb) pos :: fC) δ DD :=
 cC (Vl i h0 h h1 (ajQ hl (by rw [aic]; decide)) k n.hi n.hv n.hd n.kE fU mH hline hs CD)
theorem JZ {ps : Pos} (n : Vn X i x) (h : bI X CL b e δ t δ1) (h2 : cU X CL b e2 δ1 (.int k) δ1) (h1 : δ1[i]? = some (some (.lst tl))) (hk : Ep tl.length k = some j) (kk : dh X CL b fC (δ1.set i (some (.lst (tl.set j t)))) DD)
   (ha : ∀ v, assign (.Subscript (.Name x pp) e2 ps) X.env v = (do
     let ov ← holding [v] (eval (.Name x pp) X.env)
     let iv ← holding [v, ov] (eval e2 X.env)
     standAt ps
     holding [v, ov, iv] (setItem ov iv v)
     release [v, ov, iv] []) := by intro _; rfl)
   (hs : swapsWithSole [.Subscript (.Name x pp) e2 ps] e pos.line X.env = pure false := by rfl) (hw : swappedStores [.Subscript (.Name x pp) e2 ps] e X.env = pure none := by rfl) (ha1 : (assignEach [.Subscript (.Name x pp) e2 ps] X.env).map (·.2) = [assign (.Subscript (.Name x pp) e2 ps) X.env] := by rfl) :
   dh X CL b (.Assign [.Subscript (.Name x pp) e2 ps] e pos :: fC) δ DD := by
 refine cC fun H Z σ ts vs E S M => pe (UC cA (UB (iX n.hi n.hv n.hd n.kE) cA set_list ha) hs hw ha1) (h H Z σ ts vs _ S fun v H1 Z1 z1 k1 S1 => ?_)
 have hj : j < tl.length := (tX hk).2.1
 obtain ⟨v0, e0, _⟩ := S1.look h1
 refine ⟨v0, e0, ?_⟩
 refine h2 H1 Z1 σ _ _ _ S1 fun v2 H2 Z2 z2 k2 S2 r2 => ?_
 obtain ⟨a, us, ea, JB, hu, S3⟩ := S2.setAt h1 hj
 rw [e0] at ea
 cases ea
 exact ⟨a, us, k, j, rfl, r2.sc rfl, JB, by rw [hu]; exact hk, M.nx _ σ _ Z2 (z1.trans z2) S3 kk⟩
theorem dQ (hn : ds.length = n) (hm : X.mg "len" = none) (h : cU X CL b e δ (.lst ds) δ1) (hg : Gl X "len") (hs : Q.x := by exact aW rfl) : bI X CL b (.Call (.Name "len" pp) [e] [] pos) δ (.sh (.int n)) δ1 := by
 subst hn
 exact EA hm h hg hs
theorem cD (h : bI X CL b e δ (.lst (ds.map T.sh)) δ1) : cU X CL b e δ (.lst ds) δ1 := by
 have := SX h
 rwa [T.bM, iA] at this
theorem rY {f : α -> D} {l : List α} (z : α) (h0 : 0 <= k) (h1 : k < l.length) : rN (l.map f) k = some (f (l.getD k.toNat z)) := by
 obtain ⟨j, rfl⟩ : ∃ j : Nat, k = j := ⟨k.toNat, by omega⟩
 refine aO ?_
 have hl : j < l.length := by omega
 rw [ahU, ahN hl]
 simp [List.getD, hl]
theorem iL {α : Type} {f : α -> D} (h : ∀ a, (f a).iY = true) : ∀ (l : List α), D.bq (l.map f) = true
 | [] => rfl
 | a :: l => by rw [ah6, D.bq, h a, iL h l]; rfl
variable {d : D}
theorem vE (n : Vn X i x) (h : δ[i]? = some (some t)) (e : t.bM = d) : cU X CL b (.Name x pos) δ d δ := e ▸ vB n h
theorem qz (x : Str) : ∀ l : List Str, Zf (.str x) (l.map V.str) = decide (x ∈ l)
 | [] => by simp [Zf]
 | y :: l => by
   have ih := qz x l
   unfold Zf at ih ⊢
   rw [ah6, aj7, ih]
   have e : ∀ a c : Str, OZ (.str a) (.str c) = (a == c) := fun _ _ => rfl
   rw [e]
   by_cases h : y = x
   . subst h; simp
   . have h' : ¬ x = y := fun e => h e.symm
     simp [h, h']
theorem aA.strs {K : Q.h} {Z : Hp} : ∀ {l : List Str} {vs : List V}, aA K CL Z (l.map D.str) vs -> vs = l.map V.str
 | [], _, r => by
   have r' : aA K CL Z [] _ := r
   cases r'; rfl
 | y :: l, _, r => by
   have r' : aA K CL Z (D.str y :: l.map D.str) _ := r
   cases r' with
   | cons r1 r2 => rw [r1.sc rfl, aA.strs r2]; rfl
theorem gM : ∀ l : List Str, (l.map V.str).all qq = true
 | [] => rfl
 | y :: l => by rw [ah6, List.all_cons, gM l]; rfl
variable {l : List Str}
theorem ZD (h1 : cU X CL b e1 δ (.str x) δ1) (h2 : cU X CL b e2 δ1 (.tup (l.map .str)) δ2) (hm : behindInMarks .In e2 = false) :
   sU X CL b (.Compare e1 [.In] [e2] pos) δ (decide (x ∈ l)) δ2 /\ bI X CL b (.Compare e1 [.In] [e2] pos) δ (.sh (.bl (decide (x ∈ l)))) δ2 := by
 constructor
 . intro H Z σ ts vs Q S k
   refine Cv (qo xJ cA cA hm) (h1 H Z σ ts vs _ S fun v1 H1 Z1 z1 k1 S1 r1 => h2 H1 Z1 σ ts vs _ S1 fun v2 H2 Z2 z2 k2 S2 r2 => ?_)
   cases r2 with
   | tup hq rr =>
     have e := rr.strs
     subst e
     refine ⟨_, _, rfl, .inr hq, by rw [r1.sc rfl]; rfl, gM l, _, rfl, ?_⟩
     rw [ahX ah8, r1.sc rfl, qz]
     exact k H2 Z2 (z1.trans z2) (k1.trans k2) S2
 . intro H Z σ ts vs Q S k
   refine bN (qm xJ cA cA hm) (h1 H Z σ ts vs _ S fun v1 H1 Z1 z1 k1 S1 r1 => h2 H1 Z1 σ ts vs _ S1 fun v2 H2 Z2 z2 k2 S2 r2 => ?_)
   cases r2 with
   | tup hq rr =>
     have e := rr.strs
     subst e
     refine ⟨_, _, rfl, .inr hq, by rw [r1.sc rfl]; rfl, gM l, ?_⟩
     rw [ahX ah8, r1.sc rfl, qz]
     exact k _ H2 Z2 (z1.trans z2) (k1.trans k2) (S2.push (.bl _))
theorem J1 (h1 : cU X CL b e1 δ (.str x) δ1) (h2 : Ex X CL b es δ1 ((l.map D.str).map T.sh) δ2) (hl : (l.map D.str).length <= sizeLine := by exact aq rfl) :
   sU X CL b (.Compare e1 [.In] [.Tuple es j p2] pos) δ (decide (x ∈ l)) δ2 /\ bI X CL b (.Compare e1 [.In] [.Tuple es j p2] pos) δ (.sh (.bl (decide (x ∈ l)))) δ2 := ZD h1 (ah (aF h2 hl)) rfl
def vf : Expr -> Option Str
 | .Constant (.str x) _ _ => some x
 | _ => none
def rZ : List Expr -> Option (List Str)
 | [] => some []
 | e :: es => (vf e).bind fun x => (rZ es).map (x :: ·)
theorem Bd (h : vf e = some x) : ∃ j p, e = .Constant (.str x) j p := by
 unfold vf at h
 split at h
 . cases h; exact ⟨_, _, rfl⟩
 . cases h
theorem qA : ∀ {es : List Expr} {l : List Str}, rZ es = some l -> Ex X CL b es δ ((l.map D.str).map T.sh) δ
 | [], l, h => by
   have e : l = [] := (aie h).symm
   subst e
   exact fB
 | e :: es, l, h => by
   rw [rZ] at h
   obtain ⟨x, hx, h⟩ := Option.bind_eq_some_iff.mp h
   obtain ⟨l', hl, rfl⟩ := aib.mp h
   obtain ⟨j, p, rfl⟩ := Bd hx
   exact cB cJ (qA hl)
theorem J2 {l : List α} (z : α) (h0 : 0 <= k) (h1 : k < l.length) : rN l k = some (l.getD k.toNat z) := by
 obtain ⟨j, rfl⟩ : ∃ j : Nat, k = j := ⟨k.toNat, by omega⟩
 refine aO ?_
 have hl : j < l.length := by omega
 rw [ahN hl]
 simp [List.getD, hl]
theorem J3 (h0 : 0 <= k) (h1 : k < n) : Ep n k = some k.toNat := by
 unfold Ep
 rw [ah7 h0, ah7 h1]
theorem str_len (x y : Str) : (x ++ y).length = x.length + y.length := by
 show (x.cps ++ y.cps).size = _
 rw [Array.size_append]; rfl
theorem CG (x y : Str) (h1 : PyData.strOk x = true) (h2 : PyData.strOk y = true) : PyData.strOk (x ++ y) = true := by
 unfold PyData.strOk at *
 show (x.cps ++ y.cps).all _ = true
 rw [Array.all_append, h1, h2]; rfl
variable {ds : List D}
theorem vFL (n : Vn X i x) (h : δ[i]? = some (some (.lst (ds.map T.sh)))) : bI X CL b (.Name x pos) δ (.sh (.lst ds)) (δ.set i (some (.sh (.lst ds)))) := by
 have := vF (CL := CL) (b := b) (pos := pos) n h
 rwa [T.bM, iA] at this
theorem iI.get : ∀ {fs : List (Str × D)} {gs : List (Str × V)} {f : Str} {d : D}, iI K CL Z fs gs -> fs.lookup f = some d -> ∃ v, gs.lookup f = some v /\ aV K CL Z d v
 | _, _, _, _, .nil, e => by simp at e
 | _, _, f, d, .cons (x := x) r t, e => by
   rw [ain] at e ⊢
   cases h : f == x with
   | true => rw [h] at e; cases e; exact ⟨_, rfl, r⟩
   | false => rw [h] at e; exact iI.get t e
def jF (f : Str) (t : T) : List (Str × T) -> List (Str × T)
 | [] => [(f, t)]
 | (g, x) :: r => if g = f then (g, t) :: r else (g, x) :: jF f t r
variable {fs : List (Str × T)}
theorem cI.length {gs : List (Str × V)} (h : cI K CL H Z fs gs fp) : fs.length = gs.length :=
 cI.ind (P := fun d v _ => d.length = v.length) rfl (fun _ _ i => congrArg (· + 1) i) h
theorem cI.put {f : Str} {g : List Addr} (q : bu K CL H Z t v g) : ∀ {fs : List (Str × T)} {gs : List (Str × V)} {fp : List Addr}, cI K CL H Z fs gs fp →
   ∃ Yj f', cI K CL H Z (jF f t fs) (jy f v gs) Yj /\ f'.Sublist fp /\ Yj.Perm (g ++ f')
 | _, _, _, .nil => ⟨g ++ [], [], .cons q .nil, aiv _, aki _⟩
 | _, _, _, .cons (x := x) (fp := fp) (gp := gp) r rs => by
   rw [jF, jy]
   by_cases h : x = f
   . rw [ah7 h, ah7 h]
     exact ⟨g ++ gp, gp, .cons q rs, aiQ _ _, aki _⟩
   . rw [ahX h, ahX h]
     obtain ⟨p, p', h1, h2, h3⟩ := cI.put (f := f) q rs
     refine ⟨fp ++ p, fp ++ p', .cons r h1, air (aiv _) h2, (aiH fp h3).trans ?_⟩
     rw [← ahQ, ← ahQ]
     exact aim.append_right p'
theorem aY.yR {o : HO} {Yj EC : List Addr} (hm : jd o = false) (S : aY K CL b H Z δ σ ts vs) (own : ∀ c ∈ fp ++ gp, Z c = none /\ b.B c = none) (ha : a ∈ fp ++ gp)
   (e' : dJ K CL (upd H a o) Z δ2 σ Yj) (r' : aI K CL (upd H a o) Z tl us EC) (pm : (Yj ++ EC).Nodup) (sub : ∀ c ∈ Yj ++ EC, c ∈ fp ++ gp) :
   aY K CL b (upd H a o) Z δ2 σ tl us := by
 have oa := own a ha
 refine ⟨⟨_, _, e', r', pm, fun c hc => own c (sub c hc)⟩, fun c u q => ?_, S.zz, fun c u q => ?_, S.new, fun c u q i => ?_, S.tab⟩
 . rw [ao (bG q oa.2)]; exact S.bh c u q
 . rw [ao (bG q oa.1)]; exact S.zh c u q
 . by_cases hc : c = a
   . subst hc; rw [aB] at q; cases q; rw [hm] at i; cases i
   . rw [ao hc] at q; exact S.tp c u q i
variable {c : Str}
theorem aY.setField {x : Addr} {f : Str} (S : aY K CL b H Z δ σ (t :: ts) (v :: vs)) (hi : δ[i]? = some (some (.pin x (.ins c fs)))) :
   ∃ dx gs, σ[i]? = some (some (.ref x)) /\ H x = some (.ins (CL c) dx gs) /\ gs.length = fs.length /\ aY K CL b (upd H x (.ins (CL c) dx (jy f v gs))) Z (δ.set i (some (.pin x (.ins c (jF f t fs))))) σ ts vs := by
 obtain ⟨fp, gp, e, r, nd, k⟩ := S.rep
 obtain ⟨v0, f1, f2, f3, hv, nL, rt, put, _⟩ := e.get hi
 subst nL
 cases rt with
 | pin rt =>
 cases rt with
 | @ins a dx _ gs _ g ha rs =>
   cases r with
   | @cons _ _ _ _ ft gr q1 q2 =>
     have ne : ∀ c ∈ (f1 ++ (g ++ f3)) ++ (ft ++ gr), c ≠ x := fun c hc e => by
       subst e
       have hp : ((f1 ++ ((c :: g) ++ f3)) ++ (ft ++ gr)).Perm (c :: ((f1 ++ (g ++ f3)) ++ (ft ++ gr))) := by
         rw [aiz, ← aiz]
         exact (ai2.append_right _)
       exact (aiE.mp (hp.nodup_iff.mp nd)).1 hc
     refine ⟨dx, gs, hv, ha, rs.length.symm, ?_⟩
     have q1' := q1.mono (H' := upd H x (.ins (CL c) dx (jy f v gs))) (.refl _) fun c hc => ao (ne c (by simp [hc]))
     have rs' := rs.mono (H' := upd H x (.ins (CL c) dx (jy f v gs))) (.refl _) fun c hc => ao (ne c (by simp [hc]))
     obtain ⟨p, p', h1, h2, h3⟩ := cI.put (f := f) q1' rs'
     have r1 : bu K CL (upd H x (.ins (CL c) dx (jy f v gs))) Z (.pin x (.ins c (jF f t fs))) (.ref x) (x :: p) := .pin (.ins aB h1)
     have e2 := put (H' := upd H x (.ins (CL c) dx (jy f v gs))) (.refl _) (fun c hc => ao (ne c (by
       rcases ahZ.mp hc with h | h
       . simp [h]
       . simp [h]))) r1
     rw [fE hv] at e2
     have hp : ((f1 ++ ((x :: p) ++ f3)) ++ gr).Perm ((f1 ++ ((x :: p') ++ f3)) ++ (ft ++ gr)) := by
       have h4 : ((f1 ++ ((x :: p) ++ f3)) ++ gr).Perm ((f1 ++ ((x :: (ft ++ p')) ++ f3)) ++ gr) := ((h3.cons x).append_right f3).append_left f1 |>.append_right gr
       refine h4.trans ?_
       simp only [aiz, ahQ]
       refine aiH f1 (List.Perm.cons x ?_)
       have := (aim (l₁ := ft) (l₂ := p' ++ f3)).append_right gr
       simp only [ahQ] at this
       exact this
     have sb : ((f1 ++ ((x :: p') ++ f3)) ++ (ft ++ gr)).Sublist ((f1 ++ ((x :: g) ++ f3)) ++ (ft ++ gr)) :=
       air (air (aiv _) (air (List.Sublist.cons₂ x h2) (aiv _))) (aiv _)
     exact S.yR rfl k (by simp) e2 (q2.mono (.refl _) fun c hc => ao (ne c (by simp [hc]))) (hp.nodup_iff.mpr (nd.sublist sb)) fun c hc => sb.subset (hp.mem_iff.mp hc)
variable {f : Str} {d : D} {fs : List (Str × D)}
theorem gw (hc : tK X.K (CL c)) (n : aZ X.K (CL c) f) (h : cU X CL b e δ (.ins c fs) δ1) (hl : fs.lookup f = some d) (hb : attributeBase e f X.env (eval e X.env) = eval e X.env := by rfl) :
   cU X CL b (.Attribute e f pos) δ d δ1 := fun H Z σ ts vs Q S k =>
 bN (Cg cA hb) (h H Z σ ts vs _ S fun v H' Z' z s S' r => by
   cases r with
   | @ins a dx _ gs _ ha rf =>
     obtain ⟨w, hw, A1⟩ := rf.get hl
     exact ⟨a, CL c, dx, gs, w, rfl, ha, hc, n, hw, k w H' Z' z s S' A1⟩)
theorem mQ (hc : tK X.K (CL c)) (n : aZ X.K (CL c) f) (h : bI X CL b e δ (.sh (.ins c fs)) δ1) (hl : fs.lookup f = some d) (hb : attributeBase e f X.env (eval e X.env) = eval e X.env := by rfl) :
   bI X CL b (.Attribute e f pos) δ (.sh d) δ1 := fun H Z σ ts vs Q S k =>
 bN (Cg cA hb) (h H Z σ ts vs _ S fun v H' Z' z s S' => by
   obtain ⟨fp, gp, _, r, _, _⟩ := S'.rep
   cases r with
   | cons r _ =>
     cases r with
     | sh r =>
       cases r with
       | @ins a dx _ gs _ ha rf =>
         obtain ⟨w, hw, A1⟩ := rf.get hl
         exact ⟨a, CL c, dx, gs, w, rfl, S'.zh _ _ ha, hc, n, hw, k w H' Z' z s (S'.pop.push A1)⟩)
variable {pc : Pos}
theorem Be {gs : List (Str × T)} {pa pb : Pos} (hc : tK X.K (CL c)) (n : aZ X.K (CL c) f) (nm : Vn X i x) (h : bI X CL b e δ t δ1) (h1 : δ1[i]? = some (some (.pin a (.ins c gs)))) (hl : gs.length < 1000)
   (k : dh X CL b fC (δ1.set i (some (.pin a (.ins c (jF f t gs))))) DD) (hs : swapsWith e (some (.Attribute (.Name x pa) f pb)) pc.line X.env = pure false := by rfl) :
   dh X CL b (.Assign [.Attribute (.Name x pa) f pb] e pc :: fC) δ DD := cC fun H Z σ ts vs E S M =>
 pe (UQ (iX nm.hi nm.hv nm.hd nm.kE) cA hs) (h H Z σ ts vs _ S fun v H' Z' z s S' => by
   obtain ⟨dx, ws, hv, hx, hlen, S2⟩ := S'.setField (f := f) h1
   exact ⟨.ref a, hv, a, CL c, dx, ws, rfl, hx, hc, n, by rw [hlen]; exact hl, M.nx _ σ _ Z' z S2 k⟩)
def spI (K : Q.h) (CL : Q.d) {A : Type} (c : Str) (n : Nat) (arg : A -> List D) (Pre : A -> Prop) (res : A -> List (Str × T)) : Sp := fun vs H Q _ =>
 ∃ (W H0 : Hp) (a : A) (x dx : Addr) (us : List V), vs = .ref x :: us /\ H0 x = none /\ H0 dx = none /\ dx ≠ x /\ H = upd (upd H0 dx (.own x)) x (.ins (CL c) dx []) ∧
   ay W H0 /\ (∀ c o, H0 c = some o -> jd o = true -> W c = some o) /\ aA K CL W (arg a) us /\ (arg a).length + 1 = n /\ Pre a /\ k8 CL W ∧
   ∀ H' W' fp, ay H0 H' -> ay W W' -> ay W' H' -> (∀ c o, W' c = some o -> W c = none -> H0 c = none) -> (∀ c o, H' c = some o -> jd o = true -> W' c = some o) →
     bu K CL H' W' (.ins c (res a)) (.ref x) fp -> fp.Nodup -> (∀ c ∈ fp, W' c = none /\ H0 c = none) -> Q .non H'
variable {A : Type} {k : Nat} {f : Addr} {arg : A -> List D} {Pre : A -> Prop}
theorem Pn {res : A -> List (Str × T)} (a : A) (M : Mk X.K (CL c) f) (F : gH X.prog X.w X.K X.mg X.base sR k f fd ps (spI X.K CL c n arg Pre res)) (hr : fk (k + 1) X.A) (hm : X.mg x = some (.ref (CL c))) (hb : Binds X.K fd ps [])
   (h : JD X CL b (e :: es) δ (arg a) δ1) (hn : (arg a).length + 1 = n) (hp : Pre a) (hc : T.g9 (res a) = true) (hg : Gl X x)
   (rS : Q.p := by decide) (he : Q.w := by exact aW rfl) (hpl : (backTo pos (starEach es X.env)).any (·.1) = false := by rfl) :
   bI X CL b (.Call (.Name x pp) (e :: es) [] pos) δ (.ins c (res a)) δ1 := fun H Z σ ts vs Q S kk =>
 bN (OO M F hr hg hm hb .nil Es IB rS he hpl) (h H Z σ ts vs _ S fun us H1 Z1 z1 k1 S1 r x dx hx hdx ne => by
   rw [aip]
   refine ⟨H1, H1, a, x, dx, us, rfl, hx, hdx, ne, rfl, .refl _, fun _ _ q _ => q, r, hn, hp, S1.U9, fun H' W' fp hh ww wh nw tp rt nd own => ⟨rfl, ?_⟩⟩
   obtain ⟨Z', z', S'⟩ := S1.back hh S1.zh ww wh nw tp rt nd own (.inr (by rw [T.clean]; exact hc))
   exact kk _ H' Z' (z1.trans z') (k1.trans hh) S')
theorem Pp {mg : Str -> Option Value} {base : Heap} {qual : Str} {arg : A -> List D} {Pre : A -> Prop} {res : A -> List (Str × T)} (F : kG K x qual st f fd) (S : aQ N ps (au st))
   (hb : ∀ (i7 : Value) (Ar : Around) (outer : List Env) (s : Shared) (H : Hp) (E : XK) (b : Bx) (a : A) (y : Addr), fk k (Ar.deeper (envOfC qual (au st) s.heap.objs.size f i7)) -> Pre a →
     dh (u5 sR P w K mg base N qual (au st) f i7 Ar outer s H E).Ov CL b (fq st) (some (.pin y (.ins c [])) :: ((arg a).map (fun d => some (T.sh d)) ++ List.replicate (N.length - ((arg a).length + 1)) none))
       { nx := fun δ => δ[0]? = some (some (.pin y (.ins c (res a)))), rt := fun _ _ => False }) :
   gH P w K mg base sR (k + 1) f fd ps (spI K CL c ps.length arg Pre res) := by
 refine F.ok S (fun vs H Q E h => ?_) (fun i7 Ar outer s H vs Q E hr h => ?_)
 . obtain ⟨W, H0, a, y, dx, us, rfl, _, _, _, _, _, _, r, hl, _⟩ := h
   rw [aiR, ← r.length]; exact hl
 . obtain ⟨W, H0, a, y, dx, us, rfl, hy, hdx, ne, rfl, wh, tp, r, hl, hp, tb, kk⟩ := h
   have old : ∀ {d : Addr} {o : HO}, H0 d = some o -> upd (upd H0 dx (.own y)) y (.ins (CL c) dx []) d = some o := fun {d o} q => by
     rw [ao (bG q hy), ao (bG q hdx)]; exact q
   refine ⟨_, JA, hb i7 Ar outer s _ E ⟨H0, W⟩ a y hr hp _ W _ [] [] _ ⟨⟨[y] ++ [], [], ?_, .nil, by simp, fun d hd => ?_⟩, fun d o q => old q, .refl _, fun d o q => old (wh d o q), fun d o q z => ?_, fun d o q i => ?_, tb⟩ ⟨fun δ' σ' H' Z' s' S' e => ?_, fun t v H' Z' δ' σ' s' S' e => e.elim, fun _ _ _ _ _ _ e => e.elim, fun _ _ _ _ _ _ e => e.elim⟩⟩
   . unfold L2.start
     rw [ah6, aiR, aiz, ← r.length]
     exact .cons (.pin (.ins aB .nil)) (jC _ r)
   . have : d = y := by simpa using hd
     subst this
     exact ⟨Cy wh hy, hy⟩
   . have q' : W d = some o := q
     have z' : W d = none := z
     rw [q'] at z'; cases z'
   . by_cases h1 : d = y
     . subst h1; rw [aB] at q; cases q; cases i
     . rw [ao h1] at q
       by_cases h2 : d = dx
       . subst h2; rw [aB] at q; cases q; cases i
       . rw [ao h2] at q; exact tp d o q i
   . obtain ⟨fp, gp, eE, _, nd, own⟩ := S'.rep
     obtain ⟨v, f1, f2, f3, hv, nL, rt, _, _⟩ := eE.get e
     subst nL
     cases rt with
     | pin rt =>
       refine kk H' Z' f2 S'.bh S'.zz S'.zh S'.new S'.tp rt ?_ fun d hd => own d (by simp [hd])
       have h1 := (ais.mp nd).1
       exact (ais.mp (ais.mp h1).2.1).1
variable {body : List Stmt} {ds pD : List D}
theorem Pq (g : Gx X) (P : Nat -> List (Option T) -> Prop) (m : Nat) (h0 : P m δ)
   (hs : ∀ m δ, P m δ -> ∃ p δ1, sU X CL b e δ p δ1 ∧
     (p = true -> dh X CL b body δ1 { nx := fun δ2 => ∃ m', m' < m /\ P m' δ2, rt := DD.rt, bk := fun δ2 => dh X CL b fC δ2 DD, ct := fun δ2 => ∃ m', m' < m /\ P m' δ2 }) /\ (p = false -> dh X CL b fC δ1 DD)) :
   dh X CL b (.While e body [] pos :: fC) δ DD := cC fun H Z σ ts vs E S M =>
 pe (I0 g.xe U7 JA) (by
   refine ⟨fun m σ H => ∃ Z2 δ2, ay Z Z2 /\ aY X.K CL b H Z2 δ2 σ ts vs /\ P m δ2, ⟨m, Z, δ, .refl _, S, h0⟩, ?_⟩
   rintro m σ H ⟨Z2, δ2, z2, S2, p2⟩
   obtain ⟨p, δ3, ht, h1, h2⟩ := hs m δ2 p2
   refine ht H Z2 σ ts vs _ S2 fun H3 Z3 z3 k3 S3 => ?_
   cases p with
   | true =>
     rw [ah7 rfl]
     refine ⟨fun σ' H' => ∃ m', m' < m /\ ∃ Z2 δ2, ay Z Z2 /\ aY X.K CL b H' Z2 δ2 σ' ts vs /\ P m' δ2, fun σ' H' q => q, ?_⟩
     refine h1 rfl H3 Z3 σ ts vs _ S3 ⟨fun δ' σ' H' Z' s' S' ⟨m', l, q⟩ => ⟨m', l, Z', δ', z2.trans (z3.trans s'), S', q⟩, fun t v H' Z' δ' σ' s' S' q => M.rt t v H' Z' δ' σ' (z2.trans (z3.trans s')) S' q,
       fun δ' σ' H' Z' s' S' q => M.nx δ' σ' H' Z' (z2.trans (z3.trans s')) S' q, fun δ' σ' H' Z' s' S' ⟨m', l, q⟩ => ⟨m', l, Z', δ', z2.trans (z3.trans s'), S', q⟩⟩
   | false =>
     rw [ahX Q.c]
     exact M.nx δ3 σ H3 Z3 (z2.trans z3) S3 (h2 rfl))
def ZE (K : Q.h) : R2 := fun x y H Q => ∃ l b xs zs, x = .ref l /\ y = .ref b /\ kZ K H l xs /\ kZ K H b zs /\ xs.length + zs.length <= sizeLine /\ ∀ p, H p = none -> Q (.ref p) (upd H p (.lst (xs ++ zs)))
theorem Pr : rM X (binaryOp .Add) (ZE X.K) := by
 intro pins s σ H x y v u Q I rx ry h
 obtain ⟨l, b, xs, zs, rfl, rfl, hH, hB, hz, q⟩ := h
 cases rx
 cases ry
 obtain ⟨its, r, pl, _⟩ := I.list hH
 obtain ⟨Gn, r2, pl2, _⟩ := I.list hB
 have e1 := r.length
 have e2 := r2.length
 obtain ⟨⟨c1, dd, da1, sl⟩, ho, hc, n, hd⟩ := pl.isList
 obtain ⟨⟨c2, SQ, da2, Yg⟩, IA, OS, n2, hd2⟩ := pl2.isList
 cases hc; cases OS; cases hd; cases hd2
 refine concat_meets ⟨_, ho, rfl⟩ ⟨_, IA, rfl⟩ noFill_list_add seq_list_add PySem.F.slot_list_add PySem.F.entry_list_add (PySem.F.args_list_add_2 (Value.ref l) (Value.ref b))
   (list_addW l b its.toArray Gn.toArray n n2 dd SQ sl Yg (by rw [aii, aii]; omega)) ⟨ho, IA, ?_⟩
 have ea : its.toArray ++ Gn.toArray = (its ++ Gn).toArray := by simp
 rw [ea]
 exact ⟨.ref _, _, I.Zg (t' := s.toks) (r.append r2) (by rw [ah1]; omega), rfl, q _ I.fresh⟩
theorem aA.app {ds pD : List L3.D} {vs2 : List V} (h : aA K CL Z ds vs) (r2 : aA K CL Z pD vs2) : aA K CL Z (ds ++ pD) (vs ++ vs2) :=
 aA.ind (P := fun ds vs => aA K CL Z (ds ++ pD) (vs ++ vs2)) r2 (fun r _ i => .cons r i) h
theorem t7 (h1 : cU X CL b e1 δ (.lst ds) δ1) (h2 : cU X CL b e2 δ1 (.lst pD) δ2) (i1 : D.bq ds = true) (i2 : D.bq pD = true) (hz : ds.length + pD.length <= sizeLine) :
   bI X CL b (.BinOp e1 .Add e2 pos) δ (.lst ((ds ++ pD).map T.sh)) δ2 := fun H Z σ ts vs Q S k =>
 bN (uY Pr cA cA) (h1 H Z σ ts vs _ S fun v1 H1 Z1 z1 k1 S1 r1 => h2 H1 Z1 σ ts vs _ S1 fun v2 H2 Z2 z2 k2 S2 r2 => by
   have Gy := r1.mono k2
   cases Gy with
   | lst J4 Bf =>
     cases r2 with
     | lst Pu AJ =>
       refine ⟨_, _, _, _, rfl, rfl, J4, Pu, by rw [← Bf.length, ← AJ.length]; exact hz, fun p hp => ?_⟩
       have rc := aA.app (aA.iY S2.tp i1 Bf) (aA.iY S2.tp i2 AJ)
       obtain ⟨c, S4⟩ := (aY.pC rc S2).pO (g0 := []) (by simp [rc.length, Bf.length, AJ.length]) hp
       exact k _ _ _ (z1.trans z2) (k1.trans (k2.trans c)) S4)
theorem boot_min : bootBuiltins "min" = some (.builtin "min") := Q.i
theorem boot_max : bootBuiltins "max" = some (.builtin "max") := Q.i
theorem boot_str : bootBuiltins "str" = some (.type "str") := Q.i
theorem Pw {i j : Int} (g : Gx X) (hm : X.mg "min" = none) (hg : Gl X "min") (h : JD X CL b [e1, e2] δ [.int i, .int j] δ1) (hs : starEach [e1, e2] X.env = (false, eval e1 X.env) :: starEach [e2] X.env := by exact aW rfl) (hpl : (backTo pos (starEach [e2] X.env)).any (·.1) = false := by rfl) :
   bI X CL b (.Call (.Name "min" pp) [e1, e2] [] pos) δ (.sh (.int (if j < i then j else i))) δ1 := fun H Z σ ts vs Q S k =>
 bN (gI (Gh g.calm) hg hm boot_min IB (he := hs) (hpl := hpl)) (h H Z σ ts vs _ S fun us H1 Z1 z1 k1 S1 r => by
   cases r with
   | cons r1 r =>
     cases r with
     | cons r2 r =>
       cases r
       rw [r1.sc rfl, r2.sc rfl]
       exact ⟨i, j, rfl, k _ H1 Z1 z1 k1 (S1.push (.int _))⟩)
theorem ED {i j : Int} (g : Gx X) (hm : X.mg "max" = none) (hg : Gl X "max") (h : JD X CL b [e1, e2] δ [.int i, .int j] δ1) (hs : starEach [e1, e2] X.env = (false, eval e1 X.env) :: starEach [e2] X.env := by exact aW rfl) (hpl : (backTo pos (starEach [e2] X.env)).any (·.1) = false := by rfl) :
   bI X CL b (.Call (.Name "max" pp) [e1, e2] [] pos) δ (.sh (.int (if j > i then j else i))) δ1 := fun H Z σ ts vs Q S k =>
 bN (gI (Gg g.calm) hg hm boot_max IB (he := hs) (hpl := hpl)) (h H Z σ ts vs _ S fun us H1 Z1 z1 k1 S1 r => by
   cases r with
   | cons r1 r =>
     cases r with
     | cons r2 r =>
       cases r
       rw [r1.sc rfl, r2.sc rfl]
       exact ⟨i, j, rfl, k _ H1 Z1 z1 k1 (S1.push (.int _))⟩)
theorem Px {i : Int} (hm : X.mg "str" = none) (hg : Gl X "str") (h : cU X CL b e δ (.int i) δ1) (hi : i.natAbs.log2 < 1920) (hs : Q.x := by exact aW rfl) :
   bI X CL b (.Call (.Name "str" pp) [e] [] pos) δ (.sh (.str (toString i))) δ1 := fun H Z σ ts vs Q S k =>
 bN (gC yx hg hm boot_str (bL cA c5 hs) (he := hs)) (h H Z σ ts vs _ S fun v H1 Z1 z1 k1 S1 r => by
   rw [r.sc rfl]
   exact ⟨i, rfl, hi, k _ H1 Z1 z1 k1 (S1.push (.str _))⟩)
structure Fm (X : Cx) (CL : Q.d) (x : Str) (k n : Nat) {A : Type} (arg : A -> List D) (Pre : A -> Prop) (res : A -> List (Str × T)) : Prop where
 ex : ∃ f fd ps, Mk X.K (CL x) f /\ gH X.prog X.w X.K X.mg X.base sR k f fd ps (spI X.K CL x n arg Pre res) /\ X.mg x = some (.ref (CL x)) /\ Binds X.K fd ps []
 room : fk (k + 1) X.A
def Vw (N : List Str) (y : Addr) (c : Str) (ds : List D) : List (Option T) := some (.pin y (.ins c [])) :: (ds.map (fun d => some (T.sh d)) ++ List.replicate (N.length - (ds.length + 1)) none)
theorem Vx {CL' : Q.d} {arg : List Int -> List D} {pre : List Int -> Prop} {res : List Int -> T} (ha : ∀ a, arg a = [.lst (a.map .int)]) (hr : ∀ a, res a = .sh (.bl true)) (h0 : ∀ x, Ew x = true -> CL x = 0) :
   ∀ (vs : List V) (H : Hp) (Q : VK) (E : XK), IC K CL' 1 arg pre res vs H Q E -> IC K CL 1 arg pre res vs H Q E := by
 rintro vs H Q E ⟨W, a, h1, h2, h3, h4, h5, _, k⟩
 have Vy : ∀ {l : List Int} {us : List V}, aA K CL' W (l.map .int) us -> aA K CL W (l.map .int) us := by
   intro l
   induction l with
   | nil => intro us r; cases r; exact .nil
   | cons i l ih =>
     intro us r
     cases r with
     | cons r t => cases r; exact .cons (.int i) (ih t)
 refine ⟨W, a, h1, h2, ?_, h4, h5, fun x hx e => absurd (h0 x hx) e, fun v H' W' fp a1 a2 a3 a4 a5 r nd own => k v H' W' fp a1 a2 a3 a4 a5 ?_ nd own⟩
 . rw [ha] at h3 ⊢
   cases h3 with
   | cons r t =>
     cases t
     cases r with
     | lst q rr => exact .cons (.lst q (Vy rr)) .nil
 . rw [hr] at r ⊢
   cases r with
   | sh r => cases r; exact .sh (.bl _)
section
variable {m : Str} {D : dZ}
theorem mk_ {arg : A -> List L3.D} {Pre : A -> Prop} {res : A -> List (Str × T)} (a : A) (F : Fm X CL x k n arg Pre res) (hg : Gl X x) (h : JD X CL b (e :: es) δ (arg a) δ1) (hp : Pre a) (hc : T.g9 (res a) = true) (hn : (arg a).length + 1 = n := by rfl)
   (rS : Q.p := by decide) (he : Q.w := by exact aW rfl) (hpl : (backTo pos (starEach es X.env)).any (·.1) = false := by rfl) :
   bI X CL b (.Call (.Name x pp) (e :: es) [] pos) δ (.ins x (res a)) δ1 := by
 obtain ⟨f, fd, ps, M, F1, m, b⟩ := F.ex
 exact Pn a M F1 F.room m b h hn hp hc hg rS he hpl
end
theorem je {f : Str} {d : α} {fs : List (Str × α)} : ((f, d) :: fs).lookup f = some d := by
 rw [ain, ajk]
theorem dR {f g : Str} {d : α} {fs : List (Str × α)} (h : (f == g) = false) : ((g, d) :: fs).lookup f = fs.lookup f := by
 rw [ain, h]
theorem mR {f : Str} : jF f t [] = [(f, t)] := rfl
theorem bW {f g : Str} {u : T} {fs : List (Str × T)} (h : ¬ g = f) : jF f t ((g, u) :: fs) = (g, u) :: jF f t fs := by
 rw [jF, ahX h]
theorem nO {f : Str} {u : T} {fs : List (Str × T)} : jF f t ((f, u) :: fs) = (f, t) :: fs := by
 rw [jF, ah7 rfl]
variable {d : L3.D}
def J5 (d : L3.D) : Option (List L3.D) := match d with
 | .lst ds => some ds
 | .tup ds => some ds
 | _ => none
theorem aV.J5 {ds : List L3.D} (r : aV K CL Z d v) (h : L3.J5 d = some ds) : ∃ p us, v = .ref p /\ (kZ K Z p us \/ kD K Z p us) /\ aA K CL Z ds us := by
 cases r with
 | tup hq rr => cases h; exact ⟨_, _, rfl, .inr hq, rr⟩
 | lst hq rr => cases h; exact ⟨_, _, rfl, .inl hq, rr⟩
 | non => cases h
 | bl => cases h
 | int => cases h
 | str => cases h
 | any => cases h
 | val => cases h
 | oZ => cases h
 | dct => cases h
 | ins => cases h
 | jc => cases h
theorem EE (h1 : cU X CL b e1 δ (.str x) δ1) (h2 : cU X CL b e2 δ1 d δ2) (hd : L3.J5 d = some (l.map .str)) (hm : behindInMarks .NotIn e2 = false) :
   sU X CL b (.Compare e1 [.NotIn] [e2] pos) δ (!decide (x ∈ l)) δ2 /\ bI X CL b (.Compare e1 [.NotIn] [e2] pos) δ (.sh (.bl (!decide (x ∈ l)))) δ2 := by
 constructor
 . intro H Z σ ts vs Q S k
   refine Cv (qo qu cA cA hm) (h1 H Z σ ts vs _ S fun v1 H1 Z1 z1 k1 S1 r1 => h2 H1 Z1 σ ts vs _ S1 fun v2 H2 Z2 z2 k2 S2 r2 => ?_)
   obtain ⟨p, us, rfl, hq, rr⟩ := aV.J5 r2 hd
   have e := rr.strs
   subst e
   refine ⟨_, _, rfl, hq, by rw [r1.sc rfl]; rfl, gM l, _, rfl, ?_⟩
   rw [ah7 rfl, r1.sc rfl, qz]
   exact k H2 Z2 (z1.trans z2) (k1.trans k2) S2
 . intro H Z σ ts vs Q S k
   refine bN (qm qu cA cA hm) (h1 H Z σ ts vs _ S fun v1 H1 Z1 z1 k1 S1 r1 => h2 H1 Z1 σ ts vs _ S1 fun v2 H2 Z2 z2 k2 S2 r2 => ?_)
   obtain ⟨p, us, rfl, hq, rr⟩ := aV.J5 r2 hd
   have e := rr.strs
   subst e
   refine ⟨_, _, rfl, hq, by rw [r1.sc rfl]; rfl, gM l, ?_⟩
   rw [ah7 rfl, r1.sc rfl, qz]
   exact k _ H2 Z2 (z1.trans z2) (k1.trans k2) (S2.push (.bl _))
variable {ds : List L3.D}
theorem aK : Ex X CL b [] δ (([] : List L3.D).map T.sh) δ := fB
theorem ak (h1 : bI X CL b e δ (.sh d) δ1) (h2 : Ex X CL b es δ1 (ds.map T.sh) δ2) (hs : Q.w := by exact aW rfl) : Ex X CL b (e :: es) δ ((d :: ds).map T.sh) δ2 := cB h1 h2 hs
theorem jf (h : Ex X CL b es δ (ds.map T.sh) δ1) (hl : ds.length <= sizeLine) : bI X CL b (.List es pos) δ (.lst (ds.map T.sh)) δ1 := mK h (by simpa using hl)
theorem cL (l : List Str) : D.bq (l.map L3.D.str) = true := iL (fun _ => rfl) _
theorem EF (h : bI X CL b e δ (.lst (ds.map T.sh)) δ1) : bI X CL b e δ (.sh (.lst ds)) δ1 := by
 have := Cz h
 rwa [T.bM, iA] at this
theorem EG (h : bI X CL b e δ t δ1) (q : t.bM = d) : bI X CL b e δ (.sh d) δ1 := q ▸ Cz h
theorem pF {d2 : L3.D} (h : cU X CL b e δ d δ1) (q : d = d2) : cU X CL b e δ d2 δ1 := q ▸ h
theorem aC {t2 : T} (h : bI X CL b e δ t δ1) (q : t = t2) : bI X CL b e δ t2 δ1 := q ▸ h
structure vg (Z H Z' H' : Hp) : Prop where
 z : ay Z Z'
 h : ay H H'
 zh : ay Z' H'
 new : ∀ a o, Z' a = some o -> Z a = none -> H a = none
 tp : ∀ a o, H' a = some o -> jd o = true -> Z' a = some o
theorem vg.refl (zh : ay Z H) (tp : ∀ a o, H a = some o -> jd o = true -> Z a = some o) : vg Z H Z H := ⟨.refl _, .refl _, zh, fun a o q z => (by rw [q] at z; cases z), tp⟩
theorem vg.tup {p : Addr} (zh : ay Z H) (tp : ∀ a o, H a = some o -> jd o = true -> Z a = some o) (hp : H p = none) : vg Z H (upd Z p (.tup xs)) (upd H p (.tup xs)) := by
 have zp : Z p = none := zh.free hp
 refine ⟨ay.upd zp, ay.upd hp, fun a o q => ?_, fun a o q z => ?_, fun a o q i => ?_⟩
 . by_cases e : a = p
   . subst e; rw [aB] at q ⊢; exact q
   . rw [ao e] at q ⊢; exact zh a o q
 . by_cases e : a = p
   . subst e; exact hp
   . rw [ao e, z] at q; cases q
 . by_cases e : a = p
   . subst e; rw [aB] at q ⊢; exact q
   . rw [ao e] at q ⊢; exact tp a o q i
theorem aY.grow (S : aY K CL b H Z δ σ ts vs) (g : vg Z H Z' H') : aY K CL b H' Z' δ σ ts vs := by
 obtain ⟨fp, gp, e, r, nd, k⟩ := S.rep
 have old : ∀ a ∈ fp ++ gp, ∃ o, H a = some o := fun a ha => (ahZ.mp ha).elim (e.there a) (r.there a)
 have keep : ∀ a ∈ fp ++ gp, H' a = H a := fun a ha => by
   obtain ⟨o, q⟩ := old a ha
   rw [q]; exact g.h a o q
 refine ⟨⟨fp, gp, e.mono g.z (fun a ha => keep a (ahR _ ha)), r.mono g.z (fun a ha => keep a (ahM _ ha)), nd, fun a ha => ⟨?_, (k a ha).2⟩⟩, S.bh.trans g.h, S.zz.trans g.z, g.zh, fun a o q z => ?_, g.tp, S.tab⟩
 . cases q : Z' a with
   | none => rfl
   | some o =>
     obtain ⟨u, hu⟩ := old a ha
     rw [g.new a o q (k a ha).1] at hu; cases hu
 . cases e2 : Z a with
   | none => exact S.bh.free (g.new a o q e2)
   | some u =>
     have := g.z a u e2
     rw [q] at this; cases this
     exact S.new a o e2 z
def EH (δ : Q.e) : List Nat -> List D -> List (Option T)
 | i :: is, d :: ds => EH (δ.set i (some (.sh d))) is ds
 | _, _ => δ
def vh (σ : L2.St) : List Nat -> List V -> L2.St
 | i :: is, v :: vs => vh (σ.set i (some v)) is vs
 | _, _ => σ
theorem aY.sets {ps : List D} {ys : List V} : ∀ {is : List Nat} {δ : Q.e} {σ : L2.St}, aY K CL b H Z δ σ ts vs -> aA K CL Z ps ys -> (∀ i ∈ is, i < δ.length) -> aY K CL b H Z (EH δ is ps) (vh σ is ys) ts vs := by
 intro is
 induction is generalizing ps ys with
 | nil =>
   intro δ σ S r _
   cases ps <;> cases ys <;> exact S
 | cons i is ih =>
   intro δ σ S r hl
   cases r with
   | nil => exact S
   | cons r rr => exact ih ((S.push r).set (hl i ahL)) rr (fun j hj => by rw [akb]; exact hl j (ahP _ hj))
section
variable {tg : Expr} {ds : List D}
structure yS (X : Cx) (CL : Q.d) (b : Bx) (δ1 : Q.e) (σ : L2.St) (ts : List T) (vs : List V) (Z H : Hp) (ds : List D) (J : It) (H1 : Hp) : Prop where
 ex : ∃ Z1, ay Z Z1 /\ ay H H1 /\ aY X.K CL b H1 Z1 δ1 σ ts vs /\ (∀ i H2, ay Z1 H2 -> i < ds.length -> J.go i H2) ∧
   (∀ i Z2 H2 x H', ay Z1 Z2 -> ay Z2 H2 -> (∀ a o, H2 a = some o -> jd o = true -> Z2 a = some o) -> i < ds.length -> J.SJ i H2 x H' -> ∃ Z3 d, ds[i]? = some d /\ vg Z2 H2 Z3 H' /\ aV X.K CL Z3 d x) /\ (∀ H2, ay Z1 H2 -> J.stop ds.length H2)
def Td (X : Cx) (CL : Q.d) (b : Bx) (tg e : Expr) (δ : Q.e) (ds : List D) (δ1 : Q.e) : Prop :=
 ∃ wi, PI X tg e wi /\ ∀ (H Z : Hp) (σ : L2.St) (ts : List T) (vs : List V) (R : It -> Hp -> Prop), aY X.K CL b H Z δ σ ts vs -> (∀ J H1, yS X CL b δ1 σ ts vs Z H ds J H1 -> R J H1) -> wi σ H R
theorem J6 (h : S8 X CL b tg iter δ ds δ1) : Td X CL b tg iter δ ds δ1 := by
 obtain ⟨wi, pi, hw⟩ := h
 refine ⟨wi, pi, fun H Z σ ts vs R S k => hw H Z σ ts vs R S fun J H1 zz => ?_⟩
 obtain ⟨Z1, us, z1, k1, S1, rr, go, yl, st⟩ := zz
 refine k J H1 ⟨Z1, z1, k1, S1, go, fun i Z2 H2 x H' s1 s2 tp hi hy => ?_, st⟩
 obtain ⟨e, hu⟩ := yl i H2 x H' (s1.trans s2) hi hy
 subst e
 obtain ⟨d, hd, rd⟩ := rr.O4 hu
 exact ⟨Z2, d, hd, .refl s2 tp, rd.mono s1⟩
def ZF (X : Cx) (CL : Q.d) (tg : Expr) (is : List Nat) (parts : D -> Option (List D)) : Prop :=
 ∃ t : TG, PG X tg t /\ ∀ (Z H : Hp) (d : D) (ps : List D) (x : V) (σ : L2.St) (Q : L2.St -> Hp -> Prop), ay Z H -> aV X.K CL Z d x -> parts d = some ps -> (∀ ys, aA X.K CL Z ps ys -> Q (vh σ is ys) H) -> t x σ H Q
def part1 (d : D) : Option (List D) := some [d]
def part2 : D -> Option (List D)
 | .tup [a, c] => some [a, c]
 | _ => none
theorem GC {d : D} {ps : List D} (h : part2 d = some ps) : ∃ d1 d2, d = .tup [d1, d2] /\ ps = [d1, d2] := by
 unfold part2 at h
 split at h
 . cases h; exact ⟨_, _, rfl, rfl⟩
 . cases h
theorem CH {d : D} {ps : List D} {x : V} {Q : L2.St -> Hp -> Prop} (zh : ay Z H) (r : aV K CL Z d x) (e : part2 d = some ps) (k : ∀ ys, aA K CL Z ps ys -> Q (vh σ [i, j] ys) H) : Uz K 2 (AY (sN i) (AY (sN j) Uy)) x σ H Q := by
 obtain ⟨d1, d2, rfl, rfl⟩ := GC e
 cases r with
 | tup hq rr =>
   cases rr with
   | cons r1 rr =>
     cases rr with
     | cons r2 rr =>
       cases rr
       exact ⟨_, _, rfl, ay.tY zh hq, rfl, _, _, rfl, _, _, rfl, rfl, k _ (.cons r1 (.cons r2 .nil))⟩
theorem J7 {px : Pos} (hN : X.N.Nodup) (n : Ln X i x) : ZF X CL (.Name x px) [i] part1 :=
 ⟨sN i, jS hN n.hi n.loc n.hf, fun Z H d ps x σ Q zh r e k => by
   cases e
   exact k [x] (.cons r .nil)⟩
theorem EI {y : Str} {px py pt : Pos} (hN : X.N.Nodup) (hc : X.calm = true) (n : Ln X i x) (m : Ln X j y) (hs : (assignEach [.Name x px, .Name y py] X.env).map (·.2) = assign (.Name x px) X.env :: (assignEach [.Name y py] X.env).map (·.2) := by rfl) (wU : (assignEach [.Name y py] X.env).map (·.2) = assign (.Name y py) X.env :: (assignEach [] X.env).map (·.2) := by rfl)
   (hn : (assignEach [.Name x px, .Name y py] X.env).length = 2 := by rfl) (UA : (assignEach [.Name x px, .Name y py] X.env).findIdx? (·.1) = none := by rfl) : ZF X CL (.Tuple [.Name x px, .Name y py] k pt) [i, j] part2 :=
 ⟨Uz X.K 2 (AY (sN i) (AY (sN j) Uy)), IZ hc (qj (jS hN n.hi n.loc n.hf) (qj (jS hN m.hi m.loc m.hf) Eh wU) hs) hn UA, fun Z H d ps x σ Q zh r e k => CH zh r e k⟩
theorem Py {D : dZ} (is : List Nat) (parts : L3.D -> Option (List L3.D)) (P : Nat -> List (Option T) -> Prop) (h : Td X CL b tg iter δ ds δ1) (ht : ZF X CL tg is parts) (h0 : P 0 δ1) (hl : ∀ j δ, P j δ -> ∀ i ∈ is, i < δ.length)
   (hs : ∀ j d δ, ds[j]? = some d -> P j δ -> ∃ ps, parts d = some ps /\ dh X CL b fC (EH δ is ps) { nx := P (j + 1), rt := D.rt, bk := D.nx, ct := P (j + 1) }) (hd : ∀ δ, P ds.length δ -> D.nx δ)
   (hp : PassesOwn Q.f X.A X.env X.xe) (hc : X.calm = true) (hq : ∀ x, foldedSetIterable iter X.env x = pure x := by intro _; rfl) :
   N7 X CL b (.For tg iter fC [] pos) δ D := fun H Z σ ts vs E S M => by
 obtain ⟨wi, pi, hw⟩ := h
 obtain ⟨t, pg, ht⟩ := ht
 refine pe (yw hp hc pi pg JA hq) (hw H Z σ ts vs _ S fun J H1 zz => ?_)
 obtain ⟨Z1, z1, k1, S1, go, yl, st⟩ := zz
 refine ⟨fun j m σ H2 => m = ds.length - j /\ j <= ds.length /\ ∃ Z2 δ2, ay Z1 Z2 /\ aY X.K CL b H2 Z2 δ2 σ ts vs /\ P j δ2, ⟨_, rfl, aiB _, Z1, δ1, .refl _, S1, h0⟩, ?_⟩
 rintro j m σ H2 ⟨rfl, hj, Z2, δ2, s, S2, p2⟩
 by_cases jD : j < ds.length
 . refine .inr ⟨go j H2 (s.trans S2.zh) jD, fun σ' H' => ∃ Z2 δ2, ay Z1 Z2 /\ aY X.K CL b H' Z2 δ2 σ' ts vs /\ P (j + 1) δ2, fun σ' H' h => ⟨ds.length - (j + 1), by omega, rfl, jD, h⟩, fun y H' hy => ?_⟩
   obtain ⟨Z3, d, yr, gr, rd⟩ := yl j Z2 H2 y H' s S2.zh S2.tp jD hy
   obtain ⟨ps, hps, hb⟩ := hs j d δ2 yr p2
   have S3 := S2.grow gr
   refine ht Z3 H' d ps y σ _ S3.zh rd hps fun ys rys => ?_
   have S4 := S3.sets (is := is) rys (hl j δ2 p2)
   have s3 := s.trans gr.z
   exact hb _ Z3 _ ts vs _ S4 ⟨fun δ' σ' H' Z' s' S' k => ⟨Z', δ', s3.trans s', S', k⟩, fun t v H' Z' δ' σ' s' S' k => M.rt t v H' Z' δ' σ' (z1.trans (s3.trans s')) S' k, fun δ' σ' H' Z' s' S' k => M.nx δ' σ' H' Z' (z1.trans (s3.trans s')) S' k, fun δ' σ' H' Z' s' S' k => ⟨Z', δ', s3.trans s', S', k⟩⟩
 . have e : j = ds.length := by omega
   subst e
   exact .inl ⟨st H2 (s.trans S2.zh), M.nx δ2 σ H2 Z2 (z1.trans s) S2 (hd δ2 p2)⟩
theorem J8 {D : dZ} {is : List Nat} {parts : L3.D -> Option (List L3.D)} (g : Gx X) (ht : ZF X CL tg is parts) (P : Nat -> List (Option T) -> Prop) (h : Td X CL b tg iter δ ds δ1) (h0 : P 0 δ1) (hl : ∀ j δ, P j δ -> ∀ i ∈ is, i < δ.length)
   (hs : ∀ j d δ, ds[j]? = some d -> P j δ -> ∃ ps, parts d = some ps /\ dh X CL b body (EH δ is ps) { nx := P (j + 1), rt := D.rt, bk := fun δ2 => dh X CL b fC δ2 D, ct := P (j + 1) }) (hd : ∀ δ, P ds.length δ -> dh X CL b fC δ D) (hq : ∀ x, foldedSetIterable iter X.env x = pure x := by intro _; rfl) :
   dh X CL b (.For tg iter body [] pos :: fC) δ D :=
 cC (Py (D := { D with nx := fun δ1 => dh X CL b fC δ1 D }) is parts P h ht h0 hl hs hd g.xe g.calm hq)
end
structure mS (X : Cx) (scope : Scope) (xs : List Str) (Nc : List Str) (ix : List Nat) : Prop where
 kind : scope.kind = .function
 yQ : ∀ y ∈ scope.names, y.2 ≠ .cell
 nd : Nc.Nodup
 names : ∀ y ∈ scope.names, y.2 = .local -> scope.names.lookup y.1 = some .local
 own : ∀ x ∈ xs, scope.names.lookup x = some .local
 frees : ∀ y ∈ scope.names, y.2 = .free -> scope.names.lookup y.1 = some .free /\ (X.env.kindOf y.1 = some .cell \/ X.env.kindOf y.1 = some .free)
 hd : Nc = xs ++ ix.filterMap (X.N[·]?)
 Zv : ∀ i ∈ ix, ∃ y, X.N[i]? = some y /\ scope.names.lookup y = some .free
def GD (σ : L2.St) (ix : List Nat) (os : List (Option V)) : L2.St := os ++ ix.map fun i => (σ[i]?).getD none
variable {xs : List Str}
theorem Bg (sc : mS X scope xs Nc ix) (I : Q.g) (nL : ∀ b ∈ fp, tG X pins H b /\ b < s.heap.objs.size) {h' : Heap} {m : Str -> Option Value} {tk : Nat}
   (hn : h'.Ns s.heap.objs.size m) (hk : ∀ b o, s.heap.get? b = some o -> h'.get? b = some o) :
   Inv (dS X scope Nc s.heap.objs.size s H fp) [] (GD σ ix (List.replicate xs.length none)) H { s with heap := h', toks := tk } := by
 have frees : ∀ y ∈ scope.names, y.2 = .free -> ∃ c, X.env.cells.lookup y.1 = some c := fun y hy e => I.ok.has y.1 (sc.frees y hy e).2
 have sub : ∀ {y : Str} {c : Addr}, (gK X.env scope.names []).lookup y = some c -> X.env.cells.lookup y = some c := fun {y c} e => pQ frees (fun _ _ z => by cases z) e
 have hlen : (GD σ ix (List.replicate xs.length none)).length = Nc.length := by
   have all : ∀ l : List Nat, (∀ i ∈ l, ∃ y, X.N[i]? = some y /\ scope.names.lookup y = some .free) -> (l.filterMap (X.N[·]?)).length = l.length := by
     intro l
     induction l with
     | nil => intro _; rfl
     | cons i r ih =>
       intro h
       obtain ⟨y, e, _⟩ := h i ahL
       rw [ajx, e]
       show _ + 1 = _ + 1
       rw [ih fun j hj => h j (ahP _ hj)]
   unfold GD
   rw [sc.hd, ah1, ah1, ahK, ai6, all ix sc.Zv]
 have C0 : s.heap.get? s.heap.objs.size = none := Heap.get?_none_of_le (ah0 _)
 refine ⟨⟨I.ok.mod, sc.kind, I.ok.glob, I.ok.blt, ah0 _, fun y z c h1 h2 => I.ok.inj y z c (sub h1) (sub h2), fun y hy => ?_, fun y c hf _ => (by cases (show false = true from hf)), I.ok.hd, I.ok.frames, .inl rfl, fun b hb => ⟨aiF (nL b hb).2, fun y c e => (nL b hb).1.2.2.2.2.1 y c (sub e)⟩, I.bs, aiD I.ok.N6 I.sz, fun b o e hb => ?_, fun b hb hf => ?_, I.stack, I.Eb⟩,
   rfl, I.bare, Un.kept hk, ⟨m, hn, fun i y v h1 h2 h3 => ?_⟩, fun y c e => ?_, I.cP.fresh (ah0 _), fun y c e => I.mj y c (sub e), fun p hp => absurd (show p ∈ ([] : List (Addr × Obj)) from hp) (by simp), I.cP.kept hk, hlen⟩
 . 
   have hy' : (relabel scope X.env).names.lookup y = some .cell \/ (relabel scope X.env).names.lookup y = some .free := hy
   cases e : scope.names.lookup y with
   | none => 
     have := i9 (env := X.env) e
     rcases hy' with q | q <;> (rw [show (relabel scope X.env).names.lookup y = none from this] at q; cases q)
   | some k =>
     have q := fD (env := X.env) e
     have hk : k = .free := by
       by_cases hk : k = .free
       . exact hk
       . have hb : (k == NameKind.free) = false := by simpa using hk
         rw [ahX (by rw [hb]; simp)] at q
         have nc : k ≠ .cell := fun z => by
           subst z
           exact sc.yQ _ (ajg e) rfl
         rcases hy' with z | z
         . rw [show (relabel scope X.env).names.lookup y = some k from q] at z
           exact absurd (aie z) nc
         . rw [show (relabel scope X.env).names.lookup y = some k from q] at z
           exact absurd (aie z) hk
     subst hk
     exact pR e
 . 
   rcases (nL b hb).1.2.2.2.1 with z | z
   . exact I.ok.IX b o e z
   . exact absurd (aiC (aid e) (aiD I.ok.N6 z)) (aj6 _)
 . rcases ahT.mp (I.yt b hf) with z | z
   . exact (nL b hb).1.2.1 z
   . exact (nL b hb).1.2.2.1 z
 . 
   unfold GD at h2
   by_cases hi : i < xs.length
   . rw [aiq (by rw [ai6]; exact hi), List.getElem?_replicate, ah7 hi] at h2
     cases h2
   . obtain ⟨n, rfl⟩ : ∃ n, i = xs.length + n := ⟨i - xs.length, by omega⟩
     rw [aj8 (by rw [ai6]; omega), ai6, Nat.add_sub_cancel_left, ahU] at h2
     cases ei : ix[n]? with
     | none => rw [ei] at h2; cases h2
     | some j =>
       rw [ei] at h2
       have h2' : (σ[j]?).getD none = some v := aie h2
       have hj : σ[j]? = some (some v) := by
         cases q : σ[j]? with
         | none => rw [q] at h2'; cases h2'
         | some o => rw [q] at h2'; exact congrArg some h2'
       obtain ⟨y', hy1, hy2⟩ := sc.Zv j (ah3 ei)
       have hNc : Nc[xs.length + n]? = some y' := by
         have all : ∀ (l : List Nat) (i : Nat), (∀ j ∈ l, ∃ y, X.N[j]? = some y /\ scope.names.lookup y = some .free) -> l[i]? = some j -> (l.filterMap (X.N[·]?))[i]? = some y' := by
           intro l
           induction l with
           | nil => intro i _ h; simp at h
           | cons a r ih =>
             intro i h hi
             obtain ⟨ya, ea, _⟩ := h a ahL
             rw [ajx, ea]
             cases i with
             | zero =>
               simp at hi
               subst hi
               rw [hy1] at ea
               cases ea
               rfl
             | succ i => exact ih i (fun j hj => h j (List.mem_cons_of_mem _ hj)) (by simpa using hi)
         rw [sc.hd, aj8 Q.a, Nat.add_sub_cancel_left]
         exact all ix n sc.Zv ei
       have ey : y' = y := by
         have h1' : Nc[xs.length + n]? = some y := h1
         rw [hNc] at h1'
         exact aie h1'
       subst ey
       have Ek := (sc.frees (y', .free) (ajg hy2) rfl).2
       have ac2 : X9 X.env.scope y' := Ek.elim (fun z => .inr (.inl z)) (fun z => .inr (.inr z))
       obtain ⟨m0, hn0, hl0⟩ := I.loc
       obtain ⟨u, ru, lk⟩ := hl0 j y' v hy1 hj ac2
       refine ⟨u, ru, ?_⟩
       rcases lk with ⟨kk, _⟩ | ⟨_, c, hc, xC⟩
       . rcases Ek with z | z
         . rw [kk] at z; cases z
         . rw [kk] at z; cases z
       . obtain ⟨c', Uj⟩ := pR (env := X.env) (cs := []) hy2
         have : c' = c := by
           have := sub Uj
           rw [hc] at this
           exact (aie this).symm
         subst this
         obtain ⟨o, ho, hd⟩ := xC
         refine .inr ⟨?_, c', Uj, o, hk _ _ ho, hd⟩
         have q := fD (env := X.env) hy2
         show (relabel scope X.env).names.lookup y' = some .cell \/ (relabel scope X.env).names.lookup y' = some .free
         rw [show (relabel scope X.env).names.lookup y' = _ from q]
         split
         . exact .inl rfl
         . exact .inr rfl
 . obtain ⟨v, o, ho, hd⟩ := I.cell y c (sub e)
   exact ⟨v, o, hk _ _ ho, hd⟩
def J9 (X : Cx) (tg elt : Expr) (ifs : List Expr) (n : Nat) (σ : L2.St) (ix : List Nat) (D : Addr) (N : Hp -> Prop) (xv : V) (os : List (Option V)) (H3 : Hp) : Prop :=
 ∃ t : TG, PG X tg t /\ t xv (GD σ ix os) H3 fun σ8 H4 => ∃ Ye, Ye.length = n /\ σ8 = GD σ ix Ye /\ Vk X ifs σ8 H4 fun ok H5 =>
   if ok = true then Cu X elt σ8 H5 fun y H6 => ∃ acc, H6 D = some (.lst acc) /\ acc.length < sizeLine /\ N (upd H6 D (.lst (acc ++ [y]))) else N H5
variable {tg : Expr} {it : Addr}
theorem CJ {J : It} {tn : Nat -> Heap -> Prop} {G : Addr -> Hp -> Prop} {RR : Value -> Addr -> Result -> Shared -> Prop} {E : Q.k}
   (sc : mS X scope xs Nc ix) (hc : X.calm = true) (I : Q.g) (Tn : Turn X.prog X.w X.K tg J fp it tn) (st : tn 0 s.heap) (hf : ∀ b ∈ fp, tG X pins H b)
   (loop : ∀ D, H D = none -> ∃ W : Nat -> Nat -> Hp -> Prop, (∃ m, W 0 m (upd H D (.lst []))) /\ ∀ i m H2, W i m H2 -> (J.stop i H2 /\ G D H2) ∨
     (J.go i H2 /\ ∃ N : Hp -> Prop, (∀ H', N H' -> ∃ m', m' < m /\ W (i + 1) m' H') /\ ∀ xv H3, J.SJ i H2 xv H3 -> ∀ C s0 H0 f0 os, os.length = xs.length -> J9 (dS X scope Nc C s0 H0 f0) tg elt ifs xs.length σ ix D N xv os H3))
   (hRR : ∀ D C s' H', (∃ m, s'.heap.Ns C m) -> (∃ o, s'.heap.get? C = some o /\ ∀ v, o.data ≠ .cell v) -> H' C = none -> (C ≠ X.env.locals /\ C ∉ X.fs /\ X.s₀.heap.objs.size <= C /\ (∀ y c, X.env.cells.lookup y = some c -> c ≠ C) /\ ∀ q ∈ X.pn ++ pins, q.1 ≠ C) -> (∀ h', Heap.SameBut C s'.heap h' -> Inv X pins σ H' { s' with heap := h' }) -> G D H' -> RR (.ref D) C (.ok .next) s') :
   wpAny Q.f X.A (newList []) (fun acc s₃ => wpAny Q.f X.A (newFunctionEnv scope X.env.globals (gK X.env scope.names []) [] X.env.qual none .none (some X.env)) (fun Ka s₄ =>
     codeAny Q.f X.A (.compStart (.ListComp elt [⟨tg, iter, ifs, 0⟩] scope pos) 0 (.ref it) acc { Ka with scope := relabel scope X.env }) (RR acc Ka.locals) s₄) E s₃) E s := by
 refine aiN ?_
 have I3 : Inv X pins σ (upd H s.heap.objs.size (.lst [])) { s with heap := s.heap.push { cls := .type "list", dict := none, data := .seq ([] : List Value).toArray } } :=
   I.laid (t' := s.toks) (fun b u e => ah5 _ e) (ah0 _) ⟨by show 0 <= sizeLine; exact aiB _, [], 0, .nil, aif _ rfl⟩
 have hD : H s.heap.objs.size = none := I.cP.fresh (ah0 _)
 obtain ⟨W, ⟨m0, w0⟩, turn⟩ := loop _ hD
 have Kc : ∀ b ∈ fp, tG X pins (upd H s.heap.objs.size (.lst [])) b /\ b < (s.heap.push { cls := .type "list", dict := none, data := .seq ([] : List Value).toArray }).objs.size := fun b hb => by
   obtain ⟨f0, f1⟩ := hf b hb
   obtain ⟨o, ho, _⟩ := Tn.obj 0 _ st b hb
   have jD := aid ho
   refine ⟨⟨by rw [ao (aiF jD)]; exact f0, f1⟩, ?_⟩
   rw [Heap.size_push]; exact Nat.lt_succ_of_lt jD
 have YN : tn 0 (s.heap.push { cls := .type "list", dict := none, data := .seq ([] : List Value).toArray }) := Tn.keep 0 _ _ st fun b _ o e => ah5 _ e
 generalize hs3 : ({ s with heap := s.heap.push { cls := .type "list", dict := none, data := .seq ([] : List Value).toArray } } : Shared) = s3 at I3 ⊢
 have Vz : s3.heap = s.heap.push { cls := .type "list", dict := none, data := .seq ([] : List Value).toArray } := by rw [← hs3]
 rw [← Vz] at Kc YN
 refine wpAny_newFunctionEnv sc.yQ (by intro y hy; simp at hy) (fun h₁ VA VB => ?_) sc.kind
 have old : ∀ b o, s3.heap.get? b = some o -> h₁.get? b = some o := fun b o e => (VB.2 b (aiF (aid e))).trans (ah5 _ e)
 have J0 := Bg (tk := s3.toks + ([] : List (Str × Value)).length) sc I3 Kc VA old
 have st4 : tn 0 h₁ := Tn.keep 0 _ _ YN fun b _ o e => old b o e
 have Te : ∀ s4 : Shared, s4 = { s3 with heap := h₁, toks := s3.toks + ([] : List (Str × Value)).length } -> codeAny Q.f X.A (.compLoop (.ListComp elt [⟨tg, iter, ifs, 0⟩] scope pos) 0 (.ref it) (.ref s.heap.objs.size) (compEnvC scope (gK X.env scope.names []) s3.heap.objs.size X.env)) (RR (.ref s.heap.objs.size) s3.heap.objs.size) s4 := by
   rintro s4 rfl
   have stat : ∀ {H' : Hp}, (∀ b ∈ fp, H' b = none) -> ∀ b ∈ fp, tG (dS X scope Nc s3.heap.objs.size s3 (upd H s.heap.objs.size (.lst [])) fp) [] H' b := fun {H'} hn b hb => by
     obtain ⟨⟨f0, f1, f2, f3, f4, f5⟩, jD⟩ := Kc b hb
     refine ⟨hn b hb, aiF jD, fun z => ?_, .inl hb, fun y c e => f4 y c (pQ (fun y hy e => I.ok.has y.1 (sc.frees y hy e).2) (fun _ _ z => by cases z) e), fun p hp => absurd (show p ∈ ([] : List (Addr × Obj)) from hp) (by simp)⟩
     rcases ahT.mp (I3.yt b z) with q | q
     . exact f1 q
     . exact f2 q
   refine yP (fun n s' => ∃ i o H', o.length = xs.length /\ Inv (dS X scope Nc s3.heap.objs.size s3 (upd H s.heap.objs.size (.lst [])) fp) [] (GD σ ix o) H' s' /\ tn i s'.heap /\ (∀ b ∈ fp, H' b = none) /\ W i n H') ?_ m0 ⟨0, _, _, ai6, J0, st4, fun b hb => (Kc b hb).1.1, w0⟩
   rintro n s5 ⟨i, o5, H5, ol5, I5, Yc, fr5, w5⟩
   rcases turn i n H5 w5 with ⟨stop, g⟩ | ⟨go, N, hN, step⟩
   . refine eO (Tn.done (dS X scope Nc s3.heap.objs.size s3 (upd H s.heap.objs.size (.lst [])) fp) rfl rfl rfl hc i [] s5 _ H5 _ I5 (stat fr5) Yc stop) fun r s6 zz => ?_
     obtain ⟨hr, I6⟩ := zz
     subst hr
     obtain ⟨m6, hn6, _⟩ := I6.loc
     obtain ⟨oc, esc, epc, hoc, hdc, _⟩ := id hn6
     have fpC := I3.wR (ah0 s3.heap.objs.size) (H' := fun _ => none) rfl
     refine hRR _ _ s6 H5 ⟨m6, hn6⟩ ⟨oc, hoc, fun v z => by rw [hdc] at z; cases z⟩ I6.free ⟨fpC.2.1, fpC.2.2.1, ?_, fpC.2.2.2.2.1, fpC.2.2.2.2.2⟩ (fun h' IE => Gz I3 (fun b hb => (Kc b hb).1) I6 IE) g
     exact I3.sz
   . refine eO (Tn.item (dS X scope Nc s3.heap.objs.size s3 (upd H s.heap.objs.size (.lst [])) fp) rfl rfl rfl hc i [] s5 _ H5 _ I5 (stat fr5) Yc go) fun r s6 zz => ?_
     obtain ⟨u, hr, h6⟩ := zz
     subst hr
     refine eO h6 fun _ s7 zz => ?_
     obtain ⟨xv, H7, I7, r7, y7, IG, fr7⟩ := zz
     have I7' := I7.pinned (stat fr7) (Tn.obj _ _ IG)
     obtain ⟨t, hg, ht⟩ := step xv _ y7 s3.heap.objs.size s3 (upd H s.heap.objs.size (.lst [])) fp o5 ol5
     refine eO (hg _ s7 _ H7 xv u _ I7' r7 ht) fun _ s8 zz => ?_
     obtain ⟨σ8, H8, I8, os8, ol8, e8, h8⟩ := zz
     subst e8
     refine eO (JR I8 h8 rfl) fun ok s9 zz => ?_
     obtain ⟨H9, I9, q9⟩ := zz
     have again : ∀ {Ha : Hp} {sa : Shared}, Inv (dS X scope Nc s3.heap.objs.size s3 (upd H s.heap.objs.size (.lst [])) fp) ([] ++ uX fp s7.heap) (GD σ ix os8) Ha sa -> N Ha -> ∃ m, m < n /\ ∃ i o H', o.length = xs.length /\ Inv (dS X scope Nc s3.heap.objs.size s3 (upd H s.heap.objs.size (.lst [])) fp) [] (GD σ ix o) H' sa /\ tn i sa.heap /\ (∀ b ∈ fp, H' b = none) /\ W i m H' := fun {Ha sa} Ia na => by
       obtain ⟨m', hm, wa⟩ := hN Ha na
       refine ⟨m', hm, i + 1, os8, Ha, ol8, Ia.qk, Tn.keep _ _ _ IG fun b hb o e => (Ia.pin (b, o) (ahM _ (ahM _ (k6 hb e)))).1, fun b hb => ?_, wa⟩
       obtain ⟨o, e, d⟩ := Tn.obj _ _ IG b hb
       exact (Ia.pin (b, o) (ahM _ (ahM _ (k6 hb e)))).2.1
     cases ok with
     | false =>
       rw [ahX ah8] at q9 ⊢
       exact again I9 q9
     | true =>
       rw [ah7 rfl] at q9 ⊢
       refine eO (q9 _ s9 I9) fun v sa zz => ?_
       obtain ⟨y, Ha, Ia, ra, acc, Pz, hlen, na⟩ := zz
       refine eO (rT (X := dS X scope Nc s3.heap.objs.size s3 (upd H s.heap.objs.size (.lst [])) fp) _ sa _ Ha (.ref s.heap.objs.size) [y] (.ref s.heap.objs.size) [v] (fun _ Hb => Hb = upd Ha s.heap.objs.size (.lst (acc ++ [y]))) Ia rfl (.cons ra .nil) ⟨_, acc, y, rfl, rfl, Pz, hlen, rfl⟩) fun _ sb zz => ?_
       obtain ⟨_, Hb, Ib, _, eb⟩ := zz
       subst eb
       exact again Ib na
 exact codeAny_compStart_list (Te _ rfl) (Tn.self _ 0 _ _ _ st4 (Te _ rfl))
def GF (ps : List D) : List (Option T) := ps.map fun p => some (.sh p)
theorem xQ : ∀ {ys : List V} {os : List (Option V)} {pre r : L2.St}, os.length = ys.length -> vh (pre ++ (os ++ r)) (List.range' pre.length ys.length) ys = pre ++ (ys.map some ++ r)
 | [], os, pre, r, h => by
   have : os = [] := List.length_eq_zero_iff.mp h
   subst this
   rfl
 | y :: ys, os, pre, r, h => by
   match os, h with
   | o :: os, h =>
     show vh ((pre ++ (o :: (os ++ r))).set pre.length (some y)) (List.range' (pre.length + 1) ys.length) ys = _
     rw [List.set_append_right _ _ (ah0 _), Nat.sub_self, List.set_cons_zero]
     have := xQ (ys := ys) (os := os) (pre := pre ++ [some y]) (r := r) (by simpa using h)
     simp only [ah1, aiR, List.length_nil, ahQ, List.singleton_append] at this
     rw [this]
     simp
theorem PB : ∀ {ps : List D} {ys : List V} {δc : Q.e} {σc : L2.St}, aA K CL Z ps ys -> dJ K CL H Z δc σc [] -> dJ K CL H Z (GF ps ++ δc) (ys.map some ++ σc) [] := fun {ps ys δc σc} h e =>
 aA.ind (P := fun ps ys => dJ K CL H Z (GF ps ++ δc) (ys.map some ++ σc) []) e (fun r _ i => .cons (fp := []) (gp := []) (.sh r) i) h
section
variable {W1 : Hp} {δc : Q.e} {J : It} {ds : List D} {p : D -> Bool} {g : D -> T} {parts : D -> Option (List D)}
def r6 (X : Cx) (CL : Q.d) (scope : Scope) (Nc : List Str) (n : Nat) (tg : Expr) (parts : D -> Option (List D)) (ifs : List Expr) (elt : Expr) (δc : Q.e) (ds : List D) (p : D -> Bool) (g : D -> T) : Prop :=
 ∀ C s0 H0 f0 b', ZF (dS X scope Nc C s0 H0 f0) CL tg (List.range' 0 n) parts /\ ∀ d, d ∈ ds -> ∃ ps, parts d = some ps /\ ps.length = n /\ TIv (dS X scope Nc C s0 H0 f0) CL b' ifs (GF ps ++ δc) (p d) /\ (p d = true -> bI (dS X scope Nc C s0 H0 f0) CL b' elt (GF ps ++ δc) (g d) (GF ps ++ δc))
structure GW (K : Q.h) (CL : Q.d) (H W1 : Hp) (D : Addr) (l : List T) (k : Nat) (H2 Z2 : Hp) (B7 : List V) (fp : List Addr) : Prop where
 a1 : ay H H2
 a2 : ay W1 Z2
 a3 : ay Z2 H2
 a4 : Z2 D = none
 a5 : ∀ a o, Z2 a = some o -> W1 a = none -> H a = none
 a6 : ∀ a o, H2 a = some o -> jd o = true -> Z2 a = some o
 a7 : H2 D = some (.lst B7)
 a8 : aI K CL H2 Z2 l B7 fp
 a9 : fp.Nodup
 b1 : D ∉ fp
 b2 : ∀ a ∈ fp, Z2 a = none /\ H a = none
 b3 : B7.length <= k
theorem vm (S : aY X.K CL b H Z δ σ ts vs) (zw : ay Z W1) (wh : ay W1 H) (tp : ∀ a o, H a = some o -> jd o = true -> W1 a = some o)
   (cap : ∀ H', dJ X.K CL H' W1 δc (ix.map fun i => (σ[i]?).getD none) []) (inner : r6 X CL scope Nc n tg parts ifs elt δc ds p g)
   (hgo : ∀ i H2, ay W1 H2 -> i < ds.length -> J.go i H2)
   (hy : ∀ i Z2 H2 x H', ay W1 Z2 -> ay Z2 H2 -> (∀ a o, H2 a = some o -> jd o = true -> Z2 a = some o) -> i < ds.length -> J.SJ i H2 x H' -> ∃ Z3 d, ds[i]? = some d /\ vg Z2 H2 Z3 H' /\ aV X.K CL Z3 d x)
   (UA : ∀ H2, ay W1 H2 -> J.stop ds.length H2) (hlen : ds.length <= sizeLine) (c : W1 = Z \/ ∀ d ∈ ds, (g d).clean = true) :
   ∀ D, H D = none -> ∃ W : Nat -> Nat -> Hp -> Prop, (∃ m, W 0 m (upd H D (.lst []))) /\ ∀ i m H2, W i m H2 -> (J.stop i H2 /\ ∃ Z2, ay Z Z2 /\ ay H H2 /\ aY X.K CL b H2 Z2 δ σ (.lst ((ds.filter p).map g) :: ts) (.ref D :: vs)) ∨
     (J.go i H2 /\ ∃ N : Hp -> Prop, (∀ H', N H' -> ∃ m', m' < m /\ W (i + 1) m' H') /\ ∀ xv H3, J.SJ i H2 xv H3 -> ∀ C s0 H0 f0 os, os.length = n -> J9 (dS X scope Nc C s0 H0 f0) tg elt ifs n σ ix D N xv os H3) := by
 intro D hD
 have wD : W1 D = none := wh.free hD
 refine ⟨fun i m H2 => m = ds.length - i /\ i <= ds.length /\ ∃ Z2 B7 fp, GW X.K CL H W1 D (((ds.take i).filter p).map g) i H2 Z2 B7 fp, ⟨ds.length, rfl, aiB _, W1, [], [], ay.upd hD, .refl _, wh.trans (ay.upd hD), wD, fun a o q z => ?_, fun a o q i => ?_, aB, .nil, ajn, by simp, by simp, by simp⟩, ?_⟩
 . rw [q] at z; cases z
 . by_cases ha : a = D
   . subst ha; rw [aB] at q; cases q; cases i
   . rw [ao ha] at q; exact tp a o q i
 . rintro i m H2 ⟨rfl, hi, Z2, B7, fp, hh, wz, zh, zD, nw, tp2, hD2, ra, nd, nD, own, hav⟩
   by_cases jD : i < ds.length
   . refine .inr ⟨hgo i H2 (wz.trans zh) jD, fun H' => ∃ Z2 B7 fp, GW X.K CL H W1 D (((ds.take (i + 1)).filter p).map g) (i + 1) H' Z2 B7 fp, fun H' h => ⟨ds.length - (i + 1), by omega, rfl, jD, h⟩, fun xv H3 y C s0 H0 f0 os OU => ?_⟩
     obtain ⟨Z3, d, hd, gr, rd⟩ := hy i Z2 H2 xv H3 wz zh tp2 jD y
     have VC : ∀ a, Z2 a = none -> (∃ o, H2 a = some o) -> Z3 a = none := fun a e ⟨o, e2⟩ => by
       cases q : Z3 a with
       | none => rfl
       | some u => rw [gr.new a u q e] at e2; cases e2
     have nw3 : ∀ a o, Z3 a = some o -> W1 a = none -> H a = none := fun a o q z => by
       cases e : Z2 a with
       | none => exact hh.free (gr.new a o q e)
       | some u =>
         have := gr.z a u e
         rw [q] at this; cases this
         exact nw a o e z
     have VD : aI X.K CL H3 Z3 (((ds.take i).filter p).map g) B7 fp := ra.mono gr.z fun a ha => by
       obtain ⟨o, e⟩ := ra.there a ha
       rw [e]; exact gr.h a o e
     have ow3 : ∀ a ∈ fp, Z3 a = none /\ H a = none := fun a ha => ⟨VC a (own a ha).1 (ra.there a ha), (own a ha).2⟩
     have zD3 : Z3 D = none := VC D zD ⟨_, hD2⟩
     have Tf : H3 D = some (.lst B7) := gr.h D _ hD2
     have Vz := hh.trans gr.h
     have wz3 := wz.trans gr.z
     have zh3 := gr.zh
     have tp3 := gr.tp
     clear own nw ra zD hD2 hh wz zh tp2 gr VC
     have VF : d ∈ ds := ah3 hd
     have htk : ds.take (i + 1) = ds.take i ++ [d] := by rw [aiO, hd]; rfl
     obtain ⟨tgt, wI⟩ := inner C s0 H0 f0 ⟨H3, Z3⟩
     obtain ⟨ps, hps, hpl, it, ie⟩ := wI d VF
     obtain ⟨t, pg, ht⟩ := tgt
     refine ⟨t, pg, ht Z3 H3 d ps xv _ _ zh3 rd hps fun ys rys => ?_⟩
     have hyl : ys.length = n := by rw [← rys.length]; exact hpl
     have es : vh (GD σ ix os) (List.range' 0 n) ys = GD σ ix (ys.map some) := by
       have := xQ (ys := ys) (os := os) (pre := []) (r := ix.map fun i => (σ[i]?).getD none) (by rw [OU, hyl])
       rw [hyl] at this
       exact this
     refine ⟨ys.map some, by rw [ahK]; exact hyl, es, ?_⟩
     rw [es]
     have S0 : aY X.K CL ⟨H3, Z3⟩ H3 Z3 (GF ps ++ δc) (GD σ ix (ys.map some)) [] [] :=
       ⟨⟨[], [], PB rys ((cap H3).mono wz3 fun a ha => by cases ha), .nil, ajn, fun a ha => by cases ha⟩, .refl _, .refl _, zh3, fun a o q z => (by have z' : Z3 a = none := z; rw [show Z3 a = some o from q] at z'; cases z'), tp3, (S.U8.mono zw).mono wz3⟩
     refine it.sem S0 fun H4 Z4 z4 k4 S4 => ?_
     have ac7 : ∀ a ∈ fp, H4 a = H3 a := fun a ha => by
       obtain ⟨o, e⟩ := VD.there a ha
       rw [e]; exact k4 a o e
     have Kd : ∀ a, Z3 a = none -> (∃ o, H3 a = some o) -> Z4 a = none := fun a e ⟨o, e2⟩ => by
       cases q : Z4 a with
       | none => rfl
       | some u =>
         have := S4.new a u q e
         rw [show H3 a = none from this] at e2; cases e2
     cases hp : p d with
     | false =>
       refine Jq ⟨Z4, B7, fp, Vz.trans k4, wz3.trans z4, S4.zh, Kd D zD3 ⟨_, Tf⟩, fun a o q z => ?_, S4.tp, k4 D _ Tf, ?_, nd, nD, fun a ha => ⟨Kd a (ow3 a ha).1 (VD.there a ha), (ow3 a ha).2⟩, by omega⟩
       . cases e : Z3 a with
         | none => exact Vz.free (S4.new a o q e)
         | some u => 
           have := z4 a u e
           rw [q] at this; cases this
           exact nw3 a o e z
       . rw [htk, List.filter_append, List.filter_cons_of_neg (by simp [hp]), List.filter_nil, aip]
         exact VD.mono z4 ac7
     | true =>
       refine Jr ((ie hp) H4 Z4 (GD σ ix (ys.map some)) [] [] _ S4 fun yv H5 Z5 z5 k5 S5 => ⟨B7, k5 D _ (k4 D _ Tf), by omega, ?_⟩)
       obtain ⟨f1, g1, e1, r1, Zo, ZG⟩ := S5.rep
       cases r1 with
       | @cons _ _ _ _ fy fn ry rn =>
         cases rn
         rw [aip] at Zo ZG
         have ndy : fy.Nodup := (ais.mp Zo).2.1
         have PC : ∀ a ∈ fy, Z5 a = none /\ H3 a = none := fun a ha => ZG a (ahM _ ha)
         have CK : ∀ a, Z3 a = none -> (∃ o, H3 a = some o) -> Z5 a = none := fun a e ⟨o, e2⟩ => by
           cases q : Z5 a with
           | none => rfl
           | some u =>
             have := S5.new a u q e
             rw [show H3 a = none from this] at e2; cases e2
         have yD : ∀ a ∈ fy, a ≠ D := fun a ha e => by
           subst e
           rw [(PC a ha).2] at Tf; cases Tf
         have h5D : H5 D = some (.lst B7) := k5 D _ (k4 D _ Tf)
         have sD : ay H (upd H5 D (.lst (B7 ++ [yv]))) := fun a o q => by
           rw [ao (bG q hD)]
           exact k5 a o (k4 a o (Vz a o q))
         refine ⟨Z5, B7 ++ [yv], fp ++ fy, sD, wz3.trans (z4.trans z5), fun a o q => ?_, CK D zD3 ⟨_, Tf⟩, fun a o q z => ?_, fun a o q im => ?_, aB, ?_, ?_, ?_, fun a ha => ?_, ?_⟩
         . rw [ao (bG q (CK D zD3 ⟨_, Tf⟩))]; exact S5.zh a o q
         . cases e : Z3 a with
           | none => exact Vz.free (S5.new a o q e)
           | some u =>
             have := z5 a u (z4 a u e)
             rw [q] at this; cases this
             exact nw3 a o e z
         . by_cases ha : a = D
           . subst ha; rw [aB] at q; cases q; cases im
           . rw [ao ha] at q; exact S5.tp a o q im
         . rw [htk, List.filter_append, List.filter_cons_of_pos hp, List.filter_nil, ah2]
           refine aI.app (VD.mono (z4.trans z5) fun a ha => ?_) (by
             have := aI.cons (fp := fy) (gp := []) (ry.mono (.refl _) fun a ha => ao (yD a ha)) (aI.nil (H := upd H5 D (.lst (B7 ++ [yv]))) (Z := Z5))
             rwa [aip] at this)
           have : a ≠ D := fun e => nD (e ▸ ha)
           rw [ao this]
           obtain ⟨o, e⟩ := VD.there a ha
           rw [e]; exact k5 a o (k4 a o e)
         . refine ais.mpr ⟨nd, ndy, fun a ha a' JB e => ?_⟩
           subst e
           obtain ⟨o, e⟩ := VD.there a ha
           rw [(PC a JB).2] at e; cases e
         . intro h
           rcases ahZ.mp h with h | h
           . exact nD h
           . exact yD D h rfl
         . rcases ahZ.mp ha with h | h
           . exact ⟨CK a (ow3 a h).1 (VD.there a h), (ow3 a h).2⟩
           . exact ⟨(PC a h).1, Vz.free (PC a h).2⟩
         . rw [ah1, List.length_singleton]; omega
   . have e : i = ds.length := by omega
     subst e
     refine .inl ⟨UA H2 (wz.trans zh), ?_⟩
     rw [ai7] at ra
     obtain ⟨Z', z', S'⟩ := S.back (H' := H2) (W := W1) (W' := Z2) (t := .lst ((ds.filter p).map g)) (v := .ref D) (fp := D :: fp) hh zw wz zh nw tp2 (.lst hD2 ra) (aiE.mpr ⟨nD, nd⟩) (fun a ha => by
       rcases ahT.mp ha with h | h
       . subst h; exact ⟨zD, hD⟩
       . exact own a h) (c.imp id fun c => by
         rw [xN]
         exact ve fun d hd => c d (ajr.mp hd).1)
     exact ⟨Z', z', hh, S'⟩
end
variable {δc : Q.e} {ds : List D} {p : D -> Bool} {g : D -> T} {parts : D -> Option (List D)}
theorem xR {J : It} {tn : Nat -> Heap -> Prop} {H1 : Hp} {RR : Value -> Addr -> Result -> Shared -> Prop} {E : Q.k}
   (sc : mS X scope xs Nc ix) (hc : X.calm = true) (C : yS X CL b δ1 σ ts vs Z H ds J H1) (I : L2.Inv X pins σ H1 s) (Tn : Turn X.prog X.w X.K tg J fp it tn) (st : tn 0 s.heap) (hf : ∀ b ∈ fp, tG X pins H1 b)
   (hb : (δc = A6 δ1 ix /\ ∀ d ∈ ds, (g d).clean = true) \/ δc = A7 δ1 ix) (inner : r6 X CL scope Nc xs.length tg parts ifs elt δc ds p g) (hlen : ds.length <= sizeLine)
   (hRR : ∀ D C s' H' Z', (∃ m, s'.heap.Ns C m) -> (∃ o, s'.heap.get? C = some o /\ ∀ v, o.data ≠ .cell v) -> H' C = none -> (C ≠ X.env.locals /\ C ∉ X.fs /\ X.s₀.heap.objs.size <= C /\ (∀ y c, X.env.cells.lookup y = some c -> c ≠ C) /\ ∀ q ∈ X.pn ++ pins, q.1 ≠ C) -> (∀ h', Heap.SameBut C s'.heap h' -> L2.Inv X pins σ H' { s' with heap := h' }) -> ay Z Z' -> ay H H' -> aY X.K CL b H' Z' δ1 σ (.lst ((ds.filter p).map g) :: ts) (.ref D :: vs) -> RR (.ref D) C (.ok .next) s') :
   wpAny Q.f X.A (newList []) (fun acc s₃ => wpAny Q.f X.A (newFunctionEnv scope X.env.globals (gK X.env scope.names []) [] X.env.qual none .none (some X.env)) (fun Ka s₄ =>
     codeAny Q.f X.A (.compStart (.ListComp elt [⟨tg, iter, ifs, 0⟩] scope pos) 0 (.ref it) acc { Ka with scope := relabel scope X.env }) (RR acc Ka.locals) s₄) E s₃) E s := by
 obtain ⟨Z1, z1, k1, S1, go, yl, stp⟩ := C.ex
 have lp : ∀ D, H1 D = none -> ∃ W : Nat -> Nat -> Hp -> Prop, (∃ m, W 0 m (upd H1 D (.lst []))) /\ ∀ i m H2, W i m H2 -> (J.stop i H2 /\ ∃ Z2, ay Z1 Z2 /\ ay H1 H2 /\ aY X.K CL b H2 Z2 δ1 σ (.lst ((ds.filter p).map g) :: ts) (.ref D :: vs)) ∨
     (J.go i H2 /\ ∃ N : Hp -> Prop, (∀ H', N H' -> ∃ m', m' < m /\ W (i + 1) m' H') /\ ∀ xv H3, J.SJ i H2 xv H3 -> ∀ C s0 H0 f0 os, os.length = xs.length -> J9 (dS X scope Nc C s0 H0 f0) tg elt ifs xs.length σ ix D N xv os H3) := by
   rcases hb with ⟨e, cl⟩ | e
   . subst e
     exact vm (W1 := H1) S1 S1.zh (.refl _) (fun _ _ q _ => q) (A8 S1 ix) inner (fun i H2 s => go i H2 (S1.zh.trans s)) (fun i Z2 H2 y H' s => yl i Z2 H2 y H' (S1.zh.trans s)) (fun H2 s => stp H2 (S1.zh.trans s)) hlen (.inr cl)
   . subst e
     exact vm (W1 := Z1) S1 (.refl _) S1.zh S1.tp (A9 S1 ix) inner go yl stp hlen (.inl rfl)
 exact CJ sc hc I Tn st hf lp fun D C s' H' m io nC ch ci ⟨Z', z', k', S'⟩ => hRR D C s' H' Z' m io nC ch ci (z1.trans z') (k1.trans k') S'
theorem sW (sc : mS X scope xs Nc ix) (I : L2.Inv X pins σ H s) : closureFor scope X.env = pure (gK X.env scope.names []) :=
 wY fun y hy e => I.ok.has y.1 (sc.frees y hy e).2
theorem Bh (sc : mS X scope xs Nc ix) (hc : X.calm = true) (h : Td X CL b tg iter δ ds δ1) (hb : (δc = A6 δ1 ix /\ ∀ d ∈ ds, (g d).clean = true) \/ δc = A7 δ1 ix) (inner : r6 X CL scope Nc xs.length tg parts ifs elt δc ds p g) (hlen : ds.length <= sizeLine)
   (hs : ∀ x, foldedSetIterable iter X.env x = pure x := by intro _; rfl) : bI X CL b (.ListComp elt [⟨tg, iter, ifs, 0⟩] scope pos) δ (.lst ((ds.filter p).map g)) δ1 := fun H Z σ ts vs Q S k pins s I => by
 obtain ⟨wi, pi, hw⟩ := h
 rw [eval_ListComp]
 refine wpAny_comprehension_free (use := none) rfl hs (sW sc I) sc.kind sc.names ?_
 refine eO (pi pins s σ H _ I (hw H Z σ ts vs (fun J H1 => yS X CL b δ1 σ ts vs Z H ds J H1) S fun J H1 C => C)) fun v s1 h1 => eO h1 fun itv s2 zz => ?_
 obtain ⟨it, fp, tn, J, H1, e, I1, Tn, st, hf, C⟩ := zz
 subst e
 refine xR (RR := fun acc C => compPost Q.f X.A X.xe none (EP X pins σ Q) acc C) sc hc C I1 Tn st hf hb inner hlen fun D C' s' H' Z' m io nC ch ci z' k' S' => ?_
 obtain ⟨m, hn⟩ := m
 exact ⟨m, hn, fun h' IE => ⟨.ref D, H', ci h' IE, rfl, k _ H' Z' z' k' S'⟩⟩
variable {y : Str}
theorem PD {D : dZ} {py ZH : Pos} (i : Nat) (sc : mS X scope xs Nc ix) (hc : X.calm = true) (h : Td X CL b tg iter δ ds δ1) (hb : (δc = A6 δ1 ix /\ ∀ d ∈ ds, (g d).clean = true) \/ δc = A7 δ1 ix) (inner : r6 X CL scope Nc xs.length tg parts ifs elt δc ds p g) (hlen : ds.length <= sizeLine)
   (k : D.nx (δ1.set i (some (.lst ((ds.filter p).map g))))) (hl : i < δ1.length) (hN : X.N.Nodup) (hi : X.N[i]? = some y) (hx : Loc X.env.scope y) (hf' : X.fn y = true \/ X.env.scope.names.lookup y = some .local)
   (CD : swapsWith (.ListComp elt [⟨tg, iter, ifs, 0⟩] scope pos) (some (.Name y py)) ZH.line X.env = pure true)
   (hs : ∀ x, foldedSetIterable iter X.env x = pure x := by intro _; rfl) : N7 X CL b (.Assign [.Name y py] (.ListComp elt [⟨tg, iter, ifs, 0⟩] scope pos) ZH) δ D := fun H Z σ ts vs E S M pins s I => by
 obtain ⟨wi, pi, hw⟩ := h
 rw [exec_Assign_Name_used _ _ _ _ CD]
 refine ahJ (wpAny_standAt (ahJ ?_))
 show wpAny _ X.A (do let _ ← comprehension (.ListComp elt [⟨tg, iter, ifs, 0⟩] scope pos) scope X.env _ (newList []) false (eval iter X.env) (some (assign (.Name y py) X.env))) _ _ s
 refine ahJ (aja (wpAny_comprehension_free (use := some (assign (.Name y py) X.env)) (Q := fun _ s' => SP X pins E .next s') rfl hs (sW sc I) sc.kind sc.names ?_) (fun _ s' hq => ahO (ahO hq)) fun _ _ e => e)
 refine eO (pi pins s σ H _ I (hw H Z σ ts vs (fun J H1 => yS X CL b δ1 σ ts vs Z H ds J H1) S fun J H1 C => C)) fun v s1 h1 => eO h1 fun itv s2 zz => ?_
 obtain ⟨it, fp, tn, J, H1, e, I1, Tn, st, hf, C⟩ := zz
 subst e
 refine xR (RR := fun acc C => compPost Q.f X.A X.xe (some (assign (.Name y py) X.env)) (fun _ s' => SP X pins E .next s') acc C) sc hc C I1 Tn st hf hb inner hlen fun D' C' s' H' Z' m io nC ch ci z' k' S' => ?_
 obtain ⟨m, hn⟩ := m
 obtain ⟨o, ho, xC⟩ := io
 have I' : L2.Inv X pins σ H' s' := ci s'.heap (.refl ..)
 have I2 : L2.Inv X (pins ++ [(C', o)]) σ H' s' := I'.tU fun q hq => by
   rcases ahZ.mp hq with z | z
   . exact I'.pin q (ahM _ z)
   . have e : q = (C', o) := by simpa using z
     subst e
     exact ⟨ho, nC, ch.1, ch.2.1, xC⟩
 show wpAny _ X.A (assign (.Name y py) X.env (.ref D')) _ _ s'
 have hg : PG X (.Name y py) (sN i) := jS hN hi hx hf'
 refine eO (hg _ s' σ H' (.ref D') (.ref D') (fun σ8 H8 => σ8 = σ.set i (some (.ref D')) /\ H8 = H') I2 rfl ⟨rfl, rfl⟩) fun _ s8 zz => ?_
 obtain ⟨σ8, H8, I8, e8, e8'⟩ := zz
 subst e8
 subst e8'
 obtain ⟨hC8, nC8, _⟩ := I8.pin (C', o) (ahM _ (ahM _ (by simp)))
 refine ⟨m, hn.at' fun o' e' => by rw [ho] at e'; cases e'; exact hC8, fun h' IE => ?_⟩
 have I9 : L2.Inv X pins (σ.set i (some (.ref D'))) _ s8 := I8.tU fun q hq => I8.pin q (ahM _ (ahR _ hq))
 have I10 := I9.turned (it := C') (h' := h') (t' := s8.toks) (fun b o hb e => (IE.2 b hb).trans e) nC8 ch.1.symm.symm (.inr ch.2.2.1) ch.2.2.2.1 ch.2.2.2.2
 exact ⟨_, _, I10, M.nx _ _ _ Z' z' (S'.set hl) k⟩
variable {pos' : Pos}
theorem VG {D : dZ} (gx : Gx X) (n : Ln X i x) (sc : mS X scope xs Nc ix) (h : Td X CL b tg iter δ ds δ1)
   (hb : (δc = A6 δ1 ix /\ ∀ d ∈ ds, (g d).clean = true) \/ δc = A7 δ1 ix) (inner : r6 X CL scope Nc xs.length tg parts ifs elt δc ds p g) (hlen : ds.length <= sizeLine) (k : dh X CL b fC (δ1.set i (some (.lst ((ds.filter p).map g)))) D) (hl : i < δ1.length)
   (CD : swapsWith (.ListComp elt [⟨tg, iter, ifs, 0⟩] scope pc) (some (.Name x pos')) pos.line X.env = pure true \/ swapsWith (.ListComp elt [⟨tg, iter, ifs, 0⟩] scope pc) (some (.Name x pos')) pos.line X.env = pure false) (hs : ∀ x, foldedSetIterable iter X.env x = pure x := by intro _; rfl) :
   dh X CL b (.Assign [.Name x pos'] (.ListComp elt [⟨tg, iter, ifs, 0⟩] scope pc) pos :: fC) δ D := by
 rcases CD with CD | CD
 . exact cC (PD i sc gx.calm h hb inner hlen k hl gx.nd n.hi n.loc n.hf CD hs)
 . exact cC (JQ i (Bh sc gx.calm h hb inner hlen hs) k hl gx.nd n.hi n.loc CD n.hf)
variable {C : Addr}
theorem VH (h1 : Nc[i]? = some x) (h2 : scope.names.lookup x = some .local) (hd : Q.p := by decide) (kE : (x == ("__classdict__" : Str)) = false := by decide) : Ln (dS X scope Nc C s H fp) i x :=
 ⟨cy h1 h2 hd kE, .inl (lookup_relabel_local h2), .inr (lookup_relabel_local h2)⟩
def Ite (K : Q.h) (a : Addr) : It :=
 ⟨fun i H => ∃ xs x, kZ K H a xs /\ xs[i]? = some x, fun i H x H' => ∃ T y, H T = none /\ x = .ref T /\ (∀ xs, kZ K H a xs -> xs[i]? = some y) /\ H' = upd H T (.tup [.int i, y]), fun i H => ∃ xs, kZ K H a xs /\ xs.length <= i⟩
variable {elts : List Expr} {kk : Nat} {pt : Pos}
theorem GH (a e it : Addr) (Ke : e ≠ it) : Turn P w K (.Tuple elts kk pt) (Ite K a) [e, it] e (fun i h => (∃ old, PySem.IsEnum h e it i old) /\ h.IsListIter it a i) where
 mem := by simp
 obj := fun i h st b hb => by
   obtain ⟨⟨old, he⟩, hit⟩ := st
   rcases ahT.mp hb with z | z
   . subst z
     exact ⟨_, he, fun v z => by
       have z' : Data.fields _ = Data.cell v := z
       cases z'⟩
   . have z : b = it := by simpa using z
     subst z
     obtain ⟨o, e, c, d⟩ := hit
     exact ⟨o, e, fun v z => by rw [d] at z; cases z⟩
 keep := fun i h h' st k => by
   obtain ⟨⟨old, he⟩, hit⟩ := st
   exact ⟨⟨old, k e (by simp) _ he⟩, hit.at fun o q => k it (by simp) o q⟩
 item := by
   intro X hP hw hK hc i pins s σ H E I hf st hg
   subst hP hw hK
   obtain ⟨xs, x, hq, hx⟩ := hg
   obtain ⟨its, rv, p, hz⟩ := I.list hq
   obtain ⟨u, hu, ru⟩ := rv.get hx
   obtain ⟨⟨old, he⟩, hit⟩ := st
   have fe := hf e (by simp)
   have fi := hf it (by simp)
   have VJ : H s.heap.objs.size = none := I.cP.fresh (ah0 _)
   have fT := I.wR (ah0 s.heap.objs.size) VJ
   refine PySem.wpAny_pyNext_enum_item he hit p.isList (x := u) (by simpa using hu) Ke fun h' ho GJ hT hsz hk => ⟨_, rfl, ?_⟩
   refine PySem.wpAny_letOwnedTupleGo_enum ho fun h2 he2 wU => ?_
   replace wU : Heap.SameBut e h' h2 := wU
   have eT : e < s.heap.objs.size := aid he
   have keep : ∀ b o, b ≠ e -> b ≠ it -> s.heap.get? b = some o -> h2.get? b = some o := fun b o h1 h3 q => (wU.2 b h1).trans (hk b o h1 h3 q)
   have hT2 : h2.get? s.heap.objs.size = some { cls := .type "tuple", data := .seq #[.int i s.toks, u] } := (wU.2 _ (Nat.ne_of_gt eT)).trans hT
   have nH : ∀ b o, H b = some o -> b ≠ e /\ b ≠ it /\ b ≠ s.heap.objs.size := fun b o q => ⟨fun z => (by rw [z, fe.1] at q; cases q), fun z => (by rw [z, fi.1] at q; cases q), fun z => (by rw [z, VJ] at q; cases q)⟩
   have I' : L2.Inv X pins σ (upd H s.heap.objs.size (.tup [.int i, x])) { s with heap := h2, toks := s.toks + 1 } := by
     refine I.step (g' := s.gens) (d' := s.drawn) (ch := [e, it, s.heap.objs.size]) (fun b hb => ?_) (fun b o _ _ hc q _ => ?_) (fun b o _ _ hc q _ => ⟨o.slots, ?_⟩) (fun b o hc q n => ?_) (fun b o hc q => ⟨o, ?_⟩) (fun b ys q => ?_) (fun b o u q => ?_) (fun b ps q => ⟨#[], ?_⟩) (fun m hm => ?_) (fun b o q => ?_) I.bare
     . rcases ahT.mp hb with z | hb
       . subst z; exact ⟨fe.2.2.2.1, fe.2.1, fe.2.2.2.2.1, fe.2.2.2.2.2⟩
       . rcases ahT.mp hb with z | hb
         . subst z; exact ⟨fi.2.2.2.1, fi.2.1, fi.2.2.2.2.1, fi.2.2.2.2.2⟩
         . have z : b = s.heap.objs.size := by simpa using hb
           subst z; exact ⟨fT.2.2.2.1, fT.2.1, fT.2.2.2.2.1, fT.2.2.2.2.2⟩
     . exact keep b o (fun z => hc (by simp [z])) (fun z => hc (by simp [z])) q
     . exact keep b o (fun z => hc (by simp [z])) (fun z => hc (by simp [z])) q
     . rw [ao (fun z => hc (by simp [z]))]; exact n
     . exact keep b o (fun z => hc (by simp [z])) (fun z => hc (by simp [z])) q
     . rw [ao (nH b _ q).2.2]; exact q
     . rw [ao (nH b _ q).2.2]; exact q
     . rw [ao (nH b _ q).2.2, q]; simp
     . obtain ⟨o, es, ep, ho, r⟩ := hm
       exact ⟨o, es, ep, keep _ o (ajM fe.2.1) (ajM fi.2.1) ho, r⟩
     . by_cases hb : b = s.heap.objs.size
       . subst hb
         rw [aB] at q
         cases q
         exact ⟨ajh (gD (ahS rfl)), [.int i s.toks, u], .cons ⟨s.toks, rfl⟩ (.cons ru .nil), ⟨_, hT2, rfl, _, rfl⟩⟩
       . rw [ao hb] at q
         refine (I.cP b o q).uV (fun c v hc z => keep c v ?_ ?_ z) (fun c z => by rw [ao (nH c _ z).2.2]; exact z) (fun c ys z => by rw [ao (nH c _ z).2.2]; exact z) fun c ys z => by rw [ao (nH c _ z).2.2]; exact z
         . rcases hc with z | z
           . rw [z]; exact (nH b _ q).1
           . exact (nH c _ z).1
         . rcases hc with z | z
           . rw [z]; exact (nH b _ q).2.1
           . exact (nH c _ z).2.1
   have ei : ((i + 1 : Nat) : Int) = (i : Int) + 1 := by omega
   refine ⟨.ref s.heap.objs.size, _, I', rfl, ⟨_, x, VJ, rfl, fun ys hy => by rw [I.AX hy hq]; exact hx, rfl⟩, ⟨⟨u, by rw [ei]; exact he2⟩, GJ.at fun o q => (wU.2 it (ajM Ke)).trans q⟩, fun b hb => ?_⟩
   have hb' := hf b hb
   obtain ⟨o, Oq, _⟩ : ∃ o, s.heap.get? b = some o /\ True := by
     rcases ahT.mp hb with z | z
     . subst z; exact ⟨_, he, trivial⟩
     . have z : b = it := by simpa using z
       subst z
       obtain ⟨o, q, _⟩ := hit
       exact ⟨o, q, trivial⟩
   rw [ao (aiF (aid Oq))]
   exact hb'.1
 done := by
   intro X hP hw hK hc i pins s σ H E I hf st hg
   subst hP hw hK
   obtain ⟨xs, hq, hx⟩ := hg
   obtain ⟨its, rv, p, hz⟩ := I.list hq
   obtain ⟨⟨old, he⟩, hit⟩ := st
   obtain ⟨f0, f1, f2, f3, f4, f5⟩ := hf it (by simp)
   have hl := rv.length
   exact PySem.wpAny_pyNext_enum_end (I.ok.hd hc) he hit p.isList (by simp; omega) fun h' eb => ⟨rfl, I.turned (t' := s.toks) (fun b o hb e => eb b o hb e) f0 f1 f3 f4 f5⟩
 self := fun _ _ _ _ _ st h => by
   obtain ⟨⟨old, he⟩, _⟩ := st
   exact PySem.wpAny_pyIter_enum he h
def ZI (K : Q.h) (ta : TA) : TI := fun σ H R => ta σ H fun vs H1 => ∃ a xs, vs = [.ref a] /\ kZ K H1 a xs /\ R (Ite K a) H1
theorem PF {a : Expr} {ta : TA} {p : Pos} (hg : Gl X "enumerate") (hm : X.mg "enumerate" = none) (ha : PA X [a] ta) (hs : starEach [a] X.env = (false, eval a X.env) :: starEach [] X.env) : PI X (.Tuple elts kk pt) (.Call (.Name "enumerate" p) [a] [] pos) (ZI X.K ta) := by
 intro pins s σ H R I h
 refine Call_ (uW I hg hm boot_enumerate (aj3 (eO (ha pos pins s σ H _ I h) fun us s1 zz => ?_) hs rfl))
 obtain ⟨vs, H1, I1, r1, q1⟩ := zz
 obtain ⟨l, xs, e, hq, q⟩ := q1
 subst e
 cases r1 with
 | cons r rr =>
   cases rr
   cases r
   obtain ⟨its, rv, p, hz⟩ := I1.list hq
   refine PySem.call_enumerate_list p.isList fun h' he hit hsz hk => ?_
   have I2 : L2.Inv X pins σ H1 { s1 with heap := h' } := I1.kept (t' := s1.toks) fun b o e => hk b o e
   refine PySem.wpAny_pyIter_enum he ?_
   refine ⟨s1.heap.objs.size + 1, [s1.heap.objs.size + 1, s1.heap.objs.size], _, _, H1, rfl, I2, GH l _ _ (Nat.succ_ne_self _), ⟨⟨_, he⟩, hit⟩, fun b hb => ?_, q⟩
   rcases ahT.mp hb with z | z
   . subst z
     exact I1.wR (Nat.le_succ _) (I1.cP.fresh (Nat.le_succ _))
   . have z : b = s1.heap.objs.size := by simpa using z
     subst z
     exact I1.wR (ah0 _) (I1.cP.fresh (ah0 _))
def vn (ds : List D) : List D := (List.range ds.length).map fun (i : Nat) => .tup [.int i, ds.getD i .non]
theorem r9 (ds : List D) : (vn ds).length = ds.length := by simp [vn]
theorem GK {ds : List D} {d : D} (h : ds[i]? = some d) : (vn ds)[i]? = some (.tup [.int i, d]) := by
 have hi : i < ds.length := (ahW.mp h).1
 unfold vn
 rw [ahU, aiJ hi]
 show some (D.tup [.int i, ds.getD i .non]) = _
 rw [ahV, h]
 rfl
variable {pr : Pos} {ds : List D}
theorem PJ (hm : X.mg "enumerate" = none) (h : bI X CL b e δ (.sh (.lst ds)) δ1) (hg : Gl X "enumerate") (hs : Q.x := by exact aW rfl) : Td X CL b (.Tuple elts kk pt) (.Call (.Name "enumerate" pr) [e] [] pc) δ (vn ds) δ1 := by
 refine ⟨_, PF hg hm (bL cA c5 hs) hs, fun H Z σ ts vs R S k => h H Z σ ts vs _ S fun v H1 Z1 z1 k1 S1 => ?_⟩
 obtain ⟨fp, gp, _, r, _, _⟩ := S1.rep
 cases r with
 | cons r _ =>
   cases r with
   | sh r =>
     cases r with
     | @lst a us _ hq rr =>
       have hl := rr.length
       refine ⟨a, us, rfl, S1.zh.seq hq, k _ _ ⟨Z1, z1, k1, S1.pop, fun i H2 s hi => ?_, fun i Z2 H2 x H' s1 s2 tp hi hy => ?_, fun H2 s => ?_⟩⟩
       . rw [r9] at hi
         have Vm : i < us.length := by rw [← hl]; exact hi
         exact ⟨us, us[i], s.seq hq, ahN Vm⟩
       . rw [r9] at hi
         obtain ⟨T, y, hT, rfl, hx, rfl⟩ := hy
         obtain ⟨d, hd, rd⟩ := rr.O4 (hx us ((s1.trans s2).seq hq))
         have gr : vg Z2 H2 _ _ := vg.tup (xs := [.int i, y]) s2 tp hT
         exact ⟨_, _, GK hd, gr, .tup (kD.of aB) (.cons (.int _) (.cons ((rd.mono s1).mono gr.z) .nil))⟩
       . rw [r9]
         exact ⟨us, s.seq hq, by rw [← hl]; exact ah0 _⟩
def insI (x : Int) : List Int -> List Int
 | [] => [x]
 | y :: l => if x <= y then x :: y :: l else y :: insI x l
def sortI : List Int -> List Int
 | [] => []
 | x :: l => insI x (sortI l)
theorem insI_perm (x : Int) : ∀ l, (insI x l).Perm (x :: l)
 | [] => .refl _
 | y :: l => by
   rw [insI]
   split
   . exact .refl _
   . exact ((insI_perm x l).cons y).trans (.swap x y l)
theorem sd {l : List Int} (h : aA K CL Z (l.map D.int) us) : us = l.map V.int := by
 refine aA.ind (P := fun ds us => ∀ l : List Int, ds = l.map D.int -> us = l.map V.int) ?_ ?_ h l rfl
 . intro l e
   cases l with
   | nil => rfl
   | cons => cases e
 . intro d v ds vs r _ i l e
   cases l with
   | nil => cases e
   | cons a l =>
     injection e with e1 e2
     subst e1
     rw [i l e2]
     cases r
     rfl
theorem ints_rep {K : Q.h} {Z : Hp} : ∀ (l : List Int), aA K CL Z (l.map D.int) (l.map V.int)
 | [] => .nil
 | _ :: l => .cons (.int _) (ints_rep l)
def D.N8 : L3.D -> L3.D
 | .tup (a :: _) => a
 | d => d
theorem GL (f : α -> L3.D) (z : α) (l : List α) : vn (l.map f) = (List.range l.length).map fun (i : Nat) => L3.D.tup [.int i, f (l.getD i z)] := by
 unfold vn
 rw [ahK]
 apply aik
 intro i hi
 have hi : i < l.length := aiu.mp hi
 have : (l.map f).getD i .non = f (l.getD i z) := by
   rw [ahV, ahV, ahU, ahN hi]
   rfl
 rw [this]
theorem Kf {f : α -> L3.D} {l : List α} (z : α) (hm : X.mg "enumerate" = none) (h : bI X CL b e δ (.sh (.lst (l.map f))) δ1) (hg : Gl X "enumerate") (hs : Q.x := by exact aW rfl) :
   Td X CL b (.Tuple elts kk pt) (.Call (.Name "enumerate" pr) [e] [] pc) δ ((List.range l.length).map fun (i : Nat) => L3.D.tup [.int i, f (l.getD i z)]) δ1 := by
 have := PJ (elts := elts) (kk := kk) (pt := pt) (pr := pr) (pc := pc) hm h hg hs
 rwa [GL f z l] at this
theorem sX : ∀ (l r : List Int), PyData.eqvAll (D.di (l.map L3.D.int)) (D.di (r.map L3.D.int)) = decide (l = r)
 | [], [] => by rw [ajz, D.di, PyData.eqvAll]; rfl
 | [], _ :: _ => by rw [ajz, ah6, D.di, D.di, PyData.eqvAll]; rfl
 | _ :: _, [] => by rw [ajz, ah6, D.di, D.di, PyData.eqvAll]; rfl
 | x :: l, y :: r => by
   rw [ah6, ah6, D.di, D.di, PyData.eqvAll, sX l r, D.toPy, D.toPy, PyData.eqv]
   by_cases e : x = y
   . subst e
     simp
   . have : (x == y) = false := by simpa using e
     rw [this, Bool.false_and, aio (by simp [e])]
theorem Bj (l r : List Int) : rW (.lst (l.map .int)) (.lst (r.map .int)) = decide (l = r) := by
 unfold rW
 rw [D.toPy, D.toPy, PyData.eqv, sX]
variable {ds : List L3.D}
def ZJ (K : Q.h) : R2 := fun x y H Q => ∃ l k xs, x = .ref l /\ y = .int k /\ kZ K H l xs /\ -(2 ^ 63) <= k /\ k < 2 ^ 63 /\ xs.length * k.toNat <= sizeLine ∧
 ∀ p, H p = none -> Q (.ref p) (upd H p (.lst (List.replicate k.toNat xs).flatten))
theorem PK : rM X (binaryOp .Mult) (ZJ X.K) := by
 intro pins s σ H x y v u Q I rx ry h
 obtain ⟨l, k, xs, rfl, rfl, hH, h1, h2, hz, q⟩ := h
 cases rx
 obtain ⟨t, rfl⟩ := ry
 obtain ⟨its, r, pl, _⟩ := I.list hH
 have hl := r.length
 obtain ⟨⟨c1, dd, da1, sl⟩, e, hc, n, hd⟩ := pl.isList
 cases hc; cases hd
 have hlen : its.toArray.size * k.toNat <= sizeLine := by rw [aii, ← hl]; exact hz
 have ada : ¬ its.toArray.size * k.toNat > (2 ^ 63 - 1) / 8 := by
   have : (sizeLine : Nat) <= (2 ^ 63 - 1) / 8 := by decide
   omega
 have adb : ¬ (!Builtin.List.listFitsIndex k) = true := by
   rw [fitsIndex_both h1 h2]
   exact ah8
 have ZK : ¬ Builtin.List.listTooLong (its.toArray.size * k.toNat) = true := by
   rw [Jo hlen]
   exact ah8
 have GN : List.foldl (fun x1 x2 => x1 ++ x2) #[] (List.replicate (if its.toArray.isEmpty = true then 0 else k.toNat) its.toArray) = (List.replicate k.toNat its).flatten.toArray := by
   have f0 : ∀ m : Nat, List.foldl (fun x1 x2 => x1 ++ x2) #[] (List.replicate m its.toArray) = (List.replicate m its).flatten.toArray := fun m => by
     have := foldl_rep its m []
     rw [ajf] at this
     exact this
   rw [f0]
   cases its with
   | nil => simp
   | cons a r' => rw [ahX (by simp)]
 refine wpAny_binaryOp_repeat_ref (T := "list") (U := "int") Q.c ⟨_, e, rfl⟩ (fun s' => typeIs_int s' k t) noFill_list_mul F.fills_int_mul F.slot_int_rmul repeat_list F.slot_int_index.lookup
   (call_meets F.slot_int_rmul (typeIs_int s k t) F.entry_int_rmul (F.args_int_rmul_2 _ _) (lm_int_rmul_list_any k t l its.toArray n dd sl)
     ⟨e, rfl, ⟨_, e, rfl⟩, call_meets F.slot_list_mul ⟨_, e, rfl⟩ F.entry_list_mul (F.args_list_mul_2 _ _) (lm_list_mul_any l its.toArray n dd sl k t adb ada ZK) ⟨e, ?_⟩⟩)
 rw [GN]
 exact ⟨.ref _, _, I.Zg (t' := s.toks) (r.rep k.toNat) (by rw [len_rep, Nat.mul_comm]; exact hz), rfl, q _ I.fresh⟩
theorem aA.rep {K : Q.h} {Z : Hp} {ds : List L3.D} {vs : List V} (r : aA K CL Z ds vs) : ∀ k : Nat, aA K CL Z (List.replicate k ds).flatten (List.replicate k vs).flatten
 | 0 => .nil
 | k + 1 => by
   rw [aiZ, aiZ, ajv, ajv]
   exact aA.app r (aA.rep r k)
theorem PL {k : Int} (h1 : cU X CL b e1 δ (.lst ds) δ1) (h2 : cU X CL b e2 δ1 (.int k) δ2) (i1 : D.bq ds = true) (k1 : -(2 ^ 63) <= k) (k2 : k < 2 ^ 63) (hz : ds.length * k.toNat <= sizeLine) :
   bI X CL b (.BinOp e1 .Mult e2 pos) δ (.lst ((List.replicate k.toNat ds).flatten.map T.sh)) δ2 := fun H Z σ ts vs Q S kk =>
 bN (uY PK cA cA) (h1 H Z σ ts vs _ S fun v1 H1 Z1 z1 q1 S1 r1 => h2 H1 Z1 σ ts vs _ S1 fun v2 H2 Z2 z2 q2 S2 r2 => by
   have Gy := r1.mono q2
   cases Gy with
   | lst J4 Bf =>
     cases r2 with
     | int =>
       refine ⟨_, _, _, rfl, rfl, J4, k1, k2, by rw [← Bf.length]; exact hz, fun p hp => ?_⟩
       have rc := aA.rep (aA.iY S2.tp i1 Bf) k.toNat
       obtain ⟨c, S4⟩ := (aY.pC rc S2).pO (g0 := []) (by rw [ahK, rc.length]) hp
       exact kk _ _ _ (z1.trans z2) (q1.trans (q2.trans c)) S4)
theorem aA.Tg {K : Q.h} {Z : Hp} : ∀ l : List Str, aA K CL Z (l.map .str) (l.map V.str)
 | [] => .nil
 | x :: l => .cons (.str x) (aA.Tg l)
def GT (X : Cx) (x : Str) (l : List Str) : Prop := ∃ a, X.mg x = some (.ref a) /\ ∀ H : Hp, kD X.K H a (l.map V.str)
theorem Kg (hm : GT X x l) (hg : Gl X x) (hd : Q.p := by decide) : bI X CL b (.Name x pos) δ (.sh (.tup (l.map .str))) δ := fun H Z σ ts vs Q S kk => by
 obtain ⟨a, hm, hs⟩ := hm
 exact bN (Eg (v := .ref a) hg hm rfl hd) (kk _ H Z (.refl _) (.refl _) (S.push (.tup (hs Z) (aA.Tg l))))
theorem ZL {od : Option Addr} {its : Array Value} {sl : Array (Option Value)} (h1 : X.mg x = some (.ref a)) (h2 : X.K.lookup a = some ⟨.type "tuple", od, .seq its n, sl⟩) (h3 : its.size <= sizeLine) (h4 : Vals (l.map V.str) its.toList) : GT X x l :=
 ⟨a, h1, fun H => .inr ⟨_, its, n, h2, rfl, rfl, h3, h4⟩⟩
def Ti (x y : Str) : Bool := !(Builtin.Str.occurrences y x 0 y.length 1).isEmpty
def ade : V -> Option Int -> Option Int -> Hp -> VK -> Prop := fun x lo hi H Q => ∃ z, x = .str z /\ z.length <= sizeLine /\ Q (.str (Txt.slice z lo hi)) H
theorem VL : Zc X ade := by
 intro pins s σ H x v vl vu lo hi sl Q I rx hs pl pu h
 obtain ⟨z, rfl, hz, q⟩ := h
 obtain ⟨t, rfl⟩ := rx
 obtain ⟨o, ho, hc, hd⟩ := hs
 have fin : ∀ t' k, EP X pins σ Q (.str (Txt.slice z lo hi) t') { s with toks := k } := fun t' k => ⟨.str _, H, I.tok k, ⟨t', rfl⟩, q⟩
 refine ⟨"str", _, F.slot_str_getitem.lookup, typeIs_str _ _ _, ?_⟩
 cases pl with
 | none =>
   cases pu with
   | none => exact ajL (l := none) (u := none) (st := none) ⟨o, ho, hc, hd⟩ rfl (post_val_or_str ⟨aiD (Txt.slice_le z _ _) hz, fin⟩)
   | int j uj => exact ajL (l := none) (u := some (j, uj)) (st := none) ⟨o, ho, hc, hd⟩ rfl (post_val_or_str ⟨aiD (Txt.slice_le z _ _) hz, fin⟩)
 | int i ui =>
   cases pu with
   | none => exact ajL (l := some (i, ui)) (u := none) (st := none) ⟨o, ho, hc, hd⟩ rfl (post_val_or_str ⟨aiD (Txt.slice_le z _ _) hz, fin⟩)
   | int j uj => exact ajL (l := some (i, ui)) (u := some (j, uj)) (st := none) ⟨o, ho, hc, hd⟩ rfl (post_val_or_str ⟨aiD (Txt.slice_le z _ _) hz, fin⟩)
theorem GO {lo hi : Option Expr} {l h : Option Int} {z : Str} (h1 : cU X CL b e δ (.str z) δ1) (hz : z.length <= sizeLine) (h2 : Tc X CL b lo δ1 l δ2) (h3 : Tc X CL b hi δ2 h δ3) : bI X CL b (.Subscript e (.Slice lo hi none p2) pos) δ (.sh (.str (Txt.slice z l h))) δ3 := fun H Z σ ts vs Q S k => by
 obtain ⟨t2, Zz, w2⟩ := h2
 obtain ⟨t3, ZC, w3⟩ := h3
 refine bN (u9 VL cA Zz ZC) (h1 H Z σ ts vs _ S fun v H1 Z1 z1 k1 S1 r => w2 H1 Z1 σ ts vs _ S1 fun H2 Z2 z2 k2 S2 => w3 H2 Z2 σ ts vs _ S2 fun H3 Z3 z3 k3 S3 => ?_)
 exact ⟨z, r.sc rfl, hz, k _ H3 Z3 (z1.trans (z2.trans z3)) (k1.trans (k2.trans k3)) (S3.push (.str _))⟩
theorem c0 {arg : A -> List L3.D} {Pre : A -> Prop} {res : A -> T} (a : A) (F : Fc X CL x k n arg Pre res) (hg : Gl X x) (ha : arg a = []) (hp : Pre a) (hc : (res a).clean = true) (hn : (arg a).length = n := by rfl)
   (rS : Q.p := by decide) : bI X CL b (.Call (.Name x pp) [] [] pos) δ (res a) δ := by
 obtain ⟨f, fd, ps, F1, m, kk, bb⟩ := F.ex
 intro H Z σ ts vs Q S k
 refine bN (Jf F1 F.room hg m kk bb .nil Es rS) ?_
 refine ⟨H, a, .refl _, fun _ _ q _ => q, by rw [ha]; exact .nil, hn, hp, S.U9, fun v H' W' fp hh ww wh nw tp rt nd own => ?_⟩
 obtain ⟨Z', z', S'⟩ := S.back hh S.zh ww wh nw tp rt nd own (.inr hc)
 exact k v H' Z' z' hh S'
def CM : Key -> D
 | .inl i => .int i
 | .inr x => .str x
variable {gs : List (Key × V)} {kvs : List (Key × D)}
theorem b8.length {kvs : List (Key × D)} (h : b8 K CL Z kvs gs) : kvs.length = gs.length :=
 b8.ind (P := fun kvs gs => kvs.length = gs.length) rfl (fun _ _ i => congrArg (· + 1) i) h
theorem aV.key {k : Key} (r : aV K CL Z (CM k) v) : v = kV k := by
 cases k with
 | inl i => exact r.sc rfl
 | inr x => exact r.sc rfl
theorem PN (k : Key) : aV K CL Z (CM k) (kV k) := by
 cases k with
 | inl i => exact .int i
 | inr x => exact .str x
theorem qB {Z : Hp} : ∀ ks : List Key, aA K CL Z (ks.map CM) (ks.map kV)
 | [] => .nil
 | k :: ks => .cons (PN k) (qB ks)
namespace Rv
theorem GP : Manifest.owners.lookup (String.ofList ['d', 'e', 's', 'r', 'e', 'v', 'e', 'r'].reverse) = some Manifest.sig_reversed := by kernel_rfl
theorem GQ : PySem.Slot "reversed" "__init__" "object.__init__" :=
 .of (owner := "object") (n := "__init__") (by rw [typeLookup_type, builtinLookup_eq_fast]; kernel_rfl) Q.b Q.b Q.b
   (by first | exact .inl Q.b | exact .inr Q.b) (by rw [isSubtype_type]; kernel_rfl)
theorem called : TypeCalled "reversed" "reversed.__new__" "object.__init__" :=
 ⟨by decide +kernel, by decide +kernel, ⟨_, _, PySem.F.mro_reversed⟩, PySem.F.made_reversed, by decide +kernel, PySem.F.sub_reversed_self, GQ⟩
theorem slot_next : PySem.Slot "reversed" "__next__" "reversed.__next__" :=
 .of (owner := "reversed") (n := "__next__") (by rw [typeLookup_type, builtinLookup_eq_fast]; kernel_rfl) Q.b Q.b Q.b
   (by first | exact .inl Q.b | exact .inr Q.b) (by rw [isSubtype_type]; kernel_rfl)
theorem entry_next : entryFor table "reversed.__next__" = some Builtin.«reversed.__next__» := entryFor_of_tree (by kernel_rfl)
theorem args_next (a : Value) : argsOk "reversed.__next__" ⟨[a], []⟩ := by
 unfold argsOk; rw [signature?_of (id := "reversed.__next__") (n := ['_', '_', 't', 'x', 'e', 'n', '_', '_']) (o := ['d', 'e', 's', 'r', 'e', 'v', 'e', 'r']) (by kernel_rfl) GP]; kernel_rfl
def obj (t : Addr) (i : Int) : Obj := { cls := .type "reversed", data := .fields #[.ref t, rawInt i] }
def Is (h : Heap) (a t : Addr) (i : Int) : Prop := ∃ o, h.get? a = some o /\ o.cls = .type "reversed" /\ o.data = .fields #[.ref t, rawInt i]
theorem Is.typeIs {t : Addr} {i : Int} (x : Is s.heap a t i) : s.TypeIs (.ref a) "reversed" := let ⟨o, ho, hc, _⟩ := x; ⟨o, ho, hc⟩
end Rv
namespace Rv
variable {A : Around} {E : Q.k}
theorem next_item {t : Addr} {items : Array Value} {x : Value} {Q : Option Value -> Shared -> Prop} (hit : Is s.heap it t (i : Int)) (ht : IsTup s.heap t items) (Ke : t ≠ it) (hx : items[i]? = some x) (hsz : (items.size : Int) < 2 ^ 63)
   (hQ : ∀ h' tk, Is h' it t ((i : Int) - 1) -> Heap.SameBut it s.heap h' -> Q (some x) { s with heap := h', toks := tk }) : wpAny (model prog w) A (pyNext (.ref it)) Q E s := by
 obtain ⟨o, ho, hc, hd⟩ := id hit
 have hi : i < items.size := (aj9.mp hx).1
 unfold pyNext
 refine ahJ (ajN (aiW (name := Str.ofString "__next__") hit.typeIs slot_next
   (aiG slot_next hit.typeIs entry_next ?_ (args_next _))))
 unfold Builtin.«reversed.__next__»
 refine ahJ (wpAny_of_eq (a := (Value.ref it, [])) rfl ?_)
 try dsimp only
 refine ahJ (aji ho hd (x := .ref t) rfl ?_)
 refine ahJ (aji ho hd (x := rawInt (i : Int)) rfl ?_)
 show wpAny _ _ (if (i : Int) < 0 then _ else _) _ _ s
 rw [ahX Q.a]
 refine ahJ (ajR ht.typeIs PySem.F.slot_tuple_getitem.lookup ?_)
 rw [ahX Q.c]
 refine ahJ (wpAny_mkInt ?_)
 refine ahJ (ajN (getItem_tuple (s := { s with toks := s.toks + 1 }) ht Q.a Q.a (j := i) (by simp [seqIndex?]; omega) hx ?_))
 try dsimp only
 refine ahJ (aji (s := { s with toks := s.toks + 1 }) ho hd (x := rawInt (i : Int)) rfl ?_)
 show wpAny _ _ (setField (.ref it) 1 (rawInt ((i : Int) - 1)) >>= _) _ _ _
 refine ahJ (ajZ (s := { s with toks := s.toks + 1 }) ho hd (by simp) ?_)
 refine ahO ⟨x, rfl, ahO (hQ _ _ ?_ (ai4 ..))⟩
 exact ⟨_, ajD _ ho (Obj.isFreed_of_fields (ajB hd _)), (Obj.cls_mapFields ..).trans hc, by
   rw [ajB hd]; simp⟩
theorem next_end {t : Addr} {Q : Option Value -> Shared -> Prop} (hh : A.handled = none) (hit : Is s.heap it t (-1))
   (hQ : ∀ h', Heap.ExtBut it s.heap h' -> Q none { s with heap := h' }) : wpAny (model prog w) A (pyNext (.ref it)) Q E s := by
 obtain ⟨o, ho, hc, hd⟩ := id hit
 unfold pyNext
 refine ahJ (ajN (aiW (name := Str.ofString "__next__") hit.typeIs slot_next
   (aiG slot_next hit.typeIs entry_next ?_ (args_next _))))
 unfold Builtin.«reversed.__next__»
 refine ahJ (wpAny_of_eq (a := (Value.ref it, [])) rfl ?_)
 try dsimp only
 refine ahJ (aji ho hd (x := .ref t) rfl ?_)
 refine ahJ (aji ho hd (x := rawInt (-1)) rfl ?_)
 show wpAny _ _ (if (-1 : Int) < 0 then _ else _) _ _ s
 rw [ah7 Q.c]
 refine ahJ (wpAny_rule ?_)
 refine ahJ ?_
 refine ahJ (ajZ ho hd (by simp) ?_)
 have IA := ajD (Obj.mapFields fun x => x.setIfInBounds 1 (rawInt (-1))) ho (Obj.isFreed_of_fields (ajB hd _))
 have e1 : Heap.ExtBut it s.heap (s.heap.update it (Obj.mapFields fun x => x.setIfInBounds 1 (rawInt (-1)))) := (ai4 ..).extBut
 refine ajZ IA (ajB hd _) (by simp) ?_
 refine ahJ ?_
 show wpAny _ _ (newExc (.type "StopIteration") [] >>= _) _ _ _
 refine ahJ ?_
 simp only [newExc, newTuple]
 refine ahJ (aiN ?_ (by size_fits))
 refine ahJ (m := firstArgMember _ _) (wpAny_of_eq (a := Value.none) (by first | rfl | (simp only [firstArgMember]; rfl)) ?_)
 refine aiN ?_ (by size_fits)
 simp only [raiseNew]
 refine ahJ (wpAny_handled ?_)
 first | rw [show A.in1.handled = none from hh] | rw [hh]
 refine ahJ (ahO (wpAny_throw ?_))
 refine ahJ (aj4 (T := "StopIteration") (b := true) ⟨_, aif _ rfl, rfl⟩ isSubtype_stop ?_)
 exact ahO (hQ _ fun b o hb e => ah5 _ (ah5 _ ((Heap.get?_update_other _ _ (ajM hb)).trans (e1 b o hb e))))
end Rv
def constInt : Expr -> Option Int
 | .Constant (.int i) _ _ => some i
 | .UnaryOp .USub (.Constant (.int i) _ _) _ => some (-i)
 | _ => none
def se : List Expr -> Option (List Int)
 | [] => some []
 | e :: es => (constInt e).bind fun x => (se es).map (x :: ·)
theorem GR {x : Int} (h : constInt e = some x) : bI X CL b e δ (.sh (.int x)) δ := by
 unfold constInt at h
 split at h
 . cases h; exact aj
 . cases h; exact iZ (ah aj)
 . cases h
theorem Bk {x : Int} (h : constInt e = some x) : notStar e = true := by
 unfold constInt at h
 split at h
 . rfl
 . rfl
 . cases h
theorem yT : ∀ {es : List Expr} {l : List Int}, se es = some l -> Ex X CL b es δ ((l.map D.int).map T.sh) δ
 | [], l, h => by
   have e : l = [] := (aie h).symm
   subst e
   exact fB
 | e :: es, l, h => by
   rw [se] at h
   obtain ⟨x, hx, h⟩ := Option.bind_eq_some_iff.mp h
   obtain ⟨l', hl, rfl⟩ := aib.mp h
   exact cB (GR hx) (yT hl) (aW (Bk hx))
variable {pD : List L3.D}
theorem aY.mz (S : aY K CL b H Z δ σ (.sh d :: ts) (v :: vs)) : aV K CL Z d v := by
 obtain ⟨fp, gp, e0, r0, nd, ow⟩ := S.rep
 cases r0 with
 | cons q1 q2 =>
   cases q1 with
   | sh r => exact r
theorem Kh (h1 : bI X CL b e1 δ (.sh (.tup ds)) δ1) (h2 : bI X CL b e2 δ1 (.sh (.tup pD)) δ2) (n1 : ds ≠ []) (n2 : pD ≠ []) (hz : ds.length + pD.length <= sizeLine) :
   bI X CL b (.BinOp e1 .Add e2 pos) δ (.sh (.tup (ds ++ pD))) δ2 := fun H Z σ ts vs Q S k =>
 bN (uY Eo cA cA) (h1 H Z σ ts vs _ S fun v1 H1 Z1 z1 k1 S1 => h2 H1 Z1 σ _ _ _ S1 fun v2 H2 Z2 z2 k2 S2 => by
   have r2 := S2.mz
   have r1 := S2.pop.mz
   cases r1 with
   | tup J4 Bf =>
     cases r2 with
     | tup Pu AJ =>
       have e1 := Bf.length
       have e2 := AJ.length
       refine ⟨_, _, _, _, rfl, rfl, ay.tY S2.zh J4, ay.tY S2.zh Pu, fun z => n1 (List.eq_nil_of_length_eq_zero (by rw [e1, z]; rfl)), by omega, fun z => absurd (List.eq_nil_of_length_eq_zero (by rw [e2, z]; rfl)) n2, fun _ p hp => ?_⟩
       have rc := aA.app Bf AJ
       obtain ⟨a, c, S4⟩ := (aY.pC rc S2.pop.pop).yN (by simp [rc.length, e1, e2]) hp
       obtain ⟨Z5, z5, S5⟩ := S4.yL
       rw [T.bM, iA] at S5
       exact k _ _ Z5 (z1.trans (z2.trans (a.trans z5))) (k1.trans (k2.trans c)) S5)
variable {ι : Nat -> Nat}
def turned (ι : Nat -> Nat) (i j : Nat) : Nat -> Nat := fun k => if i <= k /\ k < j then ι (i + j - 1 - k) else ι k
theorem mkL (hi : X.N[i]? = some x) (h : X.env.scope.names.lookup x = some .local) (hf : X.fn x = true) (hd : Q.p := by decide) (hc : (x == ("__classdict__" : Str)) = false := by decide) : Ln X i x := ⟨⟨hi, .inl h, hd, hc⟩, .inl h, .inl hf⟩
theorem mkC (hi : X.N[i]? = some x) (h : X.env.scope.names.lookup x = some .cell) (hf : X.fn x = true) (hd : Q.p := by decide) (hc : (x == ("__classdict__" : Str)) = false := by decide) : Ln X i x := ⟨⟨hi, .inr (.inl h), hd, hc⟩, .inr h, .inl hf⟩
variable {px : Pos} {p : L3.D -> Bool} {g : L3.D -> T}
theorem ZM (sc : kK X scope y Nc ix) : mS X scope [y] Nc ix := ⟨sc.kind, sc.yQ, sc.nd, sc.names, (fun x hx => by rw [aiw] at hx; subst hx; exact sc.own), sc.frees, sc.hd, sc.Zv⟩
theorem ZN (sc : kK X scope y Nc ix) (h : Block X CL scope Nc ifs elt δc ds p g) (h1 : (y == ("__debug__" : Str)) = false) (h2 : (y == ("__classdict__" : Str)) = false) : r6 X CL scope Nc [y].length (.Name y px) part1 ifs elt δc ds p g := fun C s0 H0 f0 b' =>
 ⟨J7 (i := 0) sc.nd (VH (by rw [sc.hd]; rfl) sc.own h1 h2), fun d hd => ⟨[d], rfl, rfl, (h C s0 H0 f0 b' d hd).1, (h C s0 H0 f0 b' d hd).2⟩⟩
theorem jg (sc : kK X scope y Nc ix) (hc : X.calm = true) (h : S8 X CL b (.Name y px) iter δ ds δ1) (hb : (δc = A6 δ1 ix /\ ∀ d ∈ ds, (g d).clean = true) \/ δc = A7 δ1 ix) (inner : Block X CL scope Nc ifs elt δc ds p g) (hlen : ds.length <= sizeLine)
   (hs : ∀ x, foldedSetIterable iter X.env x = pure x := by intro _; rfl) (h1 : (y == ("__debug__" : Str)) = false := by decide) (h2 : (y == ("__classdict__" : Str)) = false := by decide) : bI X CL b (.ListComp elt [⟨.Name y px, iter, ifs, 0⟩] scope pos) δ (.lst ((ds.filter p).map g)) δ1 :=
 Bh (xs := [y]) (ZM sc) hc (J6 h) hb (ZN sc inner h1 h2) hlen hs
theorem mU {D : dZ} {gg : L3.D -> T} (g : Gx X) (n : Ln X i x) (sc : kK X scope y Nc ix) (h : S8 X CL b (.Name y px) iter δ ds δ1) (hb : (δc = A6 δ1 ix /\ ∀ d ∈ ds, (gg d).clean = true) \/ δc = A7 δ1 ix) (inner : Block X CL scope Nc ifs elt δc ds p gg)
   (hlen : ds.length <= sizeLine) (k : dh X CL b fC (δ1.set i (some (.lst ((ds.filter p).map gg)))) D) (hl : i < δ1.length)
   (CD : swapsWith (.ListComp elt [⟨.Name y px, iter, ifs, 0⟩] scope pc) (some (.Name x pos')) pos.line X.env = pure true \/ swapsWith (.ListComp elt [⟨.Name y px, iter, ifs, 0⟩] scope pc) (some (.Name x pos')) pos.line X.env = pure false) (hs : ∀ x, foldedSetIterable iter X.env x = pure x := by intro _; rfl)
   (h1 : (y == ("__debug__" : Str)) = false := by decide) (h2 : (y == ("__classdict__" : Str)) = false := by decide) : dh X CL b (.Assign [.Name x pos'] (.ListComp elt [⟨.Name y px, iter, ifs, 0⟩] scope pc) pos :: fC) δ D :=
 VG (xs := [y]) g n (ZM sc) (J6 h) hb (ZN sc inner h1 h2) hlen k hl CD hs
theorem aS (n : Ln X i x) (h : δ[i]? = some (some (.sh d)) := by rfl) : cU X CL b (.Name x pos) δ d δ := ah (v_ n.1 h)
structure cV (X : Cx) : Prop where
 g : Gx X
 u : X.A.units + 64 < cLine
abbrev aH (X : Cx) (CL : Q.d) (b : Bx) (st : Stmt) (N : List Str) (l : List L3.D) (r : T) : Prop := dh X CL b (fq st) (entry N l) { nx := fun _ => r = .sh .non, rt := fun wZ _ => wZ = r }
abbrev az : NameKind := .globalImplicit
abbrev av : NameKind := .local
theorem bD {P : List Str} {sc : Scope} (h1 : sc.kind = .function := by rfl) (h2 : sc.isCoroutine = false := by rfl) (h3 : sc.isGenerator = false := by rfl) (h4 : N.Nodup := by decide +kernel) (h5 : N.take P.length = P := by rfl) (h6 : ∀ x ∈ P, sc.names.lookup x = some .local \/ sc.names.lookup x = some .cell := by decide +kernel) (h7 : ∀ y ∈ sc.names, y.2 ≠ .free := by decide +kernel) : aQ N P sc := ⟨h1, h2, h3, h4, h5, h6, h7⟩
variable {tb : List (Str × NameKind)}
theorem bS (c : mw X.env.scope tb = true) (j : Nat) (hj : tb[j]? = some (x, .local) := by rfl) (hi : X.N[i]? = some x := by rfl) (hf : X.fn x = true := by rfl) (hd : Q.p := by decide) (hc : (x == ("__classdict__" : Str)) = false := by decide) : Ln X i x := mkL hi (ck c j hj) hf hd hc
theorem xS (c : mw X.env.scope tb = true) (j : Nat) (hj : tb[j]? = some (x, .cell) := by rfl) (hi : X.N[i]? = some x := by rfl) (hf : X.fn x = true := by rfl) (hd : Q.p := by decide) (hc : (x == ("__classdict__" : Str)) = false := by decide) : Ln X i x := mkC hi (ck c j hj) hf hd hc
theorem dU (c : mw X.env.scope tb = true) (j : Nat) (hj : tb[j]? = some (x, .globalImplicit) := by rfl) : Gl X x := ck c j hj
theorem dH {m : Nat} {arg : A -> List D} {Pre : A -> Prop} {res : A -> T} (F : ∃ f fd ps, gH X.prog X.w X.K X.mg X.base sR k f fd ps (IC X.K CL n arg Pre res) /\ X.mg x = some (.ref f) /\ PySem.W.keepIn X.K (.ref f) = true /\ Binds X.K fd ps []) (r : fk m X.A) (h : k <= m := by decide) : Fc X CL x k n arg Pre res := ⟨F, r.mono h⟩
variable {δ' : Q.e} {σ' : L2.St} {y : Addr}
theorem aY.ZO (S : aY K CL b H Z δ σ ts vs) (hi : δ[i]? = some (some (.pin y t))) : σ[i]? = some (some (.ref y)) /\ aY K CL b H Z (δ.set i (some t)) σ ts vs := by
 obtain ⟨fp, gp, e, r, nd, k⟩ := S.rep
 obtain ⟨v0, f1, f2, f3, hv, nL, rt, put, _⟩ := e.get hi
 subst nL
 cases rt with
 | pin rt =>
   have e2 := put (.refl _) (fun _ _ => rfl) rt
   rw [fE hv] at e2
   exact ⟨hv, ⟨⟨_, gp, e2, r, nd, k⟩, S.bh, S.zz, S.zh, S.new, S.tp, S.tab⟩⟩
def vo (H : Hp) (gp : List Addr) : Hp := fun c => if c ∈ gp then none else H c
theorem jG {c : Addr} (h : c ∉ gp) : vo H gp c = H c := ahX h
theorem t8 {c : Addr} (h : c ∈ gp) : vo H gp c = none := ah7 h
theorem nP {c : Addr} {o : HO} (h : vo H gp c = some o) : c ∉ gp /\ H c = some o := by
 by_cases hc : c ∈ gp
 . rw [t8 hc] at h; cases h
 . rw [jG hc] at h; exact ⟨hc, h⟩
theorem aY.cut (S : aY K CL b H Z δ σ (tl ++ ts) (us ++ vs)) (hl : tl.length = us.length) : ∃ gp, aI K CL H Z tl us gp /\ gp.Nodup /\ aY K CL b (vo H gp) Z δ σ ts vs := by
 obtain ⟨fp, g, e, r, nd, k⟩ := S.rep
 obtain ⟨g1, g2, rfl, r1, r2⟩ := aI.split hl r
 have hp : (fp ++ (g1 ++ g2)).Perm (g1 ++ (fp ++ g2)) := by
   rw [← ahQ, ← ahQ]
   exact aim.append_right g2
 have EJ := ais.mp (hp.nodup_iff.mp nd)
 have ne : ∀ c ∈ fp ++ g2, c ∉ g1 := fun c hc h => EJ.2.2 c h c hc rfl
 have own : ∀ c ∈ g1, Z c = none /\ b.B c = none := fun c hc => k c (ahM _ (ahR _ hc))
 refine ⟨g1, r1, EJ.1, ⟨⟨fp, g2, e.mono (.refl _) (fun c hc => jG (ne c (ahR _ hc))), r2.mono (.refl _) (fun c hc => jG (ne c (ahM _ hc))), EJ.2.1, fun c hc => k c (hp.mem_iff.mpr (ahM _ hc))⟩, fun c o q => ?_, S.zz, fun c o q => ?_, S.new, fun c o q im => S.tp c o (nP q).2 im, S.tab⟩⟩
 . rw [jG (fun h => by rw [(own c h).2] at q; cases q)]; exact S.bh c o q
 . rw [jG (fun h => by rw [(own c h).1] at q; cases q)]; exact S.zh c o q
theorem aY.ZP {W' : Hp} (S : aY K CL b H Z δ σ ts vs) (hh : ay H H') (ww : ay Z W') (wh : ay W' H') (new : ∀ a o, W' a = some o -> Z a = none -> H a = none)
   (tp : ∀ a o, H' a = some o -> jd o = true -> W' a = some o) (r : aI K CL H' W' tl us fp) (nd : fp.Nodup) (own : ∀ a ∈ fp, W' a = none /\ H a = none) : aY K CL b H' W' δ σ (tl ++ ts) (us ++ vs) := by
 obtain ⟨f0, g0, e0, r0, Vb, k0⟩ := S.rep
 have old : ∀ a ∈ f0 ++ g0, ∃ o, H a = some o := fun a ha => (ahZ.mp ha).elim (e0.there a) (r0.there a)
 have keep : ∀ a ∈ f0 ++ g0, H' a = H a := fun a ha => by
   obtain ⟨o, e⟩ := old a ha
   rw [e]; exact hh a o e
 have hp : (f0 ++ (fp ++ g0)).Perm (fp ++ (f0 ++ g0)) := by
   rw [← ahQ, ← ahQ]
   exact aim.append_right g0
 have wn : ∀ a ∈ f0 ++ g0, W' a = none := fun a ha => by
   cases q : W' a with
   | none => rfl
   | some o =>
     obtain ⟨u, e⟩ := old a ha
     rw [new a o q (k0 a ha).1] at e; cases e
 refine ⟨⟨f0, fp ++ g0, e0.mono ww (fun a ha => keep a (ahR _ ha)), aI.app r (r0.mono ww fun a ha => keep a (ahM _ ha)), ?_, fun a ha => ?_⟩, S.bh.trans hh, S.zz.trans ww, wh, fun a o q z => ?_, tp, S.tab⟩
 . refine hp.nodup_iff.mpr (ais.mpr ⟨nd, Vb, fun a ha c hc e => ?_⟩)
   subst e
   obtain ⟨o, q⟩ := old a hc
   rw [(own a ha).2] at q; cases q
 . rcases ahZ.mp (hp.mem_iff.mp ha) with h | h
   . exact ⟨(own a h).1, Cy S.bh (own a h).2⟩
   . exact ⟨wn a h, (k0 a h).2⟩
 . cases q2 : Z a with
   | none => exact Cy S.bh (new a o q q2)
   | some u =>
     exact S.new a u q2 z
def PR : List T -> List T -> Prop
 | [], [] => True
 | .sh d :: l, .sh e :: m => d = e /\ PR l m
 | .pin x _ :: l, .pin z _ :: m => x = z /\ PR l m
 | _, _ => False
def Keeps (δ : Q.e) (ol : List T) : Prop := ∀ (j : Nat) (y : Addr) (t : T), ol[j]? = some (T.pin y t) -> δ[j]? = some (some (T.pin y t))
theorem Keeps.tail {o : Option T} {d : T} {ol : List T} (k : Keeps (o :: δ) (d :: ol)) : Keeps δ ol := fun j y t h => k (j + 1) y t h
theorem dJ.outs {W W' : Hp} (ww : ay W W') : ∀ {al ol : List T} {vs : List V} {g0 : List Addr} {δ : Q.e} {σ : L2.St} {fp : List Addr}, PR al ol -> aI K CL H W al vs g0 -> dJ K CL H' W' δ σ fp -> Keeps δ ol -> ∃ g, aI K CL H' W' ol vs g /\ g.Sublist fp
 | [], [], _, _, _, _, fp, _, .nil, _, _ => ⟨[], .nil, List.nil_sublist _⟩
 | .sh d :: al, .sh e :: ol, _, _, δ, σ, fp, ho, .cons (.sh r) rs, re, k => by
   obtain ⟨h1, h2⟩ := ho
   subst h1
   cases re with
   | nil =>
     obtain ⟨g, q, s⟩ := dJ.outs ww h2 rs (.nil (H := H') (Z := W')) (fun j y t h => by have := k (j + 1) y t h; simp at this)
     exact ⟨[] ++ g, .cons (.sh (r.mono ww)) q, s⟩
   | skip re =>
     obtain ⟨g, q, s⟩ := dJ.outs ww h2 rs re k.tail
     exact ⟨[] ++ g, .cons (.sh (r.mono ww)) q, s⟩
   | cons rt re =>
     obtain ⟨g, q, s⟩ := dJ.outs ww h2 rs re k.tail
     exact ⟨[] ++ g, .cons (.sh (r.mono ww)) q, s.trans (aiQ _ _)⟩
 | .pin x t0 :: al, .pin z t :: ol, _, _, δ, σ, fp, ho, .cons (.pin r) rs, re, k => by
   obtain ⟨h1, h2⟩ := ho
   subst h1
   have h0 := k 0 x t rfl
   cases re with
   | nil => simp at h0
   | skip re => simp at h0
   | cons rt re =>
     simp at h0
     subst h0
     obtain ⟨g, q, s⟩ := dJ.outs ww h2 rs re k.tail
     cases rt with
     | pin rt => exact ⟨_, .cons (.pin rt) q, air (aiv _) s⟩
def yU (N : List Str) (al : List T) : List (Option T) := al.map some ++ List.replicate (N.length - al.length) none
theorem sY : ∀ {al : List T} {vs : List V} {gp : List Addr} (n : Nat), aI K CL H Z al vs gp -> dJ K CL H Z (al.map some ++ List.replicate n none) (vs.map some ++ List.replicate n none) gp
 | _, _, _, n, .nil => jC (ds := []) (vs := []) n .nil
 | _, _, _, n, .cons r t => .cons r (sY n t)
def ZQ (K : Q.h) (CL : Q.d) (n : Nat) (arg : A -> List T) (Pre : A -> Prop) (res : A -> T) (out : A -> List T) : Sp := fun vs H Q _ =>
 ∃ (W : Hp) (a : A) (gp : List Addr), ay W (vo H gp) /\ (∀ c o, H c = some o -> jd o = true -> W c = some o) /\ aI K CL H W (arg a) vs gp /\ gp.Nodup /\ (arg a).length = n /\ Pre a /\ k8 CL W ∧
   ∀ v H' W' fp, ay (vo H gp) H' -> ay W W' -> ay W' H' -> (∀ c o, W' c = some o -> W c = none -> vo H gp c = none) -> (∀ c o, H' c = some o -> jd o = true -> W' c = some o) →
     aI K CL H' W' (res a :: out a) (v :: vs) fp -> fp.Nodup -> (∀ c ∈ fp, W' c = none /\ vo H gp c = none) -> Q v H'
theorem Kl {mg : Str -> Option Value} {base : Heap} {qual : Str} {arg : A -> List T} {Pre : A -> Prop} {res : A -> T} {out : A -> List T} (F : kG K x qual st f fd) (S : aQ N ps (au st)) (ho : ∀ a, Pre a -> PR (arg a) (out a))
   (hb : ∀ (i7 : Value) (Ar : Around) (outer : List Env) (s : Shared) (H : Hp) (E : XK) (b : Bx) (a : A), fk k (Ar.deeper (envOfC qual (au st) s.heap.objs.size f i7)) -> Pre a →
     dh (u5 sR P w K mg base N qual (au st) f i7 Ar outer s H E).Ov CL b (fq st) (yU N (arg a)) { nx := fun δ => res a = .sh .non /\ Keeps δ (out a), rt := fun t δ => t = res a /\ Keeps δ (out a) }) :
   gH P w K mg base sR (k + 1) f fd ps (ZQ K CL ps.length arg Pre res out) := by
 refine F.ok S (fun vs H Q E h => ?_) (fun i7 Ar outer s H vs Q E hr h => ?_)
 . obtain ⟨W, a, gp, _, _, r, _, hl, _⟩ := h
   rw [← r.length]; exact hl
 . obtain ⟨W, a, gp, wh, tp, r, nd, hl, hp, tb, kk⟩ := h
   have wn : ∀ c ∈ gp, W c = none := fun c hc => by
     cases q : W c with
     | none => rfl
     | some o => exact absurd hc (nP (wh c o q)).1
   refine ⟨_, JA, hb i7 Ar outer s H E ⟨vo H gp, W⟩ a hr hp H W _ [] [] _ ⟨⟨gp, [], ?_, .nil, by rw [aip]; exact nd, fun c hc => ?_⟩, fun c o q => (nP q).2, .refl _, fun c o q => (nP (wh c o q)).2, fun c o q z => ?_, tp, tb⟩ ⟨fun δ' σ' H' Z' s' S' e => ?_, fun t v H' Z' δ' σ' s' S' e => ?_, fun _ _ _ _ _ _ e => e.elim, fun _ _ _ _ _ _ e => e.elim⟩⟩
   . unfold yU L2.start
     rw [← r.length]
     exact sY _ r
   . rw [aip] at hc
     exact ⟨wn c hc, t8 hc⟩
   . have q' : W c = some o := q
     have z' : W c = none := z
     rw [q'] at z'; cases z'
   . obtain ⟨e1, e2⟩ := e
     obtain ⟨fp, gq, re, r', EJ, own⟩ := S'.rep
     obtain ⟨g, q, sb⟩ := dJ.outs S'.zz (ho a hp) r re e2
     have nf := (ais.mp EJ).1
     exact kk .non H' Z' ([] ++ g) S'.bh S'.zz S'.zh S'.new S'.tp (.cons (by rw [e1]; exact .sh .non) q) (nf.sublist sb) fun c hc => own c (ahR _ (sb.subset hc))
   . obtain ⟨e1, e2⟩ := e
     subst e1
     obtain ⟨fp, gq, re, r', EJ, own⟩ := S'.rep
     obtain ⟨g, q, sb⟩ := dJ.outs S'.zz (ho a hp) r re e2
     cases r' with
     | @cons _ _ _ _ f1 f2 r1 r2 =>
       have sub : (g ++ f1).Sublist (fp ++ (f1 ++ f2)) := air sb (List.sublist_append_left _ _)
       have pm : (f1 ++ g).Perm (g ++ f1) := aim
       exact kk v H' Z' (f1 ++ g) S'.bh S'.zz S'.zh S'.new S'.tp (.cons r1 q) (pm.nodup_iff.mpr (EJ.sublist sub)) fun c hc => own c (sub.subset (pm.mem_iff.mp hc))
def AtS (σ : L2.St) : List Nat -> List Addr -> Prop
 | [], [] => True
 | i :: is, y :: ys => σ[i]? = some (some (.ref y)) /\ AtS σ is ys
 | _, _ => False
def qC : List T -> List Addr -> List T -> Prop
 | [], [], [] => True
 | .sh _ :: ol, ys, ns => qC ol ys ns
 | .pin y t :: ol, z :: ys, n :: ns => y = z /\ (n = t \/ n = .pin y t) /\ qC ol ys ns
 | _, _, _ => False
def PV : List (Option T) -> List Nat -> List T -> List (Option T)
 | δ, i :: is, n :: ns => PV (δ.set i (some n)) is ns
 | δ, _, _ => δ
theorem aY.VM : ∀ {ol : List T} {us : List V} {is : List Nat} {ys : List Addr} {ns : List T} {δ : Q.e}, aY K CL b H Z δ σ (ol ++ ts) (us ++ vs) -> ol.length = us.length -> AtS σ is ys -> qC ol ys ns -> (∀ i ∈ is, i < δ.length) -> aY K CL b H Z (PV δ is ns) σ ts vs
 | [], [], [], [], [], δ, S, _, _, _, _ => S
 | [], [], _ :: _, [], _, δ, S, _, ha, _, _ => ha.elim
 | [], [], _ :: _, _ :: _, _, δ, S, _, _, hp, _ => by simp [qC] at hp
 | .pin _ _ :: _, _ :: _, [], _ :: _, _, δ, S, _, ha, _, _ => ha.elim
 | .pin _ _ :: _, _ :: _, [], [], _, δ, S, _, _, hp, _ => by simp [qC] at hp
 | .sh d :: ol, u :: us, is, ys, ns, δ, S, hl, ha, hp, hi => aY.VM (ol := ol) (us := us) (ys := ys) S.pop (by simpa using hl) ha (by rw [qC] at hp; exact hp) hi
 | .pin y t :: ol, u :: us, i :: is, z :: ys, n :: ns, δ, S, hl, ha, hp, hi => by
   rw [qC] at hp
   obtain ⟨rfl, hn, hp⟩ := hp
   obtain ⟨ha0, ha⟩ := ha
   have hu : u = .ref y := by
     obtain ⟨_, _, _, r, _, _⟩ := S.rep
     cases r with
     | cons r _ => cases r; rfl
   subst hu
   have hi0 := hi i ahL
   have S1 := S.set hi0
   rw [fE ha0] at S1
   have S2 : aY K CL b H Z (δ.set i (some n)) σ (ol ++ ts) (us ++ vs) := by
     rcases hn with rfl | rfl
     . have := (S1.ZO (List.getElem?_set_self hi0)).2
       rwa [List.set_set] at this
     . exact S1
   rw [PV]
   exact aY.VM S2 (by simpa using hl) ha hp fun j hj => by rw [List.length_set]; exact hi j (List.mem_cons_of_mem _ hj)
section
variable {D : dZ} {is : List Nat} {fx : List Addr -> Prop} {al : List Addr -> List T}
def ZR (X : Cx) (CL : Q.d) (b : Bx) (e : Expr) (δ : Q.e) (t : T) (δ' : Q.e) : Prop :=
 ∀ (H Z : Hp) (σ : L2.St) (ts : List T) (vs : List V) (Q : VK), aY X.K CL b H Z δ σ ts vs -> (∀ v H' Z', ay Z Z' -> aY X.K CL b H' Z' δ' σ (t :: ts) (v :: vs) -> Q v H') -> Cu X e σ H Q
theorem Km (h : ZR X CL b e δ t δ1) (k : D.nx δ1) (hs : swapsWith e none pos.line X.env = pure false := by rfl) : N7 X CL b (.Expr e pos) δ D := fun H Z σ ts vs E S M => pe (yu cA hs) (h H Z σ ts vs _ S fun v H1 Z1 z1 S1 => M.nx δ1 σ H1 Z1 z1 S1.pop k)
def VN (X : Cx) (CL : Q.d) (b : Bx) (es : List Expr) (δ : Q.e) (is : List Nat) (fx : List Addr -> Prop) (al : List Addr -> List T) (δ' : Q.e) : Prop :=
 ∀ (H Z : Hp) (σ : L2.St) (ts : List T) (vs : List V) (Q : List V -> Hp -> Prop), aY X.K CL b H Z δ σ ts vs →
   (∀ ys us H' Z', ys.length = is.length -> AtS σ is ys -> fx ys -> us.length = (al ys).length -> ay Z Z' -> ay H H' -> aY X.K CL b H' Z' δ' σ ((al ys).reverse ++ ts) (us.reverse ++ vs) -> Q us H') -> Jy X es σ H Q
theorem CN : VN X CL b [] δ [] (fun _ => True) (fun _ => []) δ := fun H Z σ ts vs Q S k => Cw c5 (k [] [] H Z rfl trivial trivial rfl (.refl _) (.refl _) S)
theorem ZS (h1 : bI X CL b e δ (.sh d) δ1) (h2 : VN X CL b es δ1 is fx al δ2) (hs : Q.w := by exact aW rfl) : VN X CL b (e :: es) δ is fx (fun ys => .sh d :: al ys) δ2 := fun H Z σ ts vs Q S k =>
 Cw (bL cA IB hs) (h1 H Z σ ts vs _ S fun v H1 Z1 z1 k1 S1 => h2 H1 Z1 σ _ _ _ S1 fun ys us H2 Z2 hy ha hf hl z2 k2 S2 => k ys (v :: us) H2 Z2 hy ha hf (by simp [hl]) (z1.trans z2) (k1.trans k2) (by
   rw [aiU, aiU, ahQ, ahQ]
   exact S2))
def T.isRef : T -> Bool
 | .lst _ => true
 | .ins _ _ => true
 | .oZ _ => true
 | .dct _ => true
 | _ => false
theorem aY.VP (S : aY K CL b H Z δ σ (t :: ts) (v :: vs)) (h : t.isRef = true) : ∃ y, v = .ref y /\ aY K CL b H Z δ σ (.pin y t :: ts) (.ref y :: vs) := by
 obtain ⟨fp, gp, e, r, nd, k⟩ := S.rep
 cases r with
 | cons r rs =>
   cases r with
   | sh r => cases h
   | tup r _ => cases h
   | pin r => cases h
   | jc r _ => cases h
   | lst r q => exact ⟨_, rfl, ⟨⟨fp, _, e, .cons (.pin (.lst r q)) rs, nd, k⟩, S.bh, S.zz, S.zh, S.new, S.tp, S.tab⟩⟩
   | ins r q => exact ⟨_, rfl, ⟨⟨fp, _, e, .cons (.pin (.ins r q)) rs, nd, k⟩, S.bh, S.zz, S.zh, S.new, S.tp, S.tab⟩⟩
   | oZ r q => exact ⟨_, rfl, ⟨⟨fp, _, e, .cons (.pin (.oZ r q)) rs, nd, k⟩, S.bh, S.zz, S.zh, S.new, S.tp, S.tab⟩⟩
   | dct r q => exact ⟨_, rfl, ⟨⟨fp, _, e, .cons (.pin (.dct r q)) rs, nd, k⟩, S.bh, S.zz, S.zh, S.new, S.tp, S.tab⟩⟩
theorem xT (n : Vn X i x) (h : δ[i]? = some (some t)) (ho : t.isRef = true) (h2 : VN X CL b es (δ.set i none) is fx al δ2) (hs : starEach (.Name x pos :: es) X.env = (false, eval (.Name x pos) X.env) :: starEach es X.env := by exact aW rfl) :
   VN X CL b (.Name x pos :: es) δ (i :: is) (fun ys => fx ys.tail) (fun ys => .pin (ys.headD 0) t :: al ys.tail) δ2 := fun H Z σ ts vs Q S k => by
 obtain ⟨v, e, S1⟩ := S.move h
 obtain ⟨y, rfl, S0⟩ := S1.VP ho
 exact Cw (bL (iX n.hi n.hv n.hd n.kE) IB hs) ⟨_, e, h2 H Z σ _ _ _ S0 fun ys us H2 Z2 hy ha hf hl z2 k2 S2 => k (y :: ys) (.ref y :: us) H2 Z2 (by simp [hy]) ⟨e, ha⟩ hf (by simp [hl]) z2 k2 (by
   show aY _ _ _ _ _ _ _ ((T.pin y t :: al ys).reverse ++ ts) _
   rw [aiU, aiU, ahQ, ahQ]
   exact S2)⟩
theorem Kn {arg : A -> List T} {Pre : A -> Prop} {res : A -> T} {out : A -> List T} (a : List Addr -> A) (ns : List T) (F : gH X.prog X.w X.K X.mg X.base sR k f fd ps (ZQ X.K CL n arg Pre res out)) (hr : fk k X.A) (hm : X.mg x = some (.ref f)) (hk : PySem.W.keepIn X.K (.ref f) = true) (hb : Binds X.K fd ps [])
   (h : VN X CL b (e :: es) δ is fx al δ1) (ha : ∀ ys, ys.length = is.length -> fx ys -> arg (a ys) = al ys /\ (arg (a ys)).length = n /\ Pre (a ys) /\ res (a ys) = t /\ qC (out (a ys)) ys ns) (Ko : ∀ i ∈ is, i < δ1.length) (hg : Gl X x)
   (rS : Q.p := by decide) (he : Q.w := by exact aW rfl) (hpl : (backTo pos (starEach es X.env)).any (·.1) = false := by rfl) :
   ZR X CL b (.Call (.Name x pp) (e :: es) [] pos) δ t (PV δ1 is ns) := fun H Z σ ts vs Q S kk =>
 bN (Ej F hr hg hm hk hb .nil Es IB rS he hpl) (h H Z σ ts vs _ S fun ys us H1 Z1 hly w4 hf hlu z1 k1 S1 => by
   rw [aip]
   obtain ⟨ha1, ha2, hp, hrs, hpu⟩ := ha ys hly hf
   obtain ⟨g, r, nd, S2⟩ := S1.cut (by simp [hlu])
   obtain ⟨g', r', pm⟩ := r.rev
   have ec : vo H1 g = vo H1 g' := funext fun c => by
     by_cases hc : c ∈ g
     . rw [t8 hc, t8 (pm.mem_iff.mpr hc)]
     . rw [jG hc, jG (fun z => hc (pm.mem_iff.mp z))]
   rw [ec] at S2
   rw [← ha1] at r'
   refine ⟨Z1, a ys, g', S2.zh, S1.tp, r', pm.nodup_iff.mpr nd, ha2, hp, S1.U8, fun v H' W' fp hh ww wh nw tp rt EJ own => ?_⟩
   cases rt with
   | @cons _ _ _ _ f1 f2 q1 q2 =>
     have JH : (f2 ++ (f1 ++ [])).Perm (f1 ++ f2) := by rw [aip]; exact aim
     have S3 := S2.ZP hh ww wh nw tp (aI.app q2 (.cons q1 .nil)) (JH.nodup_iff.mpr EJ) fun c hc => own c (JH.mem_iff.mp hc)
     rw [ahQ, ahQ] at S3
     have S4 := S3.VM q2.length w4 hpu Ko
     rw [hrs] at S4
     exact kk v H' W' (z1.trans ww) S4)
structure FcM (X : Cx) (CL : Q.d) (x : Str) (k n : Nat) {A : Type} (arg : A -> List T) (Pre : A -> Prop) (res : A -> T) (out : A -> List T) : Prop where
 ex : ∃ f fd ps, gH X.prog X.w X.K X.mg X.base sR k f fd ps (ZQ X.K CL n arg Pre res out) /\ X.mg x = some (.ref f) /\ PySem.W.keepIn X.K (.ref f) = true /\ Binds X.K fd ps []
 room : fk k X.A
theorem t9 (h : ZR X CL b e δ t δ1) (k : dh X CL b fC δ1 D) (hs : swapsWith e none pos.line X.env = pure false := by rfl) : dh X CL b (.Expr e pos :: fC) δ D := cC (Km h k hs)
end
def adk (y : Int) : Value -> Bool
 | .int i _ => i == y
 | _ => false
theorem Kp : MtR X "list.index" (fun x xs H Q => ∃ (p : Addr) (l : List Int) (y : Int) (j : Nat), x = .ref p /\ xs = [.int y] /\ kZ X.K H p (l.map .int) /\ l[j]? = some y /\ (∀ i, i < j -> l[i]? ≠ some y) /\ Q (.int (j : Int)) H) := by
 intro pins s σ H x xs v us Q I rx rs h
 obtain ⟨p, l, y, j, rfl, rfl, hq, hj, En, q⟩ := h
 cases rx
 obtain ⟨u, rfl, ru⟩ := rs.one
 obtain ⟨t, rfl⟩ := ru
 obtain ⟨its, r, ⟨⟨oc, od, oda, Jh⟩, n, e, hc, hd, hs⟩, hz⟩ := I.list hq
 dsimp only at hc hd hs
 subst hc hd hs
 have hi := intsAre_of r
 have at' : ∀ {i : Nat} (hi : i < its.toArray.size), ∃ k t, its.toArray[i] = .int k t /\ l[i]? = some k := fun {i} jD => by
   have adl : i < its.length := by simpa using jD
   have hl : i < l.length := by have := r.length; rw [ahK] at this; omega
   obtain ⟨u, e1, e2⟩ := r.get (i := i) (x := .int l[i]) (by rw [ahU, ahN hl]; rfl)
   obtain ⟨t, rfl⟩ := e2
   refine ⟨l[i], t, ?_, ahN hl⟩
   rw [ahN adl] at e1
   simpa using Option.some.inj e1
 have CP : j < its.toArray.size := by
   have h1 := (ahW.mp hj).1
   have := r.length
   rw [ahK] at this
   simp; omega
 have hsz : its.toArray.size <= sizeLine := by
   have := r.length
   rw [aii, ← this]; exact hz
 refine call_meets F.slot_list_index ⟨_, e, rfl⟩ F.entry_list_index (F.args_list_index_2 _ _) (SeqAt.list_indexAt p its.toArray n none Jh (.int y t) (adk y) j CP (by rw [aic] at hsz; omega) ?hit fun m hm hmj => ?no) ⟨e, fun w hw => ?eqs, ?_⟩
 case hit =>
   obtain ⟨k, t', e1, e2⟩ := at' CP
   rw [e1]
   rw [hj] at e2
   cases e2
   exact ajk y
 case no =>
   obtain ⟨k, t', e1, e2⟩ := at' hm
   rw [e1]
   exact aiY.mpr fun z => En m hmj (by rw [e2, z])
 case eqs =>
   obtain ⟨i, jD, rfl⟩ := Array.mem_iff_getElem.mp hw
   obtain ⟨k, t', e1, e2⟩ := at' jD
   rw [e1]
   exact SeqAt.EqAt.int_int k t' y t
 exact ⟨.int (j : Int), H, I.tok _, ⟨_, rfl⟩, q⟩
variable {o : Expr} {apos : Pos}
theorem vp {l : List Int} {y : Int} (h1 : cU X CL b o δ (.lst (l.map .int)) δ1) (h2 : cU X CL b e δ1 (.int y) δ2) (hj : l[j]? = some y) (En : ∀ i, i < j -> l[i]? ≠ some y)
   (fU : attributeBase o "index" X.env (eval o X.env) = eval o X.env := by rfl) (mH : ((backTo pos (starEach [e] X.env)).all (fun x => !x.1) && (backToKw pos (keywordEach [] X.env)).all (fun x => x.1.isSome)
     && decide (([e] : List Expr).length + ([] : List Keyword).length + (if ([] : List Keyword).isEmpty then 0 else 1) < 30)) = true := by rfl)
   (hline : (apos.endLine == pos.line) = true := by rfl) (hs : Q.x := by exact aW rfl) (jz : (backTo pos (starEach [] X.env)).any (·.1) = false := by rfl) :
   bI X CL b (.Call (.Attribute o "index" apos) [e] [] pos) δ (.sh (.int (j : Int))) δ2 := fun H Z σ ts vs Q S k =>
 bN (Jm (T := "list") (id := "list.index") F.plainAttrs_list F.slot_list_index F.type_list_index Kp cA (bL cA c5 hs) fU mH hline hs jz) (h1 H Z σ ts vs _ S fun v1 H1 Z1 z1 k1 S1 r1 => by
   cases r1 with
   | @lst a us _ hq rr =>
     have := sd rr
     subst this
     refine ⟨?_, h2 H1 Z1 σ ts vs _ S1 fun v2 H2 Z2 z2 k2 S2 r2 => ?_⟩
     . exact .inl ⟨rfl, _, hq⟩
     . cases r2
       exact ⟨a, l, y, j, rfl, rfl, k2.seq hq, hj, En, k _ H2 Z2 (z1.trans z2) (k1.trans k2) (S2.push (.int _))⟩)
theorem Bl : bootBuiltins "range" = some (.type "range") := Q.i
theorem Bm : g8 X (.type "range") (fun xs H Q => ∃ n, xs = [.int n] /\ ∀ r, H r = none -> Q (.ref r) (upd H r (.Ue 0 n))) := by
 intro pins s σ H xs us Q I r h
 obtain ⟨n, rfl, q⟩ := h
 obtain ⟨u, rfl, ru⟩ := vals1 r
 obtain ⟨t, rfl⟩ := ru
 exact call_range_1 ⟨.ref s.heap.objs.size, _, I.laid (t' := s.toks + 1 + 1) (o := .Ue 0 n) (fun b o e => ah5 _ e) (ah0 _) ⟨_, _, _, aif _ rfl⟩, rfl, q _ (I.cP.fresh (ah0 _))⟩
theorem xU : ∀ (l : List Value) (k : Nat), (∀ j v, l[j]? = some v -> ∃ t, v = Value.int ((k + j : Nat) : Int) t) -> Vals ((List.range' k l.length).map fun (i : Nat) => V.int (i : Int)) l
 | [], _, _ => .nil
 | v :: l, k, h => by
   rw [aiR, List.range'_succ, ah6]
   refine .cons (h 0 v rfl) (xU l (k + 1) fun j w e => ?_)
   obtain ⟨t, ht⟩ := h (j + 1) w (by simpa using e)
   exact ⟨t, by rw [ht]; congr 1; omega⟩
theorem CQ {acc : Array Value} (h : ItemsOf (fun i v => ∃ t, v = Value.int (0 + i * 1) t) acc n) : Vals ((List.range n).map fun (i : Nat) => V.int (i : Int)) acc.toList := by
 have := xU acc.toList 0 fun j v e => by
   rw [ajp] at e
   obtain ⟨t, ht⟩ := h.2 j v e
   exact ⟨t, by rw [ht]; congr 1; omega⟩
 rw [ai3, h.1] at this
 rw [List.range_eq_range']
 exact this
theorem yV (hc : X.calm = true) : g8 X (.type "list") (fun xs H Q => ∃ (p : Addr) (n : Nat), xs = [.ref p] /\ H p = some (.Ue 0 (n : Int)) /\ n <= 1000 /\ ∀ l, H l = none -> Q (.ref l) (upd H l (.lst ((List.range n).map fun (i : Nat) => V.int (i : Int))))) := by
 intro pins s σ H xs us Q I r h
 obtain ⟨p, n, rfl, hp, hn, q⟩ := h
 obtain ⟨u, rfl, ru⟩ := vals1 r
 cases ru
 obtain ⟨t, u, v, e⟩ := I.cP p _ hp
 refine call_list_range (n := n) (I.ok.hd hc) e (small_one Q.a Q.a Q.a Q.a) (by rw [rangeSize_one]; split <;> omega) Q.a fun h' tk GU c' hk hS' items => ?_
 refine ⟨.ref s.heap.objs.size, _, I.laid (t' := tk) (o := .lst ((List.range n).map fun (i : Nat) => V.int (i : Int))) hk (Nat.le_refl _) ⟨?_, GU.toList, c', CQ items, by simpa using hS'⟩, rfl, q _ (I.cP.fresh (Nat.le_refl _))⟩
 rw [ahK, ah4]
 exact ajh (gD hn)
theorem Kq (g : Gx X) (hm : X.mg "list" = none) (ZT : X.mg "range" = none) (h : cU X CL b e δ (.int (n : Int)) δ1) (hn : n <= 1000) (hg : Gl X "list") (hgr : Gl X "range") (hs : Q.x := by exact aW rfl) :
   bI X CL b (.Call (.Name "list" pp) [.Call (.Name "range" pq) [e] [] pr] [] pos) δ (.lst ((((List.range n).map fun (i : Nat) => (i : Int)).map D.int).map T.sh)) δ1 := fun H Z σ ts vs Q S k =>
 bN (gC (yV g.calm) hg hm dM (bL (gC Bm hgr ZT Bl (bL cA c5 hs) (he := hs)) c5 (aW rfl)) (he := aW rfl)) (h H Z σ ts vs _ S fun v H1 Z1 z1 k1 S1 r => by
   cases r
   refine ⟨_, rfl, fun r hr => ⟨r, n, rfl, aB, hn, fun p hp => ?_⟩⟩
   have same : ay H1 (upd H1 r (.Ue 0 (n : Int))) := ay.upd hr
   obtain ⟨Z', z', S2⟩ := S1.back (t := .sh (.int 0)) (v := .int 0) (fp := []) (W := Z1) (W' := Z1) same (.refl _) (.refl _) (S1.zh.trans same) (fun a o q z => by rw [q] at z; cases z) (fun a o q im => by
     by_cases ha : a = r
     . subst ha; rw [aB] at q; cases q; cases im
     . rw [ao ha] at q; exact S1.tp a o q im) (.sh (.int 0)) ajn (fun a ha => by cases ha) (.inl rfl)
   have ev : ((List.range n).map fun (i : Nat) => V.int (i : Int)) = ((List.range n).map fun (i : Nat) => (i : Int)).map V.int := by rw [aia]; rfl
   rw [ev]
   obtain ⟨c, S3⟩ := (aY.pC (ints_rep ((List.range n).map fun (i : Nat) => (i : Int))) S2.pop).pO (g0 := []) (by simp) hp
   exact k _ _ _ (z1.trans z') ((k1.trans same).trans c) S3)
def mV (ks : List Key) : D := .tup (ks.map CM)
def fP (ks : List Key) : T := .tup ((ks.map CM).map T.sh)
def eZ (kvs : List (List Key × α)) (k : List Key) : Option α := (kvs.find? fun kv => decide (kv.1 = k)).map (·.2)
theorem fW {p : List Key × α} {r : List (List Key × α)} {k : List Key} (e : p.1 = k) : eZ (p :: r) k = some p.2 := by simp [eZ, ajt, e]
theorem fF {p : List Key × α} {r : List (List Key × α)} {k : List Key} (e : ¬ p.1 = k) : eZ (p :: r) k = eZ r k := by simp [eZ, ajt, e]
theorem Ct.tr {b : Addr} {kvs : Q.m} {k : List Key} (e : Rd H a (.dT kvs)) (eb : H b = some (.tup (k.map kV))) : Ct H a (.ref b) (gn kvs k) := .inr ⟨kvs, k, b, e, rfl, eb, rfl⟩
variable {d : D}
theorem GV {ks : List Key} (r : aI K CL H Z ((ks.map CM).map T.sh) us fp) : us = ks.map kV := by
 induction ks generalizing us fp with
 | nil => cases r; rfl
 | cons k ks ih =>
   rw [ah6, ah6] at r
   cases r with
   | cons r rr =>
     cases r with
     | sh r => rw [r.key, ih rr, ah6]
theorem bY.length {kvs : List (List Key × D)} {gs : Q.m} (h : bY K CL Z kvs gs) : kvs.length = gs.length :=
 bY.ind (P := fun kvs gs => kvs.length = gs.length) rfl (fun _ _ i => congrArg (· + 1) i) h
theorem bY.keys {kvs : List (List Key × D)} {gs : Q.m} (h : bY K CL Z kvs gs) : kvs.map (·.1) = gs.map (·.1) :=
 bY.ind (P := fun kvs gs => kvs.map (·.1) = gs.map (·.1)) rfl (fun {x _ _ _ _} _ _ i => congrArg (x :: ·) i) h
theorem bY.val {k : List Key} {kvs : List (List Key × D)} {gs : Q.m} (h : bY K CL Z kvs gs) : (eZ kvs k = none /\ gn gs k = none) \/ ∃ d v, eZ kvs k = some d /\ gn gs k = some v /\ aV K CL Z d v :=
 bY.ind (P := fun kvs gs => (eZ kvs k = none /\ gn gs k = none) \/ ∃ d v, eZ kvs k = some d /\ gn gs k = some v /\ aV K CL Z d v) (.inl ⟨rfl, rfl⟩) (fun {x d v _ _} r _ i => by
   by_cases e : x = k
   . exact .inr ⟨d, v, fW e, kH e, r⟩
   . rw [fF (p := (x, d)) e, kI (p := (x, v)) e]
     exact i) h
theorem bQ.length {kvs : List (List Key × T)} {gs : Q.m} (h : bQ K CL H Z kvs gs fp) : kvs.length = gs.length :=
 bQ.ind (P := fun kvs gs _ => kvs.length = gs.length) rfl (fun _ _ i => congrArg (· + 1) i) h
theorem bQ.keys {kvs : List (List Key × T)} {gs : Q.m} (h : bQ K CL H Z kvs gs fp) : kvs.map (·.1) = gs.map (·.1) :=
 bQ.ind (P := fun kvs gs _ => kvs.map (·.1) = gs.map (·.1)) rfl (fun {x _ _ _ _ _ _} _ _ i => congrArg (x :: ·) i) h
theorem bQ.snoc {k : List Key} {kvs : List (List Key × T)} {gs : Q.m} {ft : List Addr} (h : bQ K CL H Z kvs gs fp) (q : bu K CL H Z t v ft) : bQ K CL H Z (kvs ++ [(k, t)]) (gs ++ [(k, v)]) (fp ++ (ft ++ [])) :=
 bQ.ind (P := fun kvs gs fp => bQ K CL H Z (kvs ++ [(k, t)]) (gs ++ [(k, v)]) (fp ++ (ft ++ []))) (by rw [ajf, ajf, ajf]; exact .cons q .nil) (fun r _ i => by
   rw [ahQ]
   exact .cons r i) h
theorem aY.VQ {p : Addr} (S : aY K CL b H Z δ σ ts vs) (hp : H p = none) : ay H (upd H p (.dT [])) /\ aY K CL b (upd H p (.dT [])) Z δ σ (.dct [] :: ts) (.ref p :: vs) := by
 obtain ⟨fp, gp, e, r, nd, k⟩ := S.rep
 have zp : Z p = none := S.zh.free hp
 have sh : ay H (upd H p (.dT [])) := ay.upd hp
 have keep : ∀ a ∈ fp ++ gp, a ≠ p := fun a ha => by
   have : ∃ o, H a = some o := by
     rcases ahZ.mp ha with h | h
     . exact e.there a h
     . exact r.there a h
   obtain ⟨o, q⟩ := this
   exact bG q hp
 refine ⟨sh, ⟨⟨fp, [p] ++ gp, e.mono (.refl _) (fun a ha => ao (keep a (ahR _ ha))), .cons (.dct aB .nil) (r.mono (.refl _) fun a ha => ao (keep a (by simp [ha]))), ?_, fun a ha => ?_⟩, S.bh.trans sh, S.zz, S.zh.trans sh, S.new, fun a o q i => ?_, S.tab⟩⟩
 . refine (ai2 (l₁ := fp) (l₂ := gp) (a := p)).nodup_iff.mpr (aiE.mpr ⟨fun h => keep p h rfl, nd⟩)
 . rcases ahT.mp ((ai2 (l₁ := fp) (l₂ := gp) (a := p)).mem_iff.mp ha) with h | h
   . subst h; exact ⟨zp, S.bh.free hp⟩
   . exact k a h
 . by_cases ha : a = p
   . subst ha; rw [aB] at q; cases q; cases i
   . rw [ao ha] at q; exact S.tp a o q i
theorem aY.vq {ks : List Key} (S : aY K CL b H Z δ σ (fP ks :: ts) (v :: vs)) : ∃ a, v = .ref a /\ H a = some (.tup (ks.map kV)) := by
 obtain ⟨fp, gp, e, r, nd, k⟩ := S.rep
 cases r with
 | cons r _ =>
   cases r with
   | tup hz rr => exact ⟨_, rfl, by rw [← GV rr]; exact S.zh _ _ hz⟩
theorem aY.VR {k : List Key} {kvs : List (List Key × T)} (S : aY K CL b H Z δ σ (t :: ts) (v :: vs)) (hi : δ[i]? = some (some (.dct kvs))) (hk : k ∉ kvs.map (·.1)) :
   ∃ a gs, σ[i]? = some (some (.ref a)) /\ H a = some (.dT gs) /\ gs.length = kvs.length /\ aY K CL b (upd H a (.dT (putK gs k v))) Z (δ.set i (some (.dct (kvs ++ [(k, t)])))) σ ts vs := by
 obtain ⟨fp, gp, e, r, nd, kk⟩ := S.rep
 obtain ⟨v0, f1, f2, f3, hv, nL, rt, put, _⟩ := e.get hi
 subst nL
 cases rt with
 | @dct a gs _ g ha rs =>
   cases r with
   | @cons _ _ _ _ ft gr q1 q2 =>
     have ne : ∀ c ∈ (f1 ++ (g ++ f3)) ++ (ft ++ gr), c ≠ a := fun c hc e => by
       subst e
       have hp : ((f1 ++ ((c :: g) ++ f3)) ++ (ft ++ gr)).Perm (c :: ((f1 ++ (g ++ f3)) ++ (ft ++ gr))) := by
         rw [aiz, ← aiz]
         exact (ai2.append_right _)
       exact (aiE.mp (hp.nodup_iff.mp nd)).1 hc
     have eg : putK gs k v = gs ++ [(k, v)] := by
       unfold putK
       rw [qw, ahX]
       rcases hx : gn gs k with _ | z
       . exact ah8
       . exfalso
         refine hk ?_
         rw [rs.keys]
         unfold gn at hx
         cases hf : gs.find? fun kv => decide (kv.1 = k) with
         | none => rw [hf] at hx; cases hx
         | some q =>
           have h1 := List.find?_some hf
           have h2 := List.mem_of_find?_eq_some hf
           have : q.1 = k := aix h1
           rw [← this]
           exact List.mem_map_of_mem h2
     refine ⟨a, gs, hv, ha, rs.length.symm, ?_⟩
     rw [eg]
     have r1 : bu K CL (upd H a (.dT (gs ++ [(k, v)]))) Z (.dct (kvs ++ [(k, t)])) (.ref a) (a :: (g ++ (ft ++ []))) :=
       .dct aB (bQ.snoc (rs.mono (.refl _) fun c hc => ao (ne c (by simp [hc]))) (q1.mono (.refl _) fun c hc => ao (ne c (by simp [hc]))))
     have e2 := put (H' := upd H a (.dT (gs ++ [(k, v)]))) (.refl _) (fun c hc => ao (ne c (by
       rcases ahZ.mp hc with h | h
       . simp [h]
       . simp [h]))) r1
     rw [fE hv] at e2
     have hp : ((f1 ++ ((a :: (g ++ (ft ++ []))) ++ f3)) ++ gr).Perm ((f1 ++ ((a :: g) ++ f3)) ++ (ft ++ gr)) := by
       simp only [aip, aiz, ahQ]
       refine aiH f1 (List.Perm.cons a (aiH g ?_))
       rw [← ahQ, ← ahQ]
       exact aim.append_right gr
     exact S.yR rfl kk (by simp) e2 (q2.mono (.refl _) fun c hc => ao (ne c (by simp [hc]))) (hp.nodup_iff.mpr nd) fun c hc => hp.mem_iff.mp hc
variable {d : L3.D} {ps : Pos} {kvs : List (List Key × L3.D)} {k : List Key}
theorem qD : bI X CL b (.Dict [] [] pos) δ (.dct []) δ := fun H Z σ ts vs Q S kk => bN Jx fun p hp => by
 obtain ⟨c, S1⟩ := S.VQ hp
 exact kk _ _ Z (.refl _) c S1
theorem yW {kvs : List (List Key × T)} (k : List Key) (hu : X.A.units + 64 < cLine) (n : Vn X i x) (h : bI X CL b e δ t δ1) (h2 : bI X CL b e2 δ1 (fP k) δ1) (h1 : δ1[i]? = some (some (.dct kvs))) (hk : k ∉ kvs.map (·.1)) (hl : kvs.length <= 1000000) (kk : dh X CL b fC (δ1.set i (some (.dct (kvs ++ [(k, t)])))) DD)
   (hs : swapsWith e (some (.Subscript (.Name x pp) e2 ps)) pos.line X.env = pure false := by rfl) :
   dh X CL b (.Assign [.Subscript (.Name x pp) e2 ps] e pos :: fC) δ DD := cC fun H Z σ ts vs E S M =>
 pe (Eu Q.a (iX n.hi n.hv n.hd n.kE) cA cA hs) (h H Z σ ts vs _ S fun v H1 Z1 z1 k1 S1 => by
   obtain ⟨v0, e0, _⟩ := S1.look h1
   refine ⟨v0, e0, h2 H1 Z1 σ _ _ _ S1 fun v2 H2 Z2 z2 k2 S2 => ?_⟩
   obtain ⟨kb, rfl, hb⟩ := S2.vq
   obtain ⟨a, gs, ea, ha, hg, S3⟩ := S2.pop.VR h1 hk
   rw [e0] at ea
   cases ea
   exact ⟨a, _, rfl, Gu.t ha hb (by rw [hg]; exact ajQ hl (by rw [aic]; decide)), M.nx _ σ _ Z2 (z1.trans z2) S3 kk⟩)
theorem Kr (k : List Key) (hu : X.A.units + 64 < cLine) (h1 : cU X CL b e1 δ (.dct kvs) δ1) (h2 : bI X CL b e2 δ1 (fP k) δ2) (hk : eZ kvs k = some d) (hs : yI e2 := by exact fun _ _ => rfl) : cU X CL b (.Subscript e1 e2 pos) δ d δ2 := fun H Z σ ts vs Q S kk =>
 bN (Et Q.a cA cA hs) (h1 H Z σ ts vs _ S fun v H1 Z1 z1 k1 S1 r1 => h2 H1 Z1 σ ts vs _ S1 fun v2 H2 Z2 z2 k2 S2 => by
   obtain ⟨kb, rfl, hb⟩ := S2.vq
   cases r1 with
   | @dct a gs _ ha rr =>
     have rr' := rr.mono k2
     rcases rr'.val (k := k) with ⟨h0, _⟩ | ⟨d', v', h0, hv, rd⟩
     . rw [hk] at h0; cases h0
     . rw [hk] at h0; cases h0
       refine ⟨a, v', rfl, ?_, kk v' H2 Z2 (z1.trans z2) (k1.trans k2) S2.pop rd⟩
       rw [← hv]
       exact Ct.tr (Rd.mono k2 ha) hb)
theorem qE (k : List Key) (hu : X.A.units + 64 < cLine) (h1 : bI X CL b e1 δ (.sh (.dct kvs)) δ1) (h2 : bI X CL b e2 δ1 (fP k) δ2) (hk : eZ kvs k = some d) (hs : yI e2 := by exact fun _ _ => rfl) : bI X CL b (.Subscript e1 e2 pos) δ (.sh d) δ2 := fun H Z σ ts vs Q S kk =>
 bN (Et Q.a cA cA hs) (h1 H Z σ ts vs _ S fun v H1 Z1 z1 k1 S1 => h2 H1 Z1 σ _ _ _ S1 fun v2 H2 Z2 z2 k2 S2 => by
   obtain ⟨kb, rfl, hb⟩ := S2.vq
   have r := S2.pop.mz
   cases r with
   | @dct a gs _ ha rr =>
     rcases rr.val (k := k) with ⟨h0, _⟩ | ⟨d', v', h0, hv, rd⟩
     . rw [hk] at h0; cases h0
     . rw [hk] at h0; cases h0
       refine ⟨a, v', rfl, ?_, kk v' H2 Z2 (z1.trans z2) (k1.trans k2) (S2.pop.pop.push rd)⟩
       rw [← hv]
       exact Ct.tr (Rd.mono S2.zh ha) hb)
theorem GX : bootBuiltins "set" = some (.type "set") := Q.i
theorem Bo : ∀ {ns : List Int} {us : List Value}, Vals (ns.map V.int) us -> IntsAre us ns
 | [], _, .nil => .nil
 | _ :: _, _, .cons ⟨t, e⟩ r => by subst e; exact .cons _ t (Bo r)
def Ks (prog : Program) (w : World) (a : Addr) (n : Nat) (h : Heap) : Prop := ∃ S, h.SetOf (intKind prog w) a S n
theorem Bp : g8 X (.builtin "len") (fun xs H Q => ∃ (p : Addr) (n : Nat), xs = [.ref p] /\ H p = some (.ext (Ks X.prog X.w p n)) /\ n <= 1000 /\ Q (.int n) H) := by
 intro pins s σ H xs us Q I r h
 obtain ⟨p, n, rfl, hp, hn, q⟩ := h
 obtain ⟨u, rfl, ru⟩ := vals1 r
 cases ru
 obtain ⟨⟨S, o, es, ep, t, e, ex, ed, _, _, _, hf, en⟩, _, _⟩ := I.cP p _ hp
 exact call_len_set e ex ed hf (by rw [en]; omega) ⟨.int n, H, I.tok _, ⟨s.toks + 1, by rw [en]⟩, q⟩
section
variable {D : dZ}
theorem Bq : rM X (binaryOp .Add) (fun x y H Q => ∃ a b ys, x = .ref a /\ y = .ref b /\ kD X.K H a [] /\ kD X.K H b ys /\ Q (.ref b) H) := by
 intro pins s σ H x y v u Q I rx ry h
 obtain ⟨a, b, ys, rfl, rfl, ha, hb, q⟩ := h
 cases rx
 cases ry
 obtain ⟨its, r1, p1, _⟩ := I.tuple ha
 obtain ⟨Gn, r2, p2, _⟩ := I.tuple hb
 have e1 := r1.tW.mpr rfl
 subst e1
 obtain ⟨⟨cls, dd, data, sl⟩, ho, hc, n, hd⟩ := id p1
 obtain ⟨⟨acz, SQ, data2, Yg⟩, IA, OS, n2, hd2⟩ := id p2
 simp only at hc hd OS hd2
 subst hc hd OS hd2
 exact concat_meets ⟨_, ho, rfl⟩ ⟨_, IA, rfl⟩ noFill_tuple_add seq_tuple_add PySem.F.slot_tuple_add akk (ake _ _)
     (tuple_addW0 a b #[] Gn.toArray n n2 dd SQ sl Yg rfl) ⟨ho, IA, .ref b, H, I, rfl, q⟩
theorem Ku (h1 : bI X CL b e1 δ (.sh (.tup ds)) δ1) (h2 : bI X CL b e2 δ1 (.sh (.tup pD)) δ2) (n2 : pD ≠ []) (hz : ds.length + pD.length <= sizeLine) :
   bI X CL b (.BinOp e1 .Add e2 pos) δ (.sh (.tup (ds ++ pD))) δ2 := by
 cases ds with
 | cons d ds => exact Kh h1 h2 (List.cons_ne_nil _ _) n2 hz
 | nil =>
     intro H Z σ ts vs Q S k
     exact bN (uY Bq cA cA) (h1 H Z σ ts vs _ S fun v1 H1 Z1 z1 k1 S1 => h2 H1 Z1 σ _ _ _ S1 fun v2 H2 Z2 z2 k2 S2 => by
       have r2 := S2.mz
       have r1 := S2.pop.mz
       cases r1 with
       | tup J4 Bf =>
         cases Bf
         have ZU := r2
         cases r2 with
         | tup Pu AJ => exact ⟨_, _, _, rfl, rfl, ay.tY S2.zh J4, ay.tY S2.zh Pu, k _ _ Z2 (z1.trans z2) (k1.trans k2) (S2.pop.pop.push ZU)⟩)
end
end L3
namespace L2
open PySem PySem.Spec PyProof.Rows
section
variable {s : Shared}
open PySem.W in
open PySem PySem.Calls PyProof.Rows Builtin Builtin.ObjectAttr Builtin.Getset_descriptor PySem.W PySem.Builtin.ObjectAttr in
def Kv : V -> Bool
 | .ref _ => true
 | .ty _ => true
 | _ => false
def clsOf : V -> Value
 | .ref a => .ref a
 | .ty n => .type n
 | _ => .none
theorem GY {v : V} {u : Value} (hc : Kv v = true) (r : RelV v u) : u = clsOf v := by
 cases v <;> first | exact r | cases hc
end
end L2
namespace L3
open PySem PySem.Spec PyProof.Rows L2
section
variable {X : Cx} {CL : Q.d} {b : Bx} {δ δ1 δ2 : Q.e} {e1 e2 : Expr} {D : dZ} {x : Str} {pos : Pos}
theorem VW {v : V} {u : Value} (hg : Gl X x) (hm : X.mg x = some u) (r : RelV v u) (hd : Q.p := by decide) : bI X CL b (.Name x pos) δ (.sh (.val v)) δ := fun H Z σ ts vs Q S k => bN (Eg hg hm r hd) (k _ _ Z (.refl _) (.refl _) (S.push (.val v)))
theorem kM {ds pD : List L3.D} (h1 : bI X CL b e1 δ (.sh (.tup ds)) δ1) (h2 : bI X CL b e2 δ1 (.sh (.tup pD)) δ2) (hz : ds.length + pD.length <= sizeLine) :
   bI X CL b (.BinOp e1 .Add e2 pos) δ (.sh (.tup (ds ++ pD))) δ2 := by
 cases pD with
 | cons d pD => exact Ku h1 h2 (List.cons_ne_nil _ _) hz
 | nil =>
   rw [aip]
   cases ds with
   | cons d ds =>
     intro H Z σ ts vs Q S k
     exact bN (uY Eo cA cA) (h1 H Z σ ts vs _ S fun v1 H1 Z1 z1 k1 S1 => h2 H1 Z1 σ _ _ _ S1 fun v2 H2 Z2 z2 k2 S2 => by
       have r2 := S2.mz
       have r1 := S2.pop.mz
       have Gy := r1
       cases r2 with
       | tup Pu AJ =>
         cases AJ
         cases r1 with
         | tup J4 Bf =>
           have e1 := Bf.length
           refine ⟨_, _, _, _, rfl, rfl, ay.tY S2.zh J4, ay.tY S2.zh Pu, (fun z => by rw [z] at e1; cases e1), by rw [← e1]; exact hz, fun _ => k _ _ Z2 (z1.trans z2) (k1.trans k2) (S2.pop.pop.push Gy), fun z => absurd rfl z⟩)
   | nil =>
     intro H Z σ ts vs Q S k
     exact bN (uY Bq cA cA) (h1 H Z σ ts vs _ S fun v1 H1 Z1 z1 k1 S1 => h2 H1 Z1 σ _ _ _ S1 fun v2 H2 Z2 z2 k2 S2 => by
       have r2 := S2.mz
       have r1 := S2.pop.mz
       cases r1 with
       | tup J4 Bf =>
         cases Bf
         have ZU := r2
         cases r2 with
         | tup Pu AJ => exact ⟨_, _, _, rfl, rfl, ay.tY S2.zh J4, ay.tY S2.zh Pu, k _ _ Z2 (z1.trans z2) (k1.trans k2) (S2.pop.pop.push ZU)⟩)
end
inductive wJ where
 | ix (j : Nat) | fld (f : Str) | key (k : List Key)
def i6 {α : Type} (k : List Key) (t : α) : List (List Key × α) -> List (List Key × α)
 | [] => []
 | (x, u) :: r => if x = k then (x, t) :: r else (x, u) :: i6 k t r
def T.core : T -> T
 | .pin _ t => t
 | t => t
def T.CT : T -> T -> T
 | .pin y _, u => .pin y u
 | _, u => u
def T.GZ : wJ -> T -> Option T
 | .ix j, .lst ts => ts[j]?
 | .ix j, .tup ts => ts[j]?
 | .fld f, .ins _ fs => fs.lookup f
 | .key k, .dct kvs => eZ kvs k
 | _, _ => none
def T.Kw : wJ -> T -> T -> T
 | .ix j, .lst ts, u => .lst (ts.set j u)
 | .ix j, .tup ts, u => .tup (ts.set j u)
 | .fld f, .ins c fs, u => .ins c (jF f u fs)
 | .key k, .dct kvs, u => .dct (i6 k u kvs)
 | _, t, _ => t
def T.jR : List wJ -> T -> Option T
 | [], t => some t.core
 | s :: p, t => (t.core.GZ s).bind (T.jR p)
def T.g6 : List wJ -> T -> T -> T
 | [], u, t => t.CT u
 | s :: p, u, t => match t.core.GZ s with
   | some k => t.CT (t.core.Kw s (T.g6 p u k))
   | none => t
def PX (H : Hp) (v : V) : wJ -> V -> Prop
 | .ix j, w => ∃ a us, v = .ref a /\ (H a = some (.lst us) \/ H a = some (.tup us)) /\ us[j]? = some w
 | .fld f, w => ∃ a C dx gs, v = .ref a /\ H a = some (.ins C dx gs) /\ gs.lookup f = some w
 | .key k, w => ∃ a gs, v = .ref a /\ H a = some (.dT gs) /\ gn gs k = some w
def xV (H : Hp) : V -> List wJ -> V -> Prop
 | v, [], w => v = w
 | v, s :: p, w => ∃ u, PX H v s u /\ xV H u p w
variable {H : Hp} {v : V} {s : wJ}
theorem PX.mono {H' : Hp} (e : ay H H') {w : V} (h : PX H v s w) : PX H' v s w := by
 cases s with
 | ix j => obtain ⟨a, us, h1, h2, h3⟩ := h; exact ⟨a, us, h1, h2.imp (e _ _) (e _ _), h3⟩
 | fld f => obtain ⟨a, C, dx, gs, h1, h2, h3⟩ := h; exact ⟨a, C, dx, gs, h1, e _ _ h2, h3⟩
 | key k => obtain ⟨a, gs, h1, h2, h3⟩ := h; exact ⟨a, gs, h1, e _ _ h2, h3⟩
theorem PX.inj {w w' : V} (h : PX H v s w) (q : PX H v s w') : w = w' := by
 cases s with
 | ix j =>
   obtain ⟨a, us, h1, h2, h3⟩ := h
   obtain ⟨a', ZV, q1, q2, q3⟩ := q
   subst h1
   cases q1
   have e : us = ZV := by
     rcases h2 with h2 | h2 <;> rcases q2 with q2 | q2 <;> rw [h2] at q2 <;> cases q2 <;> rfl
   subst e
   rw [h3] at q3
   exact aie q3
 | fld f =>
   obtain ⟨a, C, dx, gs, h1, h2, h3⟩ := h
   obtain ⟨a', C', dx', gs', q1, q2, q3⟩ := q
   subst h1
   cases q1
   rw [h2] at q2
   cases q2
   rw [h3] at q3
   exact aie q3
 | key k =>
   obtain ⟨a, gs, h1, h2, h3⟩ := h
   obtain ⟨a', gs', q1, q2, q3⟩ := q
   subst h1
   cases q1
   rw [h2] at q2
   cases q2
   rw [h3] at q3
   exact aie q3
theorem xV.mono {H H' : Hp} (e : ay H H') : ∀ {p : List wJ} {v w : V}, xV H v p w -> xV H' v p w
 | [], _, _, h => h
 | _ :: _, _, _, ⟨u, h, q⟩ => ⟨u, h.mono e, xV.mono e q⟩
theorem xV.inj {H : Hp} : ∀ {p : List wJ} {v w w' : V}, xV H v p w -> xV H v p w' -> w = w'
 | [], _, _, _, h, q => h.symm.trans q
 | _ :: _, _, _, _, ⟨_, h1, h2⟩, ⟨_, q1, q2⟩ => by
   have := h1.inj q1
   subst this
   exact xV.inj h2 q2
theorem xV.snoc {H : Hp} {s : wJ} : ∀ {p : List wJ} {v w z : V}, xV H v p w -> PX H w s z -> xV H v (p ++ [s]) z
 | [], _, _, z, h, q => by
   have h' : _ = _ := h
   subst h'
   exact ⟨z, q, rfl⟩
 | _ :: _, _, _, _, ⟨u, h1, h2⟩, q => ⟨u, h1, xV.snoc h2 q⟩
variable {K : Q.h} {CL : Q.d} {b : Bx} {H' Z Z' : Hp} {δ : Q.e} {σ : L2.St} {ts tl : List T} {vs us : List V} {t u t0 : T} {v0 w : V} {fp : List Addr} {i : Nat} {p : List wJ}
theorem bu.Kx (h : bu K CL H Z t v fp) : bu K CL H Z t.core v fp /\ ∀ {H' Z' : Hp} {u : T} {g : List Addr}, bu K CL H' Z' u v g -> bu K CL H' Z' (t.CT u) v g := by
 cases h with
 | pin r => exact ⟨r, fun q => .pin q⟩
 | sh r => exact ⟨.sh r, fun q => q⟩
 | tup r q => exact ⟨.tup r q, fun q => q⟩
 | lst r q => exact ⟨.lst r q, fun q => q⟩
 | ins r q => exact ⟨.ins r q, fun q => q⟩
 | oZ r q => exact ⟨.oZ r q, fun q => q⟩
 | dct r q => exact ⟨.dct r q, fun q => q⟩
 | jc r q => exact ⟨.jc r q, fun q => q⟩
theorem cI.at {f : Str} : ∀ (fs : List (Str × T)) {gs : List (Str × V)} {fp : List Addr}, cI K CL H Z fs gs fp -> fs.lookup f = some t -> ∃ w f1 f2 f3, gs.lookup f = some w /\ fp = f1 ++ (f2 ++ f3) /\ bu K CL H Z t w f2 ∧
   ∀ {H' : Hp} {t' : T} {g : List Addr}, (∀ a ∈ f1 ++ f3, H' a = H a) -> bu K CL H' Z t' w g -> cI K CL H' Z (jF f t' fs) gs (f1 ++ (g ++ f3)) := by
 intro fs
 induction fs with
 | nil => intro gs fp h e; cases e
 | cons p fs ih =>
   obtain ⟨x, t0⟩ := p
   intro gs fp h e
   cases h with
   | @cons _ _ v _ vs f0 g0 r rs =>
     rw [ain] at e
     cases hx : f == x with
     | true =>
       rw [hx] at e
       cases e
       have hxe : x = f := (akh.mp hx).symm
       refine ⟨v, [], f0, g0, by rw [ain, hx], rfl, r, fun {H' t' g} kk r' => ?_⟩
       rw [jF, ah7 hxe]
       exact cI.cons (fp := g) (gp := g0) r' (rs.mono (.refl _) fun a ha => kk a (by simpa using ha))
     | false =>
       rw [hx] at e
       obtain ⟨w, f1, f2, f3, h1, h2, h3, h4⟩ := ih rs e
       subst h2
       refine ⟨w, f0 ++ f1, f2, f3, by rw [ain, hx]; exact h1, by rw [ahQ], h3, fun {H' t' g} kk r' => ?_⟩
       rw [jF, ahX (fun z => by rw [z, ajk] at hx; cases hx), ahQ]
       exact .cons (r.mono (.refl _) fun a ha => kk a (by simp [ha])) (h4 (fun a ha => kk a (by rw [ahQ]; exact ahM _ ha)) r')
theorem bQ.GZ {k : List Key} {kvs : List (List Key × T)} {gs : Q.m} (h : bQ K CL H Z kvs gs fp) (hk : eZ kvs k = some t) :
   ∃ v f1 f2 f3, gn gs k = some v /\ fp = f1 ++ (f2 ++ f3) /\ bu K CL H Z t v f2 ∧
     ∀ {H' : Hp} {t' : T} {g : List Addr}, (∀ a ∈ f1 ++ f3, H' a = H a) -> bu K CL H' Z t' v g -> bQ K CL H' Z (i6 k t' kvs) gs (f1 ++ (g ++ f3)) := by
 refine bQ.ind (P := fun kvs gs fp => eZ kvs k = some t -> ∃ v f1 f2 f3, gn gs k = some v /\ fp = f1 ++ (f2 ++ f3) /\ bu K CL H Z t v f2 ∧
     ∀ {H' : Hp} {t' : T} {g : List Addr}, (∀ a ∈ f1 ++ f3, H' a = H a) -> bu K CL H' Z t' v g -> bQ K CL H' Z (i6 k t' kvs) gs (f1 ++ (g ++ f3))) (fun e => by cases e) (fun {x t0 v0 ts vs fp gp} r rr i hk => ?_) h hk
 by_cases e : x = k
 . rw [fW (p := (x, t0)) e] at hk
   cases hk
   refine ⟨v0, [], fp, gp, kH e, rfl, r, fun {H' t' g} ka q => ?_⟩
   rw [i6, ah7 e]
   exact (show bQ K CL H' Z ((x, t') :: ts) ((x, v0) :: vs) (g ++ gp) from .cons q (rr.mono (.refl _) fun a ha => ka a ha))
 . rw [fF (p := (x, t0)) e] at hk
   obtain ⟨v, f1, f2, f3, h1, h2, h3, h4⟩ := i hk
   refine ⟨v, fp ++ f1, f2, f3, by rw [kI (p := (x, v0)) e]; exact h1, by rw [h2, ahQ], h3, fun {H' t' g} ka q => ?_⟩
   rw [i6, ahX e, ahQ]
   exact .cons (r.mono (.refl _) fun a ha => ka a (by simp [ha])) (h4 (fun a ha => ka a (by rw [ahQ]; exact ahM _ ha)) q)
theorem bu.GZ {k : T} (zh : ay Z H) (h : bu K CL H Z t v fp) (hk : t.GZ s = some k) : ∃ w f1 f2 f3, PX H v s w /\ fp = f1 ++ (f2 ++ f3) /\ bu K CL H Z k w f2 ∧
   ∀ {H' : Hp} {k' : T} {g : List Addr}, (∀ c ∈ f1 ++ f3, H' c = H c) -> bu K CL H' Z k' w g -> bu K CL H' Z (t.Kw s k') v (f1 ++ (g ++ f3)) := by
 cases s with
 | ix j =>
   cases h with
   | @lst a us ts g ha rs =>
     obtain ⟨w, f1, f2, f3, h1, h2, h3, h4⟩ := rs.at (j := j) (t := k) hk
     subst h2
     refine ⟨w, a :: f1, f2, f3, ⟨a, us, rfl, .inl ha, h1⟩, rfl, h3, fun {H' k' g} kk r' => ?_⟩
     have q := h4 (fun c hc => kk c (ahP _ hc)) r'
     rw [fE h1] at q
     exact .lst ((kk a ahL).trans ha) q
   | @tup a us ts g ha rs =>
     obtain ⟨w, f1, f2, f3, h1, h2, h3, h4⟩ := rs.at (j := j) (t := k) hk
     subst h2
     refine ⟨w, f1, f2, f3, ⟨a, us, rfl, .inr (zh _ _ ha), h1⟩, rfl, h3, fun {H' k' g} kk r' => ?_⟩
     have q := h4 kk r'
     rw [fE h1] at q
     exact .tup ha q
   | _ => cases hk
 | fld f =>
   cases h with
   | @ins a dx c gs fs g ha rs =>
     obtain ⟨w, f1, f2, f3, h1, h2, h3, h4⟩ := cI.at fs rs (f := f) (t := k) hk
     subst h2
     refine ⟨w, a :: f1, f2, f3, ⟨a, _, dx, gs, rfl, ha, h1⟩, rfl, h3, fun {H' k' g} kk r' => ?_⟩
     exact .ins ((kk a ahL).trans ha) (h4 (fun c hc => kk c (ahP _ hc)) r')
   | _ => cases hk
 | key x =>
   cases h with
   | @dct a gs kvs g ha rs =>
     obtain ⟨w, f1, f2, f3, h1, h2, h3, h4⟩ := rs.GZ (k := x) (t := k) hk
     subst h2
     refine ⟨w, a :: f1, f2, f3, ⟨a, gs, rfl, ha, h1⟩, rfl, h3, fun {H' k' g} kk r' => ?_⟩
     exact .dct ((kk a ahL).trans ha) (h4 (fun c hc => kk c (ahP _ hc)) r')
   | _ => cases hk
theorem bu.focus (zh : ay Z H) : ∀ (p : List wJ) {t u : T} {v : V} {fp : List Addr}, bu K CL H Z t v fp -> T.jR p t = some u -> ∃ w f1 f2 f3, xV H v p w /\ fp = f1 ++ (f2 ++ f3) /\ bu K CL H Z u w f2 ∧
   ∀ {H' : Hp} {u' : T} {g : List Addr}, (∀ c ∈ f1 ++ f3, H' c = H c) -> bu K CL H' Z u' w g -> bu K CL H' Z (T.g6 p u' t) v (f1 ++ (g ++ f3))
 | [], t, u, v, fp, h, e => by
   obtain ⟨h1, h2⟩ := h.Kx
   cases e
   exact ⟨v, [], fp, [], rfl, by simp, h1, fun {H' u' g} _ r => by rw [ajf, aip]; exact h2 r⟩
 | s :: p, t, u, v, fp, h, e => by
   obtain ⟨h1, h2⟩ := h.Kx
   rw [T.jR] at e
   cases hk : t.core.GZ s with
   | none => rw [hk] at e; cases e
   | some k =>
     rw [hk] at e
     obtain ⟨w1, a1, a2, a3, q1, q2, q3, q4⟩ := h1.GZ zh hk
     obtain ⟨w, f1, f2, f3, r1, r2, r3, r4⟩ := bu.focus zh p q3 e
     subst q2 r2
     refine ⟨w, a1 ++ f1, f2, f3 ++ a3, ⟨w1, q1, r1⟩, by simp only [ahQ], r3, fun {H' u' g} kk r' => ?_⟩
     rw [T.g6, hk]
     have q := h2 (q4 (k' := T.g6 p u' k) (fun c hc => kk c (by
       rcases ahZ.mp hc with h | h
       . simp [h]
       . simp [h])) (r4 (fun c hc => kk c (by
       rcases ahZ.mp hc with h | h
       . simp [h]
       . simp [h])) r'))
     simpa only [List.append_assoc] using q
theorem aY.CV (S : aY K CL b H Z δ σ ts vs) (ev : σ[i]? = some (some v0)) (hi : δ[i]? = some (some t0)) (hp : T.jR p t0 = some u) (fu : xV H v0 p w) : ∃ f2 gp, bu K CL H Z u w f2 /\ aI K CL H Z ts vs gp /\ (f2 ++ gp).Nodup ∧
   ∀ {a : Addr} {o : HO} {u' : T} {tl' : List T} {ZV : List V} {g EC : List Addr}, w = .ref a -> a ∈ f2 -> jd o = false -> bu K CL (upd H a o) Z u' w g -> aI K CL (upd H a o) Z tl' ZV EC -> (g ++ EC).Nodup -> (∀ c ∈ g ++ EC, c ∈ f2 ++ gp) →
     aY K CL b (upd H a o) Z (δ.set i (some (T.g6 p u' t0))) σ tl' ZV := by
 obtain ⟨fp, gp, e, r, nd, k⟩ := S.rep
 obtain ⟨v1, e1, e2, e3, hv, nL, rt, put, _⟩ := e.get hi
 rw [ev] at hv
 cases hv
 obtain ⟨w', f1, f2, f3, at', hf, ru, put2⟩ := rt.focus S.zh p hp
 have hw := at'.inj fu
 subst hw
 subst hf
 subst nL
 have Yk : ((e1 ++ ((f1 ++ (f2 ++ f3)) ++ e3)) ++ gp).Perm ((e1 ++ (f1 ++ (f3 ++ e3))) ++ (f2 ++ gp)) := ajJ.mpr fun c => by
   simp only [ajW]; omega
 have Vb := Yk.nodup_iff.mp nd
 have EJ := ais.mp Vb
 refine ⟨f2, gp, ru, r, EJ.2.1, fun {a o u' tl' ZV g EC} hwa ha hm hu ht S9 JC => ?_⟩
 have hup : ∀ c ∈ e1 ++ (f1 ++ (f3 ++ e3)), upd H a o c = H c := fun c hc => ao fun z => EJ.2.2 c hc a (ahR _ ha) z
 have q1 := put2 (H' := upd H a o) (fun c hc => hup c (by
   rcases ahZ.mp hc with h | h
   . simp [h]
   . simp [h])) hu
 have q2 := put (H' := upd H a o) (.refl _) (fun c hc => hup c (by
   rcases ahZ.mp hc with h | h
   . simp [h]
   . simp [h])) q1
 rw [fE ev] at q2
 have ZW : ((e1 ++ ((f1 ++ (g ++ f3)) ++ e3)) ++ EC).Perm ((e1 ++ (f1 ++ (f3 ++ e3))) ++ (g ++ EC)) := ajJ.mpr fun c => by
   simp only [ajW]; omega
 refine S.yR hm k (by simp [ha]) q2 ht (ZW.nodup_iff.mpr (ais.mpr ⟨EJ.1, S9, fun c hc d hd => EJ.2.2 c hc d (JC d hd)⟩)) fun c hc => ?_
 refine Yk.mem_iff.mpr ?_
 rcases ahZ.mp (ZW.mem_iff.mp hc) with h | h
 . exact ahR _ h
 . exact ahM _ (JC c h)
theorem aY.Ky (S : aY K CL b H Z δ σ ts vs) (ev : σ[i]? = some (some v0)) (hi : δ[i]? = some (some t0)) (hp : T.jR p t0 = some u) : ∃ w f2, xV H v0 p w /\ bu K CL H Z u w f2 := by
 obtain ⟨fp, gp, e, r, nd, k⟩ := S.rep
 obtain ⟨v1, e1, e2, e3, hv, nL, rt, put, _⟩ := e.get hi
 rw [ev] at hv
 cases hv
 obtain ⟨w', f1, f2, f3, at', hf, ru, put2⟩ := rt.focus S.zh p hp
 exact ⟨w', f2, at', ru⟩
theorem aY.PY (S : aY K CL b H Z δ σ (t :: ts) (v :: vs)) (ev : σ[i]? = some (some v0)) (hi : δ[i]? = some (some t0)) (hp : T.jR p t0 = some (.lst tl)) (fu : xV H v0 p w) :
   ∃ a us, w = .ref a /\ H a = some (.lst us) /\ us.length = tl.length /\ aY K CL b (upd H a (.lst (us ++ [v]))) Z (δ.set i (some (T.g6 p (.lst (tl ++ [t])) t0))) σ ts vs := by
 obtain ⟨f2, gp, ru, rr, nd, go⟩ := S.CV ev hi hp fu
 cases ru with
 | @lst a us _ g ha rs =>
   cases rr with
   | @cons _ _ _ _ ft gr q1 q2 =>
     have ne : ∀ c ∈ g ++ (ft ++ gr), c ≠ a := fun c hc z => by subst z; exact (aiE.mp nd).1 hc
     have pm : ((a :: (g ++ (ft ++ []))) ++ gr).Perm ((a :: g) ++ (ft ++ gr)) := ajJ.mpr fun c => by simp only [ajW, List.count_cons, List.count_nil]; omega
     exact ⟨a, us, rfl, ha, rs.length.symm, go rfl ahL rfl (.lst aB (aI.app (rs.mono (.refl _) fun c hc => ao (ne c (by simp [hc]))) (.cons (q1.mono (.refl _) fun c hc => ao (ne c (by simp [hc]))) .nil)))
       (q2.mono (.refl _) fun c hc => ao (ne c (by simp [hc]))) (pm.nodup_iff.mpr nd) fun c hc => pm.mem_iff.mp hc⟩
section
variable {X : Cx} {δ1 : Q.e} {e e0 e2 : Expr} {t1 : T} {Zw : List T} {d : L3.D} {D : dZ} {pos pa pb : Pos} {x c f : Str} {fC : List Stmt} {fs : List (Str × T)}
def Kz (X : Cx) (CL : Q.d) (b : Bx) (e : Expr) (δ : Q.e) (i : Nat) (p : List wJ) : Prop :=
 ∀ (H Z : Hp) (σ : L2.St) (ts : List T) (vs : List V) (Q : VK), aY X.K CL b H Z δ σ ts vs -> (∀ v0 v H' Z', ay Z Z' -> ay H H' -> aY X.K CL b H' Z' δ σ ts vs -> σ[i]? = some (some v0) -> xV H' v0 p v -> Q v H') -> Cu X e σ H Q
theorem f9 (n : Vn X i x) (h : δ[i]? = some (some t)) : Kz X CL b (.Name x pos) δ i [] := fun H Z σ ts vs Q S k => by
 obtain ⟨v, hv, _⟩ := S.look h
 exact bN (iX n.hi n.hv n.hd n.kE) ⟨v, hv, k v v H Z (.refl _) (.refl _) S hv rfl⟩
theorem pS (hc : tK X.K (CL c)) (n : aZ X.K (CL c) f) (h : Kz X CL b e δ i p) (hi : δ[i]? = some (some t)) (hg : T.jR p t = some (.ins c fs)) (hl : fs.lookup f = some u) (hb : attributeBase e f X.env (eval e X.env) = eval e X.env := by rfl) :
   Kz X CL b (.Attribute e f pos) δ i (p ++ [.fld f]) := fun H Z σ ts vs Q S k =>
 bN (Cg cA hb) (h H Z σ ts vs _ S fun v0 v H' Z' z s S' ev fu => by
   obtain ⟨w, f2, at', r⟩ := S'.Ky ev hi hg
   have := at'.inj fu
   subst this
   cases r with
   | @ins a dx _ gs _ g ha rs =>
     obtain ⟨w, _, _, _, hw, _, _, _⟩ := cI.at fs rs hl
     exact ⟨a, CL c, dx, gs, w, rfl, ha, hc, n, hw, k v0 w H' Z' z s S' ev (fu.snoc ⟨a, _, dx, gs, rfl, ha, hw⟩)⟩)
theorem vt {z : Int} {j : Nat} (h : Kz X CL b e δ i p) (hi : δ[i]? = some (some t)) (hg : T.jR p t = some (.lst tl)) (h2 : cU X CL b e2 δ (.int z) δ) (hk : Ep tl.length z = some j) (hp : k7 e2 := by exact fun _ _ => rfl) :
   Kz X CL b (.Subscript e e2 pos) δ i (p ++ [.ix j]) := fun H Z σ ts vs Q S k =>
 bN (xH yE cA cA hp) (h H Z σ ts vs _ S fun v0 v H' Z' z1 s1 S' ev fu => h2 H' Z' σ ts vs _ S' fun v2 H2 Z2 z2 s2 S2 r2 => by
   have at2 := fu.mono s2
   obtain ⟨w, f2, at', r⟩ := S2.Ky ev hi hg
   have := at'.inj at2
   subst this
   cases r with
   | @lst a us _ g ha rs =>
     have hj : j < tl.length := (tX hk).2.1
     obtain ⟨w, _, _, _, hw, _, _, _⟩ := rs.at (ahN hj)
     refine ⟨a, us, z, w, rfl, r2.sc rfl, kZ.of ha, ?_, k v0 w H2 Z2 (z1.trans z2) (s1.trans s2) S2 ev (at2.snoc ⟨a, us, rfl, .inl ha, hw⟩)⟩
     unfold rN
     rw [← rs.length, hk]
     exact hw)
theorem qF (h : Kz X CL b e δ i p) (hi : δ[i]? = some (some t)) (hg : T.jR p t = some u) (hd : u.bM = d) : cU X CL b e δ d δ := fun H Z σ ts vs Q S k =>
 h H Z σ ts vs _ S fun v0 v H' Z' z s S' ev fu => by
   obtain ⟨w, f2, at', r⟩ := S'.Ky ev hi hg
   have := at'.inj fu
   subst this
   subst hd
   exact k _ H' Z' z s S' (r.bM S'.zh fun _ _ => rfl)
theorem vv (hE : Kz X CL b e0 δ i p) (h0 : δ[i]? = some (some t0)) (hp0 : T.jR p t0 = some (.lst Zw)) (h : bI X CL b e δ t δ1) (h1 : δ1[i]? = some (some t1)) (ZX : T.jR p t1 = some (.lst tl)) (hl : tl.length <= 1000000) (k : dh X CL b fC (δ1.set i (some (T.g6 p (.lst (tl ++ [t])) t1))) D)
   (fU : attributeBase e0 "append" X.env (eval e0 X.env) = eval e0 X.env := by rfl)
   (mH : Q.C := by rfl)
   (hline : (pa.endLine == pb.line) = true := by rfl) (hs : Q.x := by exact aW rfl) (CD : swapsWith (.Call (.Attribute e0 "append" pa) [e] [] pb) none pos.line X.env = pure false := by rfl) :
   dh X CL b (.Expr (.Call (.Attribute e0 "append" pa) [e] [] pb) pos :: fC) δ D := cC fun H Z σ ts vs E S M =>
 pe (yu (Jm PySem.F.plainAttrs_list PySem.F.slot_list_append PySem.F.type_list_append rT cA (bL cA c5 hs) fU mH hline hs rfl) CD) (hE H Z σ ts vs _ S fun v0 v H0 Z0 z0 s0 S0 ev fu => by
   obtain ⟨w, f2, at', r⟩ := S0.Ky ev h0 hp0
   have := at'.inj fu
   subst this
   refine ⟨?_, h H0 Z0 σ ts vs _ S0 fun v2 H1 Z1 z1 k1 S1 => ?_⟩
   . cases r with
     | lst ha _ => exact .inl ⟨rfl, _, kZ.of ha⟩
   . obtain ⟨a, us, ea, ha, hu, S2⟩ := S1.PY ev h1 ZX (fu.mono k1)
     exact ⟨a, us, v2, ea, rfl, ha, by rw [hu]; exact ajQ hl (by rw [aic]; decide), M.nx _ σ _ Z1 (z0.trans z1) S2 k⟩)
end
theorem cI.none {m : Str} : ∀ {fs : List (Str × T)} {gs : List (Str × V)} {fp : List Addr}, cI K CL H Z fs gs fp -> fs.lookup m = none -> gs.lookup m = none := by
 intro fs
 induction fs with
 | nil => intro gs fp r _; cases r; rfl
 | cons p fs ih =>
   intro gs fp r h
   cases r with
   | cons q r =>
     rw [ain] at h ⊢
     split at h
     . cases h
     . exact ih r h
end L3
namespace L2
open PySem PySem.Spec PyProof.Rows
structure CW (K : Q.h) (C : Addr) : Prop where
 ha : PySem.W.findIn K (.ref C) "__class__" = some (some (.builtin "object.__class__"))
 hn : PySem.W.specialIn K (.builtin "object.__class__") "__get__" = some (some (.builtin "getset_descriptor.__get__"))
 tk : PySem.W.takesIn K (.builtin "object.__class__") = some true
 hm : PySem.W.mroIn K C (.type "object") = some true
variable {X : Cx}
theorem KC : g8 X (.builtin "isinstance") (fun xs H Q => ∃ (a C dx : Addr) (gs : List (Str × V)) (y : V) (bb : Bool), xs = [.ref a, y] /\ H a = some (.ins C dx gs) /\ tK X.K C /\ CW X.K C /\ Kv y = true /\ PySem.W.kitOne X.K (.ref C) (clsOf y) = some bb /\ Q (.bl bb) H) := by
 intro pins s σ H xs us Q I r h
 obtain ⟨a, C, dx, gs, y, bb, rfl, he, cc, O, hc, ha, q⟩ := h
 obtain ⟨u, u2, rfl, ru, ru2⟩ := r.two
 cases (show u = Value.ref a from ru)
 have fin : ∀ tk, EP X pins σ Q (.bool bb) { s with toks := tk } := fun tk => ⟨.bl _, H, I.tok tk, rfl, q⟩
 obtain ⟨mA, OM, _⟩ := yy I.cP he
 obtain ⟨od, J, _⟩ := OM.look
 rw [GY hc ru2]
 exact ajE (PySem.W.kitx_own (cc.get _) cc.hd O.ha O.hn O.tk O.hm) I.yq J ha (fun z => nomatch z) fin
end L2
namespace L3
open PySem PySem.Spec PyProof.Rows L2
theorem iI.none {K : Q.h} {CL : Q.d} {Z : Hp} {m : Str} : ∀ {fs : List (Str × D)} {gs : List (Str × V)}, iI K CL Z fs gs -> fs.lookup m = none -> gs.lookup m = none := by
 intro fs
 induction fs with
 | nil => intro gs r _; cases r; rfl
 | cons p fs ih =>
   intro gs r h
   cases r with
   | cons q r =>
     rw [ain] at h ⊢
     split at h
     . cases h
     . exact ih r h
section
variable {X : Cx} {CL : Q.d} {b : Bx} {δ δ1 : Q.e} {e1 e2 : Expr} {pos pp : Pos} {x c : Str} {fs : List (Str × L3.D)} {D : dZ} {A : Type} {k : Nat}
theorem VX {v : V} {bb : Bool} (cc : tK X.K (CL c)) (O : CW X.K (CL c)) (hm : X.mg "isinstance" = none) (hg : Gl X "isinstance") (h : JD X CL b [e1, e2] δ [.ins c fs, .val v] δ1) (hc : Kv v = true) (hk : PySem.W.kitOne X.K (.ref (CL c)) (clsOf v) = some bb)
   (hs : starEach [e1, e2] X.env = (false, eval e1 X.env) :: starEach [e2] X.env := by exact aW rfl) (hpl : (backTo pos (starEach [e2] X.env)).any (·.1) = false := by rfl) :
   bI X CL b (.Call (.Name "isinstance" pp) [e1, e2] [] pos) δ (.sh (.bl bb)) δ1 := fun H Z σ ts vs Q S k =>
 bN (gI KC hg hm boot_isinstance IB (he := hs) (hpl := hpl)) (h H Z σ ts vs _ S fun us H1 Z1 z1 k1 S1 r => by
   cases r with
   | cons r1 r =>
     cases r with
     | cons r2 r =>
       cases r
       cases r2
       cases r1 with
       | ins ha _ => exact ⟨_, _, _, _, v, bb, rfl, ha, cc, O, hc, hk, k _ H1 Z1 z1 k1 (S1.push (.bl _))⟩)
end
def VY {α : Type} : Nat -> (List α -> Prop) -> Prop
 | 0, P => P []
 | n + 1, P => ∀ a, VY n fun r => P (a :: r)
theorem vz {α : Type} {n : Nat} {P : List α -> Prop} (h : VY n P) : ∀ us : List α, us.length = n -> P us := by
 intro us hl
 induction us generalizing n P with
 | nil => subst hl; exact h
 | cons a r ih => subst hl; exact ih (P := fun r => P (a :: r)) (h a) rfl
abbrev mW (K : Q.h) (x : Str) (f : Addr) : Prop := PySem.W.nsIn K mainGlobals x = some (some (.ref f))
theorem VZ (P : Program) (w : World) (mg : Str -> Option Value) (base : Heap) {K : Q.h} {h : Heap} (CL : Q.d) (XX : K.In h) (G : h.Ns mainGlobals mg) {x qual : Str} {st : Stmt} {f : Addr} {fd : FuncData} {N ps : List Str} (k : Nat) {A : Type} (arg : A -> List D) (Pre : A -> Prop) (res : A -> T) (F : kG K x qual st f fd) (S : aQ N ps (au st)) (m : mW K x f)
   (hb : ∀ (i7 : Value) (Ar : Around) (outer : List Env) (s : Shared) (H : Hp) (E : XK) (b : Bx) (a : A), fk k (Ar.deeper (envOfC qual (au st) s.heap.objs.size f i7)) -> cV (u5 sR P w K mg base N qual (au st) f i7 Ar outer s H E).Ov -> Pre a →
     dh (u5 sR P w K mg base N qual (au st) f i7 Ar outer s H E).Ov CL b (fq st) (entry N (arg a)) { nx := fun _ => res a = .sh .non, rt := fun t _ => t = res a })
   (q : ∀ (kV doc pm : Value) (an : Option Addr) (i7 ct : Value), VY ps.length fun us => bindArgs (W.fnOf x qual (qv st) (fq st) (au st) Value.none kV doc pm an i7 ct) { pos := us } = pure (ps.zip us) := by (repeat intro _); rfl) :
   ∃ f fd ps', gH P w K mg base sR (k + 1) f fd ps' (IC K CL ps.length arg Pre res) /\ mg x = some (.ref f) /\ PySem.W.keepIn K (.ref f) = true /\ Binds K fd ps' [] := ⟨f, fd, ps, EB F S fun a b c d e f g h r p => hb a b c d e f g h r ⟨⟨S.nd, rfl, .never⟩, r.units⟩ p, ajO XX G m, F.kp, F.binds fun a b c d e f => vz (q a b c d e f)⟩
namespace Dk
variable {prog : Program} {w : World} {A : Around} {E : Q.k} {s : Shared} {it d : Addr} {i ep : Nat} {es : Array DictEntry} {od : Obj}
theorem Br {Q : Q.k} (hd : (d == sysModules) = false) (ho : s.heap.get? d = some od) (hT : s.TypeIs (.ref d) "dict") (jH : od.data = .dict es ep)
   (hQ : Q (.ref s.heap.objs.size) { s with heap := s.heap.push { cls := .type "dict_keyiterator", data := .fields #[.ref d, .int 0 0, .int es.size 0, .int ep 0] } }) : wpAny (model prog w) A (pyIter (.ref d)) Q E s := by
 refine wpAny_pyIter_slot hT PySem.F.slot_dict_iter (aiG PySem.F.slot_dict_iter hT PySem.F.entry_dict_iter ?_ (PySem.F.args_dict_iter_1 _))
 unfold Builtin.«dict.__iter__» Builtin.Dict.dictSlotNone
 refine ahJ (ahJ (aj0 hT (show wpAny _ _ (pure (Value.ref d)) _ _ s from ahO ?_)))
 show wpAny _ _ (Builtin.Dict.showsAll d >>= _) _ _ s
 unfold Builtin.Dict.showsAll
 rw [ahX (by rw [hd]; exact ah8)]
 exact wpAny_bind (wpAny_pure (wpAny_bind (wpAny_dictEntries ho jH (wpAny_bind (wpAny_dictEpoch ho jH (wpAny_bind (wpAny_newObj_type (wpAny_pure ⟨_, rfl, "dict_keyiterator", _, ⟨_, Heap.get?_push_size _ rfl, rfl⟩, PySem.F.slot_dict_keyiterator_next.lookup, by simpa [rawInt] using hQ⟩))))))))
theorem next_item {Q : Option Value -> Shared -> Prop} (hit : s.heap.IsKeyIter it d i es.size ep) (KD : s.heap.get? d = some od) (KG : od.data = .dict es ep) {e : DictEntry} (hx : es[i]? = some e)
   (hQ : ∀ h', h'.IsKeyIter it d (i + 1) es.size ep -> Heap.SameBut it s.heap h' -> Q (some e.key) { s with heap := h' }) : wpAny (model prog w) A (pyNext (.ref it)) Q E s := by
 obtain ⟨o, ho, hc, hd⟩ := id hit
 have CY : Builtin.Dict_items.ownsTuple "dict_keyiterator" = false := by decide
 unfold pyNext
 refine ahJ (ajN (aiW (name := Str.ofString "__next__") hit.typeIs ajd (aiG ajd hit.typeIs PySem.F.entry_dict_keyiterator_next (ahJ (ahO ?_)) (PySem.F.args_dict_keyiterator_next_1 _))))
 refine ahJ (ahJ (ahJ (ajw hit.typeIs (ahO (ahJ (wpAny_fieldsOf ho hd ?_))))))
 simp only [CY, ajo, ajs]
 show wpAny _ _ (if (Value.ref d == Value.none) = true then _ else _) _ _ s
 rw [ahX (show ¬ ((Value.ref d == Value.none) = true) from ah8)]
 refine ahJ (ahO (ahJ (aiP KD KG ?_)))
 rw [ahX (by simp)]
 refine ahJ (ahO (ahJ (ajF KD KG ?_)))
 rw [ahX (by simp)]
 refine ahO ?_
 obtain ⟨jD, he⟩ := aj9.mp hx
 simp only [show ¬ ((i : Int) < 0) from by omega, ajs, aij, ajq jD]
 refine ahJ (ahJ (ajw hit.typeIs (ahO (ahJ (wpAny_isOneOf_keyiter hit.typeIs ?_)))))
 show wpAny _ _ (setField (.ref it) 1 (rawInt ((i : Int) + 1)) >>= _) _ _ s
 have GJ : (s.heap.update it (Obj.mapFields (·.setIfInBounds 1 (rawInt ((i : Int) + 1))))).IsKeyIter it d (i + 1) es.size ep :=
   ⟨_, ajD _ ho (Obj.isFreed_of_fields (ajB hd _)), (Obj.cls_mapFields ..).trans hc, by rw [ajB hd]; simp [rawInt]⟩
 refine ahJ (ajZ ho hd (by simp) (ahJ (ajj (ahJ (wpAny_isOneOf_keyiter (s := { s with heap := s.heap.update it (Obj.mapFields (·.setIfInBounds 1 (rawInt ((i : Int) + 1)))) }) GJ.typeIs ?_)))))
 show wpAny _ _ (pure es[i].key) _ _ _
 rw [he]
 exact ahO (ahO ⟨_, rfl, ahO (hQ _ GJ (ai4 ..))⟩)
theorem next_end {Q : Option Value -> Shared -> Prop} (hh : A.handled = none) (hit : s.heap.IsKeyIter it d i es.size ep) (KD : s.heap.get? d = some od) (KG : od.data = .dict es ep) (hx : es.size <= i)
   (hQ : ∀ h', Heap.ExtBut it s.heap h' -> Q none { s with heap := h' }) : wpAny (model prog w) A (pyNext (.ref it)) Q E s := by
 obtain ⟨o, ho, hc, hd⟩ := id hit
 have CY : Builtin.Dict_items.ownsTuple "dict_keyiterator" = false := by decide
 unfold pyNext
 refine ahJ (ajN (aiW (name := Str.ofString "__next__") hit.typeIs ajd (aiG ajd hit.typeIs PySem.F.entry_dict_keyiterator_next (ahJ (ahO ?_)) (PySem.F.args_dict_keyiterator_next_1 _))))
 refine ahJ (ahJ (ahJ (ajw hit.typeIs (ahO (ahJ (wpAny_fieldsOf ho hd ?_))))))
 simp only [CY, ajo, ajs]
 show wpAny _ _ (if (Value.ref d == Value.none) = true then _ else _) _ _ s
 rw [ahX (show ¬ ((Value.ref d == Value.none) = true) from ah8)]
 refine ahJ (ahO (ahJ (aiP KD KG ?_)))
 rw [ahX (by simp)]
 refine ahJ (ahO (ahJ (ajF KD KG ?_)))
 rw [ahX (by simp)]
 refine ahO ?_
 simp only [show ¬ ((i : Int) < 0) from by omega, ajs, aij, Array.getElem?_eq_none hx]
 refine ahJ (ahJ (ajw hit.typeIs (ahO ?_)))
 show wpAny _ _ (setField (.ref it) 0 .none >>= _) _ _ s
 refine ahJ (ajZ ho hd (by simp) ?_)
 show wpAny _ _ (newExc (.type "StopIteration") [] >>= _) _ _ _
 refine ahJ ?_
 simp only [newExc, newTuple]
 refine ahJ (aiN (ahJ (m := firstArgMember _ _) (wpAny_of_eq (a := Value.none) (by first | rfl | (simp only [firstArgMember]; rfl)) (aiN ?_ (by size_fits)))) (by size_fits))
 simp only [raiseNew]
 refine ahJ (wpAny_handled ?_)
 rw [show A.in1.handled = none from hh]
 refine ahJ (ahO (wpAny_throw ?_))
 exact ahJ (aj4 (T := "StopIteration") (b := true) ⟨_, aif _ rfl, rfl⟩ isSubtype_stop (ahO (hQ _ (((ai4 ..).extBut.push _).push _))))
end Dk
end L3
namespace L2
open PySem PySem.Spec PyProof.Rows
variable {X : Cx} {pins : Q.j} {σ : St} {H : Hp} {s : Shared} {a : Addr} {gs : Q.m} {o : Obj}
theorem Inv.told {u u0 : HO} (I : Q.g) (ha : H a = some u0) (hu : cQ X.prog X.w (upd H a u) s.heap a u) (ht : ∀ xs, u0 ≠ .tup xs) (hz : ∀ ob q, X.H₀ a ≠ some (.bM ob q)) (hb : ∀ ps, u0 ≠ .Sw ps) (hw : ∀ y, u0 ≠ .own y) (hc : ∀ q, u0 ≠ .Sx q) : Inv X pins σ (upd H a u) s := by
 have ne : ∀ b, H b = none -> b ≠ a := fun b e z => by rw [z, ha] at e; cases e
 have n1 : ∀ b xs, H b = some (.tup xs) -> upd H a u b = some (.tup xs) := fun b xs e => by
   rw [ao fun z => by rw [z, ha] at e; cases e; exact ht _ rfl]; exact e
 refine ⟨I.ok, I.os, I.bare, ⟨I.base.keep, I.base.slot, fun b ob e n hx => ?_, I.base.there, fun b xs e => n1 b xs (I.base.wO b xs e), fun b ob q e => ?_, fun b ps e => ?_⟩, I.loc, I.cell, ?_, fun x c e => ?_, fun p hp => ?_, fun b v q => ?_, I.len⟩
 . have := I.base.free b ob e n hx
   rw [ao (ne b this)]; exact this
 . rw [ao fun z => by rw [z] at e; exact hz _ _ e]
   exact I.base.gj b ob q e
 . obtain ⟨more, q⟩ := I.base.wQ b ps e
   exact ⟨more, by rw [ao fun z => by rw [z, ha] at q; cases q; exact hb _ rfl]; exact q⟩
 . rw [ao (ne _ I.free)]; exact I.free
 . rw [ao (ne _ (I.mj x c e))]; exact I.mj x c e
 . obtain ⟨p1, p2, p3⟩ := I.pin p hp
   exact ⟨p1, by rw [ao (ne _ p2)]; exact p2, p3⟩
 . by_cases e : b = a
   . subst e
     rw [aB] at q
     cases q
     exact hu
   . rw [ao e] at q
     exact (I.cP b v q).uV (fun _ _ _ e => e) (fun c z => by rw [ao fun z2 => by rw [z2, ha] at z; cases z; exact hw _ rfl]; exact z) n1 fun c k z => by rw [ao fun z2 => by rw [z2, ha] at z; cases z; exact hc _ rfl]; exact z
theorem Inv.ZY (I : Q.g) (ha : H a = some (.dT gs)) : ∃ o, s.heap.get? a = some o /\ (∀ ob q, X.H₀ a ≠ some (.bM ob q)) /\ Inv X pins σ (upd H a Q.l) s := by
 have hz : ∀ ob q, X.H₀ a ≠ some (.bM ob q) := fun ob q e => by
   have := I.base.gj a ob q e
   rw [ha] at this; cases this
 have k := (show cQ X.prog X.w H s.heap a (.dT gs) from I.cP a _ ha)
 obtain ⟨_, _, _, _, o, es, ep, e, _⟩ := id k
 refine ⟨o, e, hz, I.told ha ⟨e, ?_⟩ (fun _ z => nomatch z) hz (fun _ z => nomatch z) (fun _ z => nomatch z) fun _ z => nomatch z⟩
 exact k.uV (fun _ _ _ e => e) (fun c z => by rw [ao fun z2 => by rw [z2, ha] at z; cases z]; exact z) (fun c xs z => by rw [ao fun z2 => by rw [z2, ha] at z; cases z]; exact z) fun c k z => by rw [ao fun z2 => by rw [z2, ha] at z; cases z]; exact z
theorem Inv.yX (I : Q.g) (ha : H a = some Q.l) (hz : ∀ ob q, X.H₀ a ≠ some (.bM ob q)) : Inv X pins σ (upd H a (.dT gs)) s := by
 obtain ⟨_, k⟩ := (show cQ X.prog X.w H s.heap a Q.l from I.cP a _ ha)
 refine I.told ha ?_ (fun _ z => nomatch z) hz (fun _ z => nomatch z) (fun _ z => nomatch z) fun _ z => nomatch z
 exact k.uV (fun _ _ _ e => e) (fun c z => by rw [ao fun z2 => by rw [z2, ha] at z; cases z]; exact z) (fun c xs z => by rw [ao fun z2 => by rw [z2, ha] at z; cases z]; exact z) fun c k z => by rw [ao fun z2 => by rw [z2, ha] at z; cases z]; exact z
def Itd (a : Addr) (o : Obj) (gs : Q.m) : It :=
 ⟨fun i H => i < gs.length /\ H a = some Q.l, fun i H x H' => H' = H /\ ∃ b k v, x = .ref b /\ gs[i]? = some (k, v) /\ H b = some (.tup (k.map kV)), fun i H => gs.length <= i /\ H a = some Q.l⟩
theorem Paired.PZ {α β : Type} {F : α -> β -> Prop} {l : List α} {m : List β} (r : Paired F l m) : ∀ {i : Nat} {x : α}, l[i]? = some x -> ∃ y, m[i]? = some y /\ F x y := by
 induction r with
 | nil => intro i x e; simp at e
 | cons h _ ih =>
   intro i x e
   cases i with
   | zero => cases e; exact ⟨_, rfl, h⟩
   | succ j => exact ih e
theorem KH {P : Program} {w : World} {K : Q.h} {tg : Expr} {it : Addr} {es : Array DictEntry} {ep : Nat} (jH : o.data = .dict es ep) : Turn P w K tg (Itd a o gs) [it] it (fun i h => h.IsKeyIter it a i es.size ep) where
 mem := by simp
 obj := fun i h st b hb => by
   have e : b = it := by simpa using hb
   subst e
   obtain ⟨ob, e, c, d⟩ := st
   exact ⟨ob, e, fun v z => by rw [d] at z; cases z⟩
 keep := fun i h h' st k => st.at fun ob e => k it (by simp) ob e
 item := by
   intro X hP hw hK hc i pins s σ H E I hf st hg
   subst hP hw hK
   obtain ⟨jD, ha⟩ := hg
   obtain ⟨e, z, y, xs, r, o', F9, SD, e', c, d, II, nd⟩ := (show cQ X.prog X.w H s.heap a Q.l from I.cP a _ ha)
   rw [e] at e'
   cases e'
   rw [jH] at d
   cases d
   obtain ⟨f0, f1, f2, f3, f4, f5⟩ := hf it (by simp)
   obtain ⟨q, hq, q1, q2, q3⟩ := Paired.PZ r (i := i) (x := gs[i]) (ahN jD)
   have hx : es[i]? = some (entryOfKey (tupleKind (eU X.prog X.w)) q) := by
     rw [← ajp, II, ahU, hq]
     rfl
   refine L3.Dk.next_item st e jH hx fun h' Ja sb => ?_
   have I1 : Inv X pins σ H { s with heap := h' } := I.turned (t' := s.toks) (fun b ob hb e => (sb.2 b hb).trans e) f0 f1 f3 f4 f5
   obtain ⟨ob, e2, c2, d2⟩ := id Ja
   exact ⟨_, rfl, Ei (s := { s with heap := h' }) e2 c2 d2 Q.c ⟨.ref q.2.1, H, I1, rfl, ⟨rfl, q.2.1, gs[i].1, gs[i].2, rfl, ahN jD, q2⟩, Ja, fun b hb => (hf b hb).1⟩⟩
 done := by
   intro X hP hw hK hc i pins s σ H E I hf st hg
   subst hP hw hK
   obtain ⟨hge, ha⟩ := hg
   obtain ⟨e, z, y, xs, r, o', F9, SD, e', c, d, II, nd⟩ := (show cQ X.prog X.w H s.heap a Q.l from I.cP a _ ha)
   rw [e] at e'
   cases e'
   rw [jH] at d
   cases d
   obtain ⟨f0, f1, f2, f3, f4, f5⟩ := hf it (by simp)
   have hl := ai9 r
   have hsz : es.size = xs.length := by rw [← ai3, II, ahK]
   exact L3.Dk.next_end (I.ok.hd hc) st e jH Q.a fun h' eb => ⟨rfl, I.turned (t' := s.toks) (fun b ob hb e => eb b ob hb e) f0 f1 f3 f4 f5⟩
 self := fun _ _ _ _ _ st h => wpAny_pyIter_keyiter st h
end L2
namespace L3
open PySem PySem.Spec PyProof.Rows L2
def Conv (Z Z' : Hp) : Prop := ∀ c o, Z c = some o -> Z' c = some o \/ (∃ gs ob, o = .dT gs /\ Z' c = some (.bM ob (.dT gs))) \/ ∃ gs ob, o = .bM ob (.dT gs) /\ Z' c = some (.dT gs)
variable {K : Q.h} {CL : Q.d} {Z Z' : Hp} {a : Addr}
theorem Conv.keep {o : HO} (e : Conv Z Z') (h : Z a = some o) (h1 : ∀ gs, o ≠ .dT gs) (h2 : ∀ gs ob, o ≠ .bM ob (.dT gs)) : Z' a = some o := by
 rcases e a o h with q | ⟨gs, ob, q, _⟩ | ⟨gs, ob, q, _⟩
 . exact q
 . exact absurd q (h1 gs)
 . exact absurd q (h2 gs ob)
theorem Conv.tY {xs : List V} (e : Conv Z Z') (h : kD K Z a xs) : kD K Z' a xs := by
 rcases h with (h | ⟨o, h⟩) | h
 . exact .inl (.inl Q.y)
 . exact .inl (.inr ⟨o, e.keep h (fun _ z => nomatch z) fun _ _ z => nomatch z⟩)
 . exact .inr h
theorem Conv.sqL {xs : List V} (e : Conv Z Z') (h : kZ K Z a xs) : kZ K Z' a xs := by
 rcases h with (h | ⟨o, h⟩) | h
 . exact .inl (.inl Q.y)
 . exact .inl (.inr ⟨o, e.keep h (fun _ z => nomatch z) fun _ _ z => nomatch z⟩)
 . exact .inr h
theorem Conv.rd {gs : Q.m} (e : Conv Z Z') (h : Rd Z a (.dT gs)) : Rd Z' a (.dT gs) := by
 rcases h with h | ⟨o, h⟩
 . rcases e a _ h with q | ⟨g, ob, q, z⟩ | ⟨g, ob, q, z⟩
   . exact .inl q
   . cases q; exact .inr ⟨ob, z⟩
   . cases q
 . rcases e a _ h with q | ⟨g, ob, q, z⟩ | ⟨g, ob, q, z⟩
   . exact .inr ⟨o, q⟩
   . cases q
   . cases q; exact .inl z
variable {v : V}
theorem aV.conv (e : Conv Z Z') {d : D} (h : aV K CL Z d v) : aV K CL Z' d v :=
 aV.rec (motive_1 := fun d v _ => aV K CL Z' d v) (motive_2 := fun d v _ => aA K CL Z' d v) (motive_3 := fun d v _ => iI K CL Z' d v) (motive_4 := fun d v _ => b8 K CL Z' d v) (motive_5 := fun d v _ => bY K CL Z' d v)
   .non .bl .int .str .any .val (fun h _ r => .tup (e.tY h) r) (fun h _ r => .lst (e.sqL h) r) (fun h _ r => .ins Q.y r) (fun h _ r => .oZ Q.y r) (fun h _ r => .dct (e.rd h) r) (fun h _ r => .jc Q.y r) .nil Q.q .nil Q.q .nil Q.q .nil Q.q h
theorem b8.conv (e : Conv Z Z') {d : List (Key × D)} {v : List (Key × V)} (h : b8 K CL Z d v) : b8 K CL Z' d v :=
 b8.rec (motive_1 := fun d v _ => aV K CL Z' d v) (motive_2 := fun d v _ => aA K CL Z' d v) (motive_3 := fun d v _ => iI K CL Z' d v) (motive_4 := fun d v _ => b8 K CL Z' d v) (motive_5 := fun d v _ => bY K CL Z' d v)
   .non .bl .int .str .any .val (fun h _ r => .tup (e.tY h) r) (fun h _ r => .lst (e.sqL h) r) (fun h _ r => .ins Q.y r) (fun h _ r => .oZ Q.y r) (fun h _ r => .dct (e.rd h) r) (fun h _ r => .jc Q.y r) .nil Q.q .nil Q.q .nil Q.q .nil Q.q h
theorem aA.conv (e : Conv Z Z') {d : List D} {v : List V} (h : aA K CL Z d v) : aA K CL Z' d v :=
 aA.rec (motive_1 := fun d v _ => aV K CL Z' d v) (motive_2 := fun d v _ => aA K CL Z' d v) (motive_3 := fun d v _ => iI K CL Z' d v) (motive_4 := fun d v _ => b8 K CL Z' d v) (motive_5 := fun d v _ => bY K CL Z' d v)
   .non .bl .int .str .any .val (fun h _ r => .tup (e.tY h) r) (fun h _ r => .lst (e.sqL h) r) (fun h _ r => .ins Q.y r) (fun h _ r => .oZ Q.y r) (fun h _ r => .dct (e.rd h) r) (fun h _ r => .jc Q.y r) .nil Q.q .nil Q.q .nil Q.q .nil Q.q h
variable {H : Hp} {t : T} {fp : List Addr}
theorem bu.conv {H' : Hp} (e : Conv Z Z') (k : ∀ a ∈ fp, H' a = H a) (h : bu K CL H Z t v fp) : bu K CL H' Z' t v fp :=
 bu.rec (motive_1 := fun t v fp _ => (∀ a ∈ fp, H' a = H a) -> bu K CL H' Z' t v fp) (motive_2 := fun t v fp _ => (∀ a ∈ fp, H' a = H a) -> aI K CL H' Z' t v fp) (motive_3 := fun t v fp _ => (∀ a ∈ fp, H' a = H a) -> cI K CL H' Z' t v fp) (motive_4 := fun t v fp _ => (∀ a ∈ fp, H' a = H a) -> bQ K CL H' Z' t v fp)
   (fun h _ => .sh (h.conv e)) (fun h _ r k => .tup Q.y (r k)) (fun h _ r k => .lst ((k _ ahL).trans h) Q.t) (fun h _ r k => .ins ((k _ ahL).trans h) Q.t) (fun h f k => .oZ ((k _ ahL).trans h) (b8.conv e f)) (fun h _ r k => .dct ((k _ ahL).trans h) Q.t) (fun _ r k => .pin (r k)) (fun h f k => .jc ((k _ ahL).trans h) (aA.conv e f)) (fun _ => .nil) Q.v (fun _ => .nil) Q.v (fun _ => .nil) Q.v h k
theorem aI.conv {H' : Hp} (e : Conv Z Z') {t : List T} {v : List V} (k : ∀ a ∈ fp, H' a = H a) (h : aI K CL H Z t v fp) : aI K CL H' Z' t v fp :=
 aI.rec (motive_1 := fun t v fp _ => (∀ a ∈ fp, H' a = H a) -> bu K CL H' Z' t v fp) (motive_2 := fun t v fp _ => (∀ a ∈ fp, H' a = H a) -> aI K CL H' Z' t v fp) (motive_3 := fun t v fp _ => (∀ a ∈ fp, H' a = H a) -> cI K CL H' Z' t v fp) (motive_4 := fun t v fp _ => (∀ a ∈ fp, H' a = H a) -> bQ K CL H' Z' t v fp)
   (fun h _ => .sh (h.conv e)) (fun h _ r k => .tup Q.y (r k)) (fun h _ r k => .lst ((k _ ahL).trans h) Q.t) (fun h _ r k => .ins ((k _ ahL).trans h) Q.t) (fun h f k => .oZ ((k _ ahL).trans h) (b8.conv e f)) (fun h _ r k => .dct ((k _ ahL).trans h) Q.t) (fun _ r k => .pin (r k)) (fun h f k => .jc ((k _ ahL).trans h) (aA.conv e f)) (fun _ => .nil) Q.v (fun _ => .nil) Q.v (fun _ => .nil) Q.v h k
variable {δ : Q.e} {σ : L2.St}
theorem dJ.conv {H' : Hp} (e : Conv Z Z') (k : ∀ a ∈ fp, H' a = H a) (r : dJ K CL H Z δ σ fp) : dJ K CL H' Z' δ σ fp := by
 induction r with
 | nil => exact .nil
 | skip _ ih => exact .skip (ih k)
 | cons r _ ih => exact .cons (r.conv e fun a ha => k a (ahR _ ha)) (ih fun a ha => k a (ahM _ ha))
def adt (X : Cx) (te : TE) : TI := fun σ H R => te σ H fun x H1 => ∃ a gs, x = .ref a /\ ((H1 a = some (.dT gs) /\ ∀ o, (∀ ob q, X.H₀ a ≠ some (.bM ob q)) -> R (Itd a o gs) (upd H1 a Q.l)) \/ ∃ o, H1 a = some Q.l /\ R (Itd a o gs) H1)
variable {X : Cx}
theorem V0 {tg e : Expr} {te : TE} (he : PE X e te) : PI X tg e (adt X te) := by
 intro pins s σ H R I h
 refine eO (he pins s σ H _ I h) fun v s1 zz => ?_
 obtain ⟨x, H1, I1, r1, a, gs, ex, q⟩ := zz
 subst ex
 cases r1
 have main : ∀ (H2 : Hp) (o : Obj), L2.Inv X pins σ H2 s1 -> H2 a = some Q.l -> R (Itd a o gs) H2 -> wpAny Q.f X.A (pyIter (.ref a)) (YK X pins σ tg R) X.xe s1 := fun H2 o I2 ha hR => by
   obtain ⟨e, z, y, xs, r, o', es, ep, e', c, d, II, nd⟩ := (show cQ X.prog X.w H2 s1.heap a Q.l from I2.cP a _ ha)
   rw [e] at e'
   cases e'
   obtain ⟨_, _, _, _, dd⟩ := kJ I2.cP (.inr ⟨o, ha⟩)
   refine Dk.Br y e dd.typeIs d ?_
   refine ⟨s1.heap.objs.size, [s1.heap.objs.size], _, _, H2, rfl, I2.kept (t' := s1.toks) fun b ob e => ah5 _ e, KH d, ⟨_, aif _ rfl, rfl, rfl⟩, fun b hb => ?_, hR⟩
   have e : b = s1.heap.objs.size := by simpa using hb
   subst e
   exact I2.wR (ah0 _) (I2.cP.fresh (ah0 _))
 rcases q with ⟨ha, q⟩ | ⟨o, ha, q⟩
 . obtain ⟨o, e, hz, I2⟩ := I1.ZY ha
   exact main _ o I2 aB (q o hz)
 . exact main _ o I1 ha q
def V1 (X : Cx) (E : Ends) : Ends :=
 { nx := fun σ H => E.nx σ H \/ ∃ a o gs, H a = some Q.l /\ (∀ ob q, X.H₀ a ≠ some (.bM ob q)) /\ E.nx σ (upd H a (.dT gs))
   rt := fun v H => E.rt v H \/ ∃ a o gs, H a = some Q.l /\ (∀ ob q, X.H₀ a ≠ some (.bM ob q)) /\ E.rt v (upd H a (.dT gs))
   bk := E.bk
   ct := E.ct }
theorem xW {st : Stmt} {E : Ends} (h : Jz X st (V1 X E) σ H) : Jz X st E σ H := fun pins s I => by
 refine aja (h pins s I) (fun f s' z => ?_) fun _ _ z => z
 cases f with
 | next =>
   obtain ⟨σ', H', I', q⟩ := z
   rcases q with q | ⟨a, o, gs, ha, hz, q⟩
   . exact ⟨σ', H', I', q⟩
   . exact ⟨σ', _, I'.yX ha hz, q⟩
 | ret u =>
   obtain ⟨v, σ', H', I', r, q⟩ := z
   rcases q with q | ⟨a, o, gs, ha, hz, q⟩
   . exact ⟨v, σ', H', I', r, q⟩
   . exact ⟨v, σ', _, I'.yX ha hz, r, q⟩
 | brk => exact z
 | cont => exact z
def mX (b : Bx) (a : Addr) (F : HO) : Bx := ⟨fun c => if c = a /\ (b.B a).isSome = true then some F else b.B c, fun c => if c = a /\ (b.Z a).isSome = true then some F else b.Z c⟩
variable {b : Bx} {ts : List T} {vs : List V} {gs : Q.m} {o : Obj}
theorem dX {F : HO} {c : Addr} (h : c ≠ a) : (mX b a F).B c = b.B c /\ (mX b a F).Z c = b.Z c := ⟨ahX fun z => h z.1, ahX fun z => h z.1⟩
theorem aY.still (S : aY K CL b H Z δ σ ts vs) (ha : Z a = some (.dT gs)) (o : Obj) : aY K CL (mX b a Q.l) (upd H a Q.l) (upd Z a Q.l) δ σ ts vs := by
 have cv : Conv Z (upd Z a Q.l) := fun c u q => by
   by_cases e : c = a
   . subst e
     rw [ha] at q
     cases q
     exact .inr (.inl ⟨gs, o, rfl, aB⟩)
   . exact .inl (by rw [ao e]; exact q)
 obtain ⟨fp, gp, e, r, nd, k⟩ := S.rep
 have ne : ∀ c ∈ fp ++ gp, c ≠ a := fun c hc z => by
   have := (k c hc).1
   rw [z, ha] at this; cases this
 have hH := S.zh a _ ha
 refine ⟨⟨fp, gp, e.conv cv fun c hc => ao (ne c (ahR _ hc)), r.conv cv fun c hc => ao (ne c (ahM _ hc)), nd, fun c hc => ⟨by rw [ao (ne c hc)]; exact (k c hc).1, by rw [(dX (ne c hc)).1]; exact (k c hc).2⟩⟩, fun c u q => ?_, fun c u q => ?_, fun c u q => ?_, fun c u q z => ?_, fun c u q im => ?_, fun x hx h0 => ?_⟩
 . by_cases e : c = a
   . subst e
     rw [aB]
     have q : (if c = c /\ (b.B c).isSome = true then some _ else b.B c) = some u := q
     by_cases hs : (b.B c).isSome = true
     . rw [ah7 ⟨rfl, hs⟩] at q; exact q
     . rw [ahX fun z => hs z.2] at q
       rw [q] at hs; exact absurd rfl hs
   . rw [(dX e).1] at q
     rw [ao e]; exact S.bh c u q
 . by_cases e : c = a
   . subst e
     rw [aB]
     have q : (if c = c /\ (b.Z c).isSome = true then some _ else b.Z c) = some u := q
     by_cases hs : (b.Z c).isSome = true
     . rw [ah7 ⟨rfl, hs⟩] at q; exact q
     . rw [ahX fun z => hs z.2] at q
       rw [q] at hs; exact absurd rfl hs
   . rw [(dX e).2] at q
     rw [ao e]; exact S.zz c u q
 . by_cases e : c = a
   . subst e
     rw [aB] at q ⊢; exact q
   . rw [ao e] at q ⊢; exact S.zh c u q
 . by_cases e : c = a
   . subst e
     have z : (if c = c /\ (b.Z c).isSome = true then some _ else b.Z c) = none := z
     have hz : b.Z c = none := by
       by_cases hs : (b.Z c).isSome = true
       . rw [ah7 ⟨rfl, hs⟩] at z; cases z
       . rw [ahX fun z => hs z.2] at z; exact z
     have hB := S.new c _ ha hz
     show (if c = c /\ (b.B c).isSome = true then some _ else b.B c) = none
     rw [ahX fun z => by rw [hB] at z; exact absurd z.2 Q.c]
     exact hB
   . rw [ao e] at q
     rw [(dX e).2] at z
     rw [(dX e).1]; exact S.new c u q z
 . by_cases e : c = a
   . subst e
     rw [aB] at q ⊢; exact q
   . rw [ao e] at q ⊢; exact S.tp c u q im
 . have q := S.tab x hx h0
   have e : CL x ≠ a := fun z => by
     have := S.zz _ _ q
     rw [z, ha] at this; cases this
   rw [(dX e).2]; exact q
theorem aY.yX (S : aY K CL (mX b a Q.l) H Z δ σ ts vs) (ha : Z a = some Q.l) (h1 : ∀ u, b.B a = some u -> u = .dT gs) (h2 : ∀ u, b.Z a = some u -> u = .dT gs) (h3 : b.Z a = none -> b.B a = none) : aY K CL b (upd H a (.dT gs)) (upd Z a (.dT gs)) δ σ ts vs := by
 have cv : Conv Z (upd Z a (.dT gs)) := fun c u q => by
   by_cases e : c = a
   . subst e
     rw [ha] at q
     cases q
     exact .inr (.inr ⟨gs, o, rfl, aB⟩)
   . exact .inl (by rw [ao e]; exact q)
 obtain ⟨fp, gp, e, r, nd, k⟩ := S.rep
 have ne : ∀ c ∈ fp ++ gp, c ≠ a := fun c hc z => by
   have := (k c hc).1
   rw [z, ha] at this; cases this
 refine ⟨⟨fp, gp, e.conv cv fun c hc => ao (ne c (ahR _ hc)), r.conv cv fun c hc => ao (ne c (ahM _ hc)), nd, fun c hc => ⟨by rw [ao (ne c hc)]; exact (k c hc).1, by rw [← (dX (F := .bM o (.dT gs)) (ne c hc)).1]; exact (k c hc).2⟩⟩, fun c u q => ?_, fun c u q => ?_, fun c u q => ?_, fun c u q z => ?_, fun c u q im => ?_, fun x hx h0 => ?_⟩
 . by_cases e : c = a
   . subst e
     rw [aB, h1 u q]
   . rw [ao e]
     exact S.bh c u (by rw [(dX e).1]; exact q)
 . by_cases e : c = a
   . subst e
     rw [aB, h2 u q]
   . rw [ao e]
     exact S.zz c u (by rw [(dX e).2]; exact q)
 . by_cases e : c = a
   . subst e
     rw [aB] at q ⊢; exact q
   . rw [ao e] at q ⊢; exact S.zh c u q
 . by_cases e : c = a
   . subst e
     exact h3 z
   . rw [ao e] at q
     have := S.new c u q (by rw [(dX e).2]; exact z)
     rwa [(dX e).1] at this
 . by_cases e : c = a
   . subst e
     rw [aB] at q
     cases q
     cases im
   . rw [ao e] at q ⊢; exact S.tp c u q im
 . have q := S.tab x hx h0
   have e : CL x ≠ a := fun z => by
     have := S.zz _ _ q
     rw [z, ha] at this; cases this
   rwa [(dX e).2] at q
theorem aY.EK (S : aY K CL b H Z δ σ ts vs) (r : bu K CL H Z t v []) : aY K CL b H Z δ σ (t :: ts) (v :: vs) := by
 obtain ⟨fp, gp, e, q, nd, k⟩ := S.rep
 exact ⟨⟨fp, [] ++ gp, e, .cons r q, nd, k⟩, S.bh, S.zz, S.zh, S.new, S.tp, S.tab⟩
section
variable {δ1 : Q.e} {e : Expr} {D : dZ} {pos pos' : Pos} {x : Str} {i : Nat} {fC body : List Stmt} {kvs : List (List Key × L3.D)}
theorem P0 (g : Gx X) (nm : Ln X i x) (P : Nat -> List (Option T) -> Prop) (h : bI X CL b e δ (.sh (.dct kvs)) δ1) (h0 : P 0 δ1) (hl : ∀ j δ, P j δ -> i < δ.length)
   (hs : ∀ (b' : Bx) (j : Nat) (k : List Key) (d : L3.D) δ, kvs[j]? = some (k, d) -> P j δ -> dh X CL b' body (δ.set i (some (fP k))) { nx := P (j + 1), rt := D.rt, bk := fun δ2 => dh X CL b fC δ2 D, ct := P (j + 1) }) (hd : ∀ δ, P kvs.length δ -> dh X CL b fC δ D)
   (hq : ∀ x, foldedSetIterable e X.env x = pure x := by intro _; rfl) : dh X CL b (.For (.Name x pos') e body [] pos :: fC) δ D := cC fun H Z σ ts vs E S M =>
 xW (pe (yw g.xe g.calm (V0 cA) (jS g.nd nm.hi nm.loc nm.hf) JA hq) (h H Z σ ts vs _ S fun v H1 Z1 z1 k1 S1 => by
   have r := S1.mz
   cases r with
   | @dct a gs _ ha rr =>
     have wK : kvs.length = gs.length := rr.length
     have tH : ∀ (j : Nat) (k : List Key) (v : V), gs[j]? = some (k, v) -> ∃ d, kvs[j]? = some (k, d) := fun j k v hj => by
       have e1 := congrArg (·[j]?) rr.keys
       simp only [ahU, hj] at e1
       obtain ⟨p, hp, e2⟩ := aib.mp e1
       have e2 : p.1 = k := e2
       exact ⟨p.2, by rw [hp, ← e2]⟩
     have P1 : ∀ {Z2 H2 : Hp} {kb : Addr} {k : List Key}, (∀ a o, H2 a = some o -> jd o = true -> Z2 a = some o) -> H2 kb = some (.tup (k.map kV)) -> bu X.K CL H2 Z2 (fP k) (.ref kb) [] := fun tp hk => .tup (tp _ _ hk rfl) (aI.ofF (qB _))
     rcases ha with ha | ⟨o, ha⟩
     . have hH := S1.zh a _ ha
       refine ⟨a, gs, rfl, .inl ⟨hH, fun o hz => ?_⟩⟩
       have S2 := S1.pop.still ha o
       have t1 : ∀ u, b.B a = some u -> u = .dT gs := fun u q => by
         have := S1.bh a u q
         rw [hH] at this; exact (aie this).symm
       have t2 : ∀ u, b.Z a = some u -> u = .dT gs := fun u q => by
         have := S1.zz a u q
         rw [ha] at this; exact (aie this).symm
       have t3 : b.Z a = none -> b.B a = none := S1.new a _ ha
       have back : ∀ {Z2 : Hp}, ay (upd Z1 a Q.l) Z2 -> ay Z (upd Z2 a (.dT gs)) := fun {Z2} s c u q => by
         have q1 := z1 c u q
         by_cases e : c = a
         . subst e
           rw [ha] at q1
           cases q1
           exact aB
         . rw [ao e]
           exact s c u (by rw [ao e]; exact q1)
       refine ⟨fun j m σ H2 => m = gs.length - j /\ j <= gs.length /\ ∃ Z2 δ2, ay (upd Z1 a Q.l) Z2 /\ aY X.K CL (mX b a Q.l) H2 Z2 δ2 σ ts vs /\ P j δ2, ⟨_, rfl, aiB _, _, δ1, .refl _, S2, h0⟩, ?_⟩
       rintro j m σ2 H2 ⟨rfl, hj, Z2, δ2, s, S3, p2⟩
       have za : Z2 a = some Q.l := s a _ aB
       by_cases jD : j < gs.length
       . refine .inr ⟨⟨jD, S3.zh a _ za⟩, fun σ' H' => ∃ Z2 δ2, ay (upd Z1 a Q.l) Z2 /\ aY X.K CL (mX b a Q.l) H' Z2 δ2 σ' ts vs /\ P (j + 1) δ2, fun σ' H' h => ⟨gs.length - (j + 1), by omega, rfl, jD, h⟩, fun y H' hy => ?_⟩
         obtain ⟨rfl, kb, k, v, rfl, hg, hk⟩ := hy
         obtain ⟨d, yr⟩ := tH j k v hg
         have S4 := (S3.EK (P1 S3.tp hk)).set (hl j δ2 p2)
         exact hs _ j k d δ2 yr p2 _ Z2 _ ts vs _ S4 ⟨fun δ' σ' H' Z' s' S' k => ⟨Z', δ', s.trans s', S', k⟩, fun t v H' Z' δ' σ' s' S' k => .inr ⟨a, o, gs, S'.zh a _ (s' a _ za), hz, M.rt t v _ _ δ' σ' (back (s.trans s')) (S'.yX (s' a _ za) t1 t2 t3) k⟩, fun δ' σ' H' Z' s' S' k => .inr ⟨a, o, gs, S'.zh a _ (s' a _ za), hz, M.nx δ' σ' _ _ (back (s.trans s')) (S'.yX (s' a _ za) t1 t2 t3) k⟩, fun δ' σ' H' Z' s' S' k => ⟨Z', δ', s.trans s', S', k⟩⟩
       . have ej : j = gs.length := by omega
         subst ej
         exact .inl ⟨⟨ah0 _, S3.zh a _ za⟩, .inr ⟨a, o, gs, S3.zh a _ za, hz, M.nx δ2 σ2 _ _ (back s) (S3.yX za t1 t2 t3) (hd δ2 (wK ▸ p2))⟩⟩
     . refine ⟨a, gs, rfl, .inr ⟨o, S1.zh a _ ha, ?_⟩⟩
       refine ⟨fun j m σ H2 => m = gs.length - j /\ j <= gs.length /\ ∃ Z2 δ2, ay Z1 Z2 /\ aY X.K CL b H2 Z2 δ2 σ ts vs /\ P j δ2, ⟨_, rfl, aiB _, _, δ1, .refl _, S1.pop, h0⟩, ?_⟩
       rintro j m σ2 H2 ⟨rfl, hj, Z2, δ2, s, S3, p2⟩
       have za : Z2 a = some Q.l := s a _ ha
       by_cases jD : j < gs.length
       . refine .inr ⟨⟨jD, S3.zh a _ za⟩, fun σ' H' => ∃ Z2 δ2, ay Z1 Z2 /\ aY X.K CL b H' Z2 δ2 σ' ts vs /\ P (j + 1) δ2, fun σ' H' h => ⟨gs.length - (j + 1), by omega, rfl, jD, h⟩, fun y H' hy => ?_⟩
         obtain ⟨rfl, kb, k, v, rfl, hg, hk⟩ := hy
         obtain ⟨d, yr⟩ := tH j k v hg
         have S4 := (S3.EK (P1 S3.tp hk)).set (hl j δ2 p2)
         exact hs _ j k d δ2 yr p2 _ Z2 _ ts vs _ S4 ⟨fun δ' σ' H' Z' s' S' k => ⟨Z', δ', s.trans s', S', k⟩, fun t v H' Z' δ' σ' s' S' k => .inl (M.rt t v _ _ δ' σ' (z1.trans (s.trans s')) S' k), fun δ' σ' H' Z' s' S' k => .inl (M.nx δ' σ' _ _ (z1.trans (s.trans s')) S' k), fun δ' σ' H' Z' s' S' k => ⟨Z', δ', s.trans s', S', k⟩⟩
       . have ej : j = gs.length := by omega
         subst ej
         exact .inl ⟨⟨ah0 _, S3.zh a _ za⟩, .inl (M.nx δ2 σ2 _ _ (z1.trans s) S3 (hd δ2 (wK ▸ p2)))⟩))
theorem yZ {ks : List Key} (n : Vn X i x) (h : δ[i]? = some (some (fP ks))) : bI X CL b (.Name x pos) δ (fP ks) δ := fun H Z σ ts vs Q S k => by
 obtain ⟨fp, gp, e, q, nd, kk⟩ := S.rep
 obtain ⟨v, f1, f2, f3, hv, nL, rt, _, _⟩ := e.get h
 have h2 : f2 = [] := by
   cases rt with
   | tup hz rr => exact (aI.toF rr).2
 subst h2
 exact bN (iX n.hi n.hv n.hd n.kE) ⟨v, hv, k v H Z (.refl _) (.refl _) (S.EK rt)⟩
end
variable {t0 : T} {v0 w : V} {i : Nat} {p : List wJ} {kvs : List (List Key × T)} {k : List Key}
theorem bQ.fresh (rs : bQ K CL H Z kvs gs fp) (hk : k ∉ kvs.map (·.1)) (v : V) : putK gs k v = gs ++ [(k, v)] := by
 refine Js v ?_
 cases hx : gn gs k with
 | none => rfl
 | some z =>
   exfalso
   refine hk ?_
   rw [rs.keys]
   unfold gn at hx
   obtain ⟨q, hf, _⟩ := aib.mp hx
   have h0 := List.find?_some hf
   have h1 : q.1 = k := aix h0
   rw [← h1]
   exact List.mem_map_of_mem (List.mem_of_find?_eq_some hf)
theorem aY.P4 (S : aY K CL b H Z δ σ (t :: ts) (v :: vs)) (ev : σ[i]? = some (some v0)) (hi : δ[i]? = some (some t0)) (hp : T.jR p t0 = some (.dct kvs)) (fu : xV H v0 p w) (hk : k ∉ kvs.map (·.1)) :
   ∃ a gs, w = .ref a /\ H a = some (.dT gs) /\ gs.length = kvs.length /\ aY K CL b (upd H a (.dT (putK gs k v))) Z (δ.set i (some (T.g6 p (.dct (kvs ++ [(k, t)])) t0))) σ ts vs := by
 obtain ⟨f2, gp, ru, rr, nd, go⟩ := S.CV ev hi hp fu
 cases ru with
 | @dct a gs _ g ha rs =>
   cases rr with
   | @cons _ _ _ _ ft gr q1 q2 =>
     have ne : ∀ c ∈ g ++ (ft ++ gr), c ≠ a := fun c hc z => by subst z; exact (aiE.mp nd).1 hc
     have pm : ((a :: (g ++ (ft ++ []))) ++ gr).Perm ((a :: g) ++ (ft ++ gr)) := ajJ.mpr fun c => by simp only [ajW, List.count_cons, List.count_nil]; omega
     refine ⟨a, gs, rfl, ha, rs.length.symm, ?_⟩
     rw [rs.fresh hk]
     exact go rfl ahL rfl (.dct aB (bQ.snoc (rs.mono (.refl _) fun c hc => ao (ne c (by simp [hc]))) (q1.mono (.refl _) fun c hc => ao (ne c (by simp [hc])))))
       (q2.mono (.refl _) fun c hc => ao (ne c (by simp [hc]))) (pm.nodup_iff.mpr nd) fun c hc => pm.mem_iff.mp hc
section
variable {δ1 : Q.e} {e e0 e2 : Expr} {t1 : T} {D : dZ} {pos ps : Pos} {fC : List Stmt}
theorem P5 (k : List Key) (hu : X.A.units + 64 < cLine) (h : bI X CL b e δ t δ1) (hE : Kz X CL b e0 δ1 i p) (h2 : bI X CL b e2 δ1 (fP k) δ1) (h1 : δ1[i]? = some (some t1)) (ZX : T.jR p t1 = some (.dct kvs)) (hk : k ∉ kvs.map (·.1)) (hl : kvs.length <= 1000000) (kk : dh X CL b fC (δ1.set i (some (T.g6 p (.dct (kvs ++ [(k, t)])) t1))) D)
   (hs : swapsWith e (some (.Subscript e0 e2 ps)) pos.line X.env = pure false := by rfl) : dh X CL b (.Assign [.Subscript e0 e2 ps] e pos :: fC) δ D := cC fun H Z σ ts vs E S M =>
 pe (Eu Q.a cA cA cA hs) (h H Z σ ts vs _ S fun v H1 Z1 z1 k1 S1 => hE H1 Z1 σ _ _ _ S1 fun v0 w H2 Z2 z2 k2 S2 ev fu => h2 H2 Z2 σ _ _ _ S2 fun v2 H3 Z3 z3 k3 S3 => by
   obtain ⟨kb, rfl, hb⟩ := S3.vq
   obtain ⟨a, gs, ea, ha, hg, S4⟩ := S3.pop.P4 ev h1 ZX (fu.mono k3) hk
   exact ⟨a, _, ea, Gu.t ha hb (by rw [hg]; exact ajQ hl (by rw [aic]; decide)), M.nx _ σ _ Z3 (z1.trans (z2.trans z3)) S4 kk⟩)
end
end L3
namespace L2
open PySem PySem.Spec PyProof.Rows
variable {X : Cx} {pins : Q.j} {σ : St} {H : Hp} {s : Shared} {a b : Addr} {k : List Key} {gs : Q.m} {v : V} {r : Value} {A : Around} {E : Q.k}
theorem y9 (I : Q.g) (h : kD X.K H b (k.map kV)) : (tupleKind (eU X.prog X.w)).is s.heap k b := by
 obtain ⟨its, rv, ⟨o, h1, h2, n, h3⟩, hz⟩ := I.tuple h
 exact ⟨o, its.toArray, n, h1, h2, h3, by simpa using rV rv⟩
theorem G0 {Q : Q.k} (hu : A.units + 1 < cLine) (I : Q.g) (e : Rd H a (.dT gs)) (hb : kD X.K H b (k.map kV)) (l : gn gs k = some v) (h : ∀ w' s', Inv X pins σ H s' -> RelV v w' -> Q w' s') : wpAny Q.f A (getItem (.ref a) (.ref b)) Q E s := by
 obtain ⟨z, hd, xs, rel, dd⟩ := kJ I.cP e
 obtain ⟨w', hw, A1⟩ := oY.some_of (v := v) (o := (atKey xs k).map (·.2)) (by rw [← l]; exact rel.val k)
 obtain ⟨p, hp, AI⟩ := aib.mp hw
 refine wpAny_getItem_heap (ajA hu) (y9 I hb) dd hp ?_
 rw [AI]
 exact h w' _ (I.tok _) A1
theorem G3 {Q : Unit -> Shared -> Prop} (hu : A.units + 1 < cLine) (I : Q.g) (e : H a = some (.dT gs)) (hb : kD X.K H b (k.map kV)) (l : (gn gs k).isSome = true) (rv : RelV v r) (h : ∀ s', Inv X pins σ (upd H a (.dT (gs.map fun kv => if kv.1 = k then (kv.1, v) else kv))) s' -> Q () s') : wpAny Q.f A (setItem (.ref a) (.ref b) r) Q E s := by
 obtain ⟨z, hd, xs, rel, dd⟩ := SV I.cP e
 have hz : xs.length <= sizeLine := by rw [← ai9 rel]; exact z
 have ha : (atKey xs k).isSome = true := by
   have := (rel.val k).xM
   rw [l, Option.isSome_map] at this
   exact this.symm
 refine wpAny_setItem_heap (hsz := hz) (ajA hu) (y9 I hb) dd fun h' A3 hs => h _ ?_
 obtain ⟨q, es, ep, hq, h2, h3, h4, _, h5⟩ := A3
 have est : storedH xs k b r = xs.map (putAt k r) := by unfold storedH; rw [ah7 ha]
 rw [est] at h4 h5
 refine qx I (by rw [e]; exact True.intro) hs ⟨q, hq⟩ ⟨by rw [ahK]; exact z, hd, _, (rel.repl k rv).keeps fun c ys ec => ?_, q, es, ep, hq, h2, h3, h4, h5⟩
 rw [ao (Sy ec e (fun z => nomatch z))]
 exact ec
variable {o i value : Expr} {td ty tv : TE} {pos pos' : Pos}
def ZZ (X : Cx) (td ty : TE) : TE := fun σ H Q => td σ H fun x H1 => ty σ H1 fun y H2 => ∃ a v gs k b, x = .ref a /\ y = .ref b /\ Rd H2 a (.dT gs) /\ kD X.K H2 b (k.map kV) /\ gn gs k = some v /\ Q v H2
theorem EL (hu : X.A.units + 1 < cLine) (ho : PE X o td) (hi : PE X i ty) (hs : yI i) : PE X (.Subscript o i pos) (ZZ X td ty) := by
 intro pins s σ H Q I h
 refine yJ akc.lookup hs (eO (ho pins s σ H _ I h) fun u s1 ⟨x, H1, I1, rx, q1⟩ => eO (hi pins s1 σ H1 _ I1 q1) fun iv s2 zz => ?_)
 obtain ⟨y, H2, I2, ry, a, v, gs, k, b, ex, ey, g, hb, l, q2⟩ := zz
 subst ex ey
 obtain rfl : u = Value.ref a := rx
 obtain rfl : iv = Value.ref b := ry
 obtain ⟨_, _, _, _, dd⟩ := kJ I2.cP g
 exact ⟨dd.typeIs, G0 hu I2 g hb l fun w' s3 I3 A1 => ⟨v, H2, I3, A1, q2⟩⟩
def Z6 (X : Cx) (td ty tv : TE) : TS := fun D σ H => tv σ H fun v H1 => td σ H1 fun x H2 => ty σ H2 fun y H3 => ∃ a gs k b, x = .ref a /\ y = .ref b /\ H3 a = some (.dT gs) /\ kD X.K H3 b (k.map kV) /\ (gn gs k).isSome = true /\ D.nx σ (upd H3 a (.dT (gs.map fun kv => if kv.1 = k then (kv.1, v) else kv)))
theorem P6 (hu : X.A.units + 1 < cLine) (ho : PE X o td) (hi : PE X i ty) (hv : PE X value tv) (hs : swapsWith value (some (.Subscript o i pos')) pos.line X.env = pure false) :
   PS X (.Assign [.Subscript o i pos'] value pos) (Z6 X td ty tv) := by
 intro pins s σ H D I h
 refine wpAny_Assign_Subscript (eO (hv pins s σ H _ I h) fun r s1 ⟨v, H1, I1, rv, q1⟩ => eO (ho pins s1 σ H1 _ I1 q1) fun u s2 ⟨x, H2, I2, rx, q2⟩ => eO (hi pins s2 σ H2 _ I2 q2) fun iv s3 zz => ?_) hs
 obtain ⟨y, H3, I3, ry, a, gs, k, b, ex, ey, g, hb, l, q3⟩ := zz
 subst ex ey
 obtain rfl : u = Value.ref a := rx
 obtain rfl : iv = Value.ref b := ry
 exact G3 hu I3 g hb l rv fun s4 I4 => ⟨σ, _, I4, q3⟩
theorem adu {prog : Program} {w : World} {d : Addr} {od : Obj} {es : Array DictEntry} {ep : Nat} (lo : (d == sysModules) = false) (hc : od.cls = .type "dict") (jH : od.data = .dict es ep) : PySem.W.KdlSrc prog w "dict" d d es.size (fun i v => ∃ e, es[i]? = some e /\ v = e.key) (fun h => h.get? d = some od) where
 type := fun _ hm => ⟨od, hm, hc⟩
 there := fun _ hm => ⟨aid hm, aid hm⟩
 keep := fun _ _ hm hk => hk d (.inl rfl) od hm
 notList := by decide
 notTuple := by decide
 hint := fun _ _ _ _ hm hq => PySem.W.kdl_hint_dict ⟨od, hm, hc⟩ hq
 iter := fun A s hh hm => ⟨_, fun i h => h.IsKeyIter s.heap.objs.size d i es.size ep /\ h.get? d = some od, fun _ _ hq => L3.Dk.Br lo hm ⟨od, hm, hc⟩ jH hq,
   { sub := fun b hb => by simp at hb; simp [hb]
     frame := fun _ _ _ st hk => ⟨st.1.at fun o e => hk _ (by simp) o e, hk d (by simp) od st.2⟩
     item := fun i s2 Q E hi st hQ => by
       refine L3.Dk.next_item st.1 st.2 jH (ajq hi) fun h' GJ IE => ?_
       exact hQ _ h' s2.toks ⟨_, ajq hi, rfl⟩ ⟨GJ, (IE.2 d (aiF (aid hm))).trans st.2⟩ fun b o hb e => IE.extBut b o (fun h => hb (by simp [h])) e
     done := fun s2 Q E st hQ => L3.Dk.next_end hh st.1 st.2 jH (ah0 _) fun h' he' => hQ h' s2.toks fun b o hb e => he' b o (fun h => hb (by simp [h])) e
     self := fun _ _ _ _ st hQ => wpAny_pyIter_keyiter st.1 hQ }, ⟨⟨_, aif _ rfl, rfl, rfl⟩, ah5 _ hm⟩⟩
theorem w9 (hc : X.calm = true) : g8 X (.type "list") (fun xs H Q => ∃ p gs, xs = [.ref p] /\ Rd H p (.dT gs) /\ ∀ l bs, H l = none -> bs.length = gs.length -> (∀ (j : Nat) (k : List Key) (v : V), gs[j]? = some (k, v) -> ∃ b, bs[j]? = some (.ref b) /\ H b = some (.tup (k.map kV))) -> Q (.ref l) (upd H l (.lst bs))) := by
 intro pins s σ H xs us Q I r h
 obtain ⟨p, gs, rfl, hq, q⟩ := h
 obtain ⟨u, rfl, rx⟩ := vals1 r
 cases rx
 obtain ⟨z, hd, ys, rel, o, es, ep, e, c, dat, II, nd⟩ := (show cQ X.prog X.w H s.heap p (.dT gs) from Ju I.cP hq)
 have hl := ai9 rel
 have hsz : es.size = ys.length := by rw [← ai3, II, ahK]
 refine PySem.W.kdl_call (adu (ep := ep) hd c.1 dat) (I.ok.hd hc) e Q.a fun h' tk GU c' hk eh Pz => ?_
 have hal : GU.toList.length = ys.length := by rw [ai3]; exact Pz.1.trans hsz
 have hv : Vals (ys.map fun y => V.ref y.2.1) GU.toList := by
   have gen : ∀ (l : List (List Key × Addr × Value)) (m : List Value), m.length = l.length -> (∀ (j : Nat) (x : Value), m[j]? = some x -> ∃ y, l[j]? = some y /\ x = .ref y.2.1) -> Vals (l.map fun y => V.ref y.2.1) m := by
     intro l
     induction l with
     | nil => intro m hm _; cases m with
       | nil => exact .nil
       | cons _ _ => simp at hm
     | cons p l ih =>
       intro m hm hx
       cases m with
       | nil => simp at hm
       | cons x m =>
         obtain ⟨y, e1, e2⟩ := hx 0 x rfl
         simp at e1
         subst e1 e2
         exact .cons rfl (ih m (by simpa using hm) fun j x' hj => by simpa using hx (j + 1) x' (by simpa using hj))
   refine gen ys GU.toList hal fun j x hj => ?_
   obtain ⟨en, h1, h2⟩ := Pz.2 j x (by rw [← ajp]; exact hj)
   rw [← ajp, II, ahU] at h1
   obtain ⟨y, h3, rfl⟩ := aib.mp h1
   exact ⟨y, h3, h2⟩
 refine ⟨.ref s.heap.objs.size, _, I.laid (t' := tk) hk (Nat.le_refl _) (show cQ X.prog X.w _ h' _ (.lst (ys.map fun y => V.ref y.2.1)) from ⟨by rw [List.length_map]; omega, GU.toList, c', hv, by simpa using eh⟩), rfl, q _ _ (I.cP.fresh (Nat.le_refl _)) (by rw [List.length_map]; omega) fun j k v hj => ?_⟩
 obtain ⟨y, h1, h2, h3, _⟩ := Paired.PZ rel hj
 exact ⟨y.2.1, by rw [ahU, h1]; rfl, h3⟩
end L2
namespace L3
open PySem PySem.Spec PyProof.Rows L2
variable {K : Q.h} {CL : Q.d} {b : Bx} {H Z : Hp} {δ : Q.e} {σ : L2.St} {ts : List T} {vs : List V} {t t0 : T} {v v0 w : V} {i : Nat} {p : List wJ} {kvs : List (List Key × T)} {k : List Key}
theorem pT {ks : List Key} {us : List V} (r : aA K CL Z (ks.map CM) us) : us = ks.map kV := by
 induction ks generalizing us with
 | nil => cases r; rfl
 | cons k ks ih =>
   rw [ah6] at r
   cases r with
   | cons r rr => rw [r.key, ih rr, ah6]
theorem bQ.alter {gs : Q.m} {fp : List Addr} (h : bQ K CL H Z kvs gs fp) (hk : eZ kvs k = some t0) (nd : (kvs.map (·.1)).Nodup) :
   ∃ f1 f2 f3, fp = f1 ++ (f2 ++ f3) /\ (gn gs k).isSome = true ∧
     ∀ {H' : Hp} {t' : T} {v' : V} {g : List Addr}, (∀ a ∈ f1 ++ f3, H' a = H a) -> bu K CL H' Z t' v' g -> bQ K CL H' Z (kvs.map fun kv => if kv.1 = k then (kv.1, t') else kv) (gs.map fun kv => if kv.1 = k then (kv.1, v') else kv) (f1 ++ (g ++ f3)) := by
 refine bQ.ind (P := fun kvs gs fp => eZ kvs k = some t0 -> (kvs.map (·.1)).Nodup -> ∃ f1 f2 f3, fp = f1 ++ (f2 ++ f3) /\ (gn gs k).isSome = true ∧
     ∀ {H' : Hp} {t' : T} {v' : V} {g : List Addr}, (∀ a ∈ f1 ++ f3, H' a = H a) -> bu K CL H' Z t' v' g -> bQ K CL H' Z (kvs.map fun kv => if kv.1 = k then (kv.1, t') else kv) (gs.map fun kv => if kv.1 = k then (kv.1, v') else kv) (f1 ++ (g ++ f3))) (fun e => by cases e) (fun {x t1 v1 ts vs fp gp} r rr i hk nd => ?_) h hk nd
 rw [ah6, aiE] at nd
 by_cases e : x = k
 . subst e
   have no : ∀ {β : Type} (l : List (List Key × β)) (z : β), x ∉ l.map (·.1) -> (l.map fun kv => if kv.1 = x then (kv.1, z) else kv) = l := fun l z hx => by
     have : ∀ kv ∈ l, (if kv.1 = x then (kv.1, z) else kv) = kv := fun kv Z7 => ahX fun (e : kv.1 = x) => hx (by rw [← e]; exact ahY.mpr ⟨kv, Z7, rfl⟩)
     exact (aik this).trans (List.map_id _)
   refine ⟨[], fp, gp, rfl, by rw [kH rfl]; rfl, fun {H' t' v' g} ka q => ?_⟩
   rw [ah6, ah6, ah7 rfl, ah7 rfl, no ts t' nd.1, no vs v' (by rw [← rr.keys]; exact nd.1)]
   exact (show bQ K CL H' Z ((x, t') :: ts) ((x, v') :: vs) (g ++ gp) from .cons q (rr.mono (.refl _) fun a ha => ka a ha))
 . rw [fF (p := (x, t1)) e] at hk
   obtain ⟨f1, f2, f3, h2, h3, h4⟩ := i hk nd.2
   refine ⟨fp ++ f1, f2, f3, by rw [h2, ahQ], by rw [kI (p := (x, v1)) e]; exact h3, fun {H' t' v' g} ka q => ?_⟩
   rw [ah6, ah6, ahX e, ahX e, ahQ]
   exact .cons (r.mono (.refl _) fun a ha => ka a (by simp [ha])) (h4 (fun a ha => ka a (by rw [ahQ]; exact ahM _ ha)) q)
theorem aY.KJ (S : aY K CL b H Z δ σ (t :: ts) (v :: vs)) (ev : σ[i]? = some (some v0)) (hi : δ[i]? = some (some t0)) (hp : T.jR p t0 = some (.dct kvs)) (fu : xV H v0 p w) {u : T} (hk : eZ kvs k = some u) (Vb : (kvs.map (·.1)).Nodup) :
   ∃ a gs, w = .ref a /\ H a = some (.dT gs) /\ (gn gs k).isSome = true /\ aY K CL b (upd H a (.dT (gs.map fun kv => if kv.1 = k then (kv.1, v) else kv))) Z (δ.set i (some (T.g6 p (.dct (kvs.map fun kv => if kv.1 = k then (kv.1, t) else kv)) t0))) σ ts vs := by
 obtain ⟨f2, gp, ru, rr, nd, go⟩ := S.CV ev hi hp fu
 cases ru with
 | @dct a gs _ g ha rs =>
   cases rr with
   | @cons _ _ _ _ ft gr q1 q2 =>
     obtain ⟨g1, g2, g3, h1, h2, h4⟩ := rs.alter hk Vb
     subst h1
     have ne : ∀ c ∈ (g1 ++ (g2 ++ g3)) ++ (ft ++ gr), c ≠ a := fun c hc z => by subst z; exact (aiE.mp nd).1 hc
     refine ⟨a, gs, rfl, ha, h2, ?_⟩
     have sb : ((a :: (g1 ++ g3)) ++ (ft ++ gr)).Sublist ((a :: (g1 ++ (g2 ++ g3))) ++ (ft ++ gr)) := by
       simp only [aiz, ahQ]
       exact List.Sublist.cons₂ _ (air (aiv _) (aiQ _ _))
     have pm : ((a :: (g1 ++ (ft ++ g3))) ++ gr).Perm ((a :: (g1 ++ g3)) ++ (ft ++ gr)) := ajJ.mpr fun c => by simp only [ajW, List.count_cons]; omega
     exact go rfl ahL rfl (.dct aB (h4 (fun c hc => ao (ne c (by
       rcases ahZ.mp hc with h | h
       . simp [h]
       . simp [h]))) (q1.mono (.refl _) fun c hc => ao (ne c (by simp [hc])))))
       (q2.mono (.refl _) fun c hc => ao (ne c (by simp [hc]))) (pm.nodup_iff.mpr (nd.sublist sb)) fun c hc => sb.subset (pm.mem_iff.mp hc)
section
variable {X : Cx} {δ1 δ2 : Q.e} {e e0 e1 e2 : Expr} {t1 u : T} {d : L3.D} {D : dZ} {pos pp ps : Pos} {fC : List Stmt}
theorem G4 {kvs : List (List Key × L3.D)} (g : Gx X) (hm : X.mg "list" = none) (h : cU X CL b e δ (.dct kvs) δ1) (hg : Gl X "list") (hs : Q.x := by exact aW rfl) : bI X CL b (.Call (.Name "list" pp) [e] [] pos) δ (.lst ((kvs.map fun kv => mV kv.1).map T.sh)) δ1 := fun H Z σ ts vs Q S k =>
 bN (gC (w9 g.calm) hg hm dM (bL cA c5 hs) (he := hs)) (h H Z σ ts vs _ S fun v H1 Z1 z1 k1 S1 r => by
   cases r with
   | @dct a gs _ ha rr =>
     refine ⟨a, gs, rfl, ha, fun l bs hl Yl hb => ?_⟩
     have wK := rr.length
     have gen : ∀ {kvs : List (List Key × L3.D)} {gs : Q.m} {bs : List V}, kvs.map (·.1) = gs.map (·.1) -> bs.length = gs.length -> (∀ (j : Nat) (k : List Key) (v : V), gs[j]? = some (k, v) -> ∃ b, bs[j]? = some (.ref b) /\ H1 b = some (.tup (k.map kV))) -> aA X.K CL Z1 (kvs.map fun kv => mV kv.1) bs := by
       intro kvs
       induction kvs with
       | nil =>
         intro gs bs e1 e2 _
         cases gs with
         | nil =>
           cases bs with
           | nil => exact .nil
           | cons _ _ => simp at e2
         | cons _ _ => simp at e1
       | cons q kvs ih =>
         intro gs bs e1 e2 e3
         cases gs with
         | nil => simp at e1
         | cons p gs =>
           cases bs with
           | nil => simp at e2
           | cons c bs =>
             rw [ah6, ah6] at e1
             injection e1 with e1 e4
             obtain ⟨b, h1, h2⟩ := e3 0 p.1 p.2 rfl
             simp at h1
             subst h1
             rw [ah6]
             refine .cons ?_ (ih e4 (by simpa using e2) fun j k v hj => by simpa using e3 (j + 1) k v (by simpa using hj))
             show aV X.K CL Z1 (mV q.1) (.ref b)
             rw [e1]
             exact .tup (kD.of (S1.tp _ _ h2 rfl)) (qB _)
     have hr := gen rr.keys Yl hb
     obtain ⟨c, S2⟩ := (aY.pC hr S1).pO (g0 := []) (by simp [Yl, wK]) hl
     exact k _ _ _ z1 (k1.trans c) S2)
theorem KL {kvs : List (List Key × L3.D)} (k : List Key) (hu : X.A.units + 64 < cLine) (h1 : cU X CL b e1 δ (.dct kvs) δ1) (h2 : cU X CL b e2 δ1 (mV k) δ2) (hk : eZ kvs k = some d) (hs : yI e2 := by exact fun _ _ => rfl) : cU X CL b (.Subscript e1 e2 pos) δ d δ2 := fun H Z σ ts vs Q S kk =>
 bN (EL Q.a cA cA hs) (h1 H Z σ ts vs _ S fun v H1 Z1 z1 k1 S1 r1 => h2 H1 Z1 σ ts vs _ S1 fun v2 H2 Z2 z2 k2 S2 r2 => by
   cases r1 with
   | @dct a gs _ ha rr =>
     unfold mV at r2
     cases r2 with
     | tup hq rk =>
       rw [pT rk] at hq
       have rr' := rr.mono k2
       rcases rr'.val (k := k) with ⟨h0, _⟩ | ⟨d', v', h0, hv, rd⟩
       . rw [hk] at h0; cases h0
       . rw [hk] at h0; cases h0
         exact ⟨a, v', gs, k, _, rfl, rfl, Rd.mono k2 ha, hq, hv, kk v' H2 Z2 (z1.trans z2) (k1.trans k2) S2 rd⟩)
theorem KN (k : List Key) (hu : X.A.units + 64 < cLine) (h : bI X CL b e δ t δ1) (hE : Kz X CL b e0 δ1 i p) (h2 : cU X CL b e2 δ1 (mV k) δ1) (h1 : δ1[i]? = some (some t1)) (ZX : T.jR p t1 = some (.dct kvs)) (hk : eZ kvs k = some u) (nd : (kvs.map (·.1)).Nodup) (kk : dh X CL b fC (δ1.set i (some (T.g6 p (.dct (kvs.map fun kv => if kv.1 = k then (kv.1, t) else kv)) t1))) D)
   (hs : swapsWith e (some (.Subscript e0 e2 ps)) pos.line X.env = pure false := by rfl) : dh X CL b (.Assign [.Subscript e0 e2 ps] e pos :: fC) δ D := cC fun H Z σ ts vs E S M =>
 pe (P6 Q.a cA cA cA hs) (h H Z σ ts vs _ S fun v H1 Z1 z1 k1 S1 => hE H1 Z1 σ _ _ _ S1 fun v0 w H2 Z2 z2 k2 S2 ev fu => h2 H2 Z2 σ _ _ _ S2 fun v2 H3 Z3 z3 k3 S3 r3 => by
   unfold mV at r3
   cases r3 with
   | tup hq rk =>
     rw [pT rk] at hq
     obtain ⟨a, gs, ea, ha, hg, S4⟩ := S3.KJ ev h1 ZX (fu.mono k3) hk nd
     exact ⟨a, gs, k, _, ea, rfl, ha, hq, hg, M.nx _ σ _ Z3 (z1.trans (z2.trans z3)) S4 kk⟩)
theorem sf {ds : List L3.D} (hm : X.mg "tuple" = none) (h : bI X CL b e δ (.sh (.tup ds)) δ1) (hg : Gl X "tuple") (hs : Q.x := by exact aW rfl) : bI X CL b (.Call (.Name "tuple" pp) [e] [] pos) δ (.sh (.tup ds)) δ1 := fun H Z σ ts vs Q S k =>
 bN (gC pA hg hm mL (bL cA c5 hs) (he := hs)) (h H Z σ ts vs _ S fun v H1 Z1 z1 k1 S1 => by
   have r := S1.mz
   cases r with
   | tup hq rr => exact ⟨_, _, rfl, .inr ⟨ay.tY S1.zh hq, k _ H1 Z1 z1 k1 S1⟩⟩)
end
end L3
namespace L3
open PySem L2
variable {X : Cx} {CL : Q.d} {b : Bx} {δ δ1 : Q.e} {e : Expr} {es : List Expr} {pos pp : Pos} {x : Str} {t : T} {fx : List Addr -> Prop} {al : List Addr -> List T} {i j : Nat}
theorem cM2 {A : Type} {k n : Nat} {arg : A -> List T} {Pre : A -> Prop} {res : A -> T} {out : A -> List T} (a : Addr -> Addr -> A) (nt mt : T) (F : FcM X CL x k n arg Pre res out) (hg : Gl X x) (h : VN X CL b (e :: es) δ [i, j] fx al δ1) (hp : ∀ y z, fx [y, z] -> Pre (a y z)) (adw : ∀ y z, fx [y, z] -> res (a y z) = t) (adx : ∀ y z, fx [y, z] -> qC (out (a y z)) [y, z] [nt, mt])
   (ady : ∀ y z, fx [y, z] -> arg (a y z) = al [y, z] := by intros; rfl) (hlen : ∀ y z, (arg (a y z)).length = n := by intros; rfl) (Ko : i < δ1.length := by exact ahS rfl) (CP : j < δ1.length := by exact ahS rfl)
   (rS : Q.p := by decide) (he : Q.w := by exact aW rfl) (hpl : (backTo pos (starEach es X.env)).any (·.1) = false := by rfl) :
   ZR X CL b (.Call (.Name x pp) (e :: es) [] pos) δ t ((δ1.set i (some nt)).set j (some mt)) := by
 obtain ⟨⟨f, fd, ps, G, m, q, bd⟩, r⟩ := F
 exact Kn (fun ys => a (ys.headD 0) (ys.tail.headD 0)) [nt, mt] G r m q bd h (fun ys hl hf => match ys, hl, hf with | [y, z], _, hf => ⟨ady y z hf, hlen y z, hp y z hf, adw y z hf, adx y z hf⟩) (fun k hk => by
   rcases ahT.mp hk with rfl | hk
   . exact Ko
   . cases aiw.mp hk; exact CP) hg rS he hpl
theorem V2 {p q : T} {d : D} {o : Option T} {ρ : Q.e} : Keeps (o :: some p :: some q :: ρ) [.sh d, p, q] := fun j y t h => by
 match j, h with
 | 0, h => cases h
 | 1, h => cases h; rfl
 | 2, h => cases h; rfl
 | j + 3, h => cases h
end L3
namespace L2
open PySem PySem.Spec PyProof.Rows
variable {X : Cx} {o e : Expr} {es : List Expr} {to : TE} {t : TA} {apos iH : Pos}
def Tj (X : Cx) : V -> List V -> Hp -> VK -> Prop := fun x xs H Q => ∃ a gs k b dv, x = .ref a /\ xs = [.ref b, dv] /\ Rd H a (.dT gs) /\ kD X.K H b (k.map kV) /\ Q ((gn gs k).getD dv) H
theorem P7 (hu : X.A.units + 1 < cLine) : MtM X "dict.get" (Tj X) := by
 intro pins s σ H x vs v us Q I rx rv h
 obtain ⟨a, gs, k, b, dv, rfl, rfl, hr, hb, q⟩ := h
 cases rx
 cases rv with
 | cons r1 rv =>
   cases r1
   cases rv with
   | cons r2 rv =>
     cases rv
     obtain ⟨z, hd, xs, rel, dd⟩ := kJ I.cP hr
     exact call_meetsIn PySem.F.slot_dict_get dd.typeIs PySem.F.entry_dict_get (PySem.F.args_dict_get_3 _ _ _) (meetsH_dict_get_default _ a b hd _) ⟨ajA hu, k, xs, y9 I hb, dd, _, H, I.tok _, (rel.val k).getD r2, q⟩
def Z8 (X : Cx) (to : TE) (t : TA) : TE := fun σ H Q => to σ H fun x H1 => ∃ a gs, x = .ref a /\ Rd H1 a (.dT gs) /\ t σ H1 fun xs H2 => Tj X x xs H2 Q
theorem P8 (hu : X.A.units + 1 < cLine) (ho : PE X o to) (ha : PA X (e :: es) t)
   (fU : attributeBase o "get" X.env (eval o X.env) = eval o X.env := by rfl)
   (mH : ((backTo iH (starEach (e :: es) X.env)).all (fun x => !x.1) && (backToKw iH (keywordEach [] X.env)).all (fun x => x.1.isSome) && decide ((e :: es).length + ([] : List Keyword).length + (if ([] : List Keyword).isEmpty then 0 else 1) < 30)) = true := by rfl)
   (hline : (apos.endLine == iH.line) = true := by rfl) (hs : Q.w := by rfl) (jz : (backTo iH (starEach es X.env)).any (·.1) = false := by rfl) :
   PE X (.Call (.Attribute o "get" apos) (e :: es) [] iH) (Z8 X to t) := by
 intro pins s σ H Q I h
 refine wpAny_Call_method_late fU mH hline rfl (eO (ho pins s σ H _ I h) fun v s1 zz => ?_)
 obtain ⟨x, H1, I1, r1, a, gs, rfl, hr, q1⟩ := zz
 have Gy := r1
 cases r1
 obtain ⟨z, hd, xs, rel, dd⟩ := kJ I1.cP hr
 have A3 := dd
 obtain ⟨ob, F9, ep, h1, h2, h3, h4, h5⟩ := A3
 refine ⟨"dict", "dict.get", akl, PySem.F.slot_dict_get, PySem.F.type_dict_get, dd.typeIs, fun a' e' => ⟨ob, by cases e'; exact h1, ?_⟩, ?_⟩
 . exact h2.2.1
 have hA := ha iH pins s1 σ H1 _ I1 q1
 rw [hs] at hA ⊢
 refine ajV (by show (false || (backTo iH (starEach es X.env)).any (·.1)) = false; rw [jz] <;> rfl) (Calls.evalArgs_plain ?_)
 exact eO hA fun us s2 ⟨vs, H2, I2, r2, q2⟩ => P7 hu pins s2 σ H2 _ vs _ us Q I2 Gy r2 q2
end L2
namespace L3
open PySem PySem.Spec PyProof.Rows L2
variable {X : Cx} {CL : Q.d} {b : Bx} {δ δ1 δ2 δ3 : Q.e} {e1 e2 e3 : Expr} {kvs : List (List Key × L3.D)} {d0 : L3.D} {pos pa : Pos}
theorem KP (k : List Key) (hu : X.A.units + 64 < cLine) (h1 : bI X CL b e1 δ (.sh (.dct kvs)) δ1) (h2 : bI X CL b e2 δ1 (fP k) δ2) (h3 : bI X CL b e3 δ2 (.sh d0) δ3)
   (fU : attributeBase e1 "get" X.env (eval e1 X.env) = eval e1 X.env := by rfl)
   (mH : ((backTo pos (starEach [e2, e3] X.env)).all (fun x => !x.1) && (backToKw pos (keywordEach [] X.env)).all (fun x => x.1.isSome) && decide ([e2, e3].length + ([] : List Keyword).length + (if ([] : List Keyword).isEmpty then 0 else 1) < 30)) = true := by rfl)
   (hline : (pa.endLine == pos.line) = true := by rfl) (hs : starEach [e2, e3] X.env = (false, eval e2 X.env) :: starEach [e3] X.env := by exact aW rfl) (wU : starEach [e3] X.env = (false, eval e3 X.env) :: starEach [] X.env := by exact aW rfl) (jz : (backTo pos (starEach [e3] X.env)).any (·.1) = false := by rfl) :
   bI X CL b (.Call (.Attribute e1 "get" pa) [e2, e3] [] pos) δ (.sh ((eZ kvs k).getD d0)) δ3 := fun H Z σ ts vs Q S kk =>
 bN (P8 Q.a cA (bL cA (bL cA c5 wU) hs) fU mH hline hs jz) (h1 H Z σ ts vs _ S fun v H1 Z1 z1 k1 S1 => by
   have r := S1.mz
   cases r with
   | @dct a gs _ ha rr =>
     refine ⟨a, gs, rfl, Rd.mono S1.zh ha, h2 H1 Z1 σ _ _ _ S1 fun v2 H2 Z2 z2 k2 S2 => h3 H2 Z2 σ _ _ _ S2 fun v3 H3 Z3 z3 k3 S3 => ?_⟩
     obtain ⟨kb, rfl, hb⟩ := S3.pop.vq
     have r := S3.pop.pop.mz
     have rd0 := S3.mz
     cases r with
     | @dct _ IJ _ ha2 AJ =>
       refine ⟨a, IJ, k, kb, v3, rfl, rfl, Rd.mono S3.zh ha2, kD.of hb, ?_⟩
       rcases AJ.val (k := k) with ⟨h0, h0'⟩ | ⟨d', v', h0, hv, rd⟩
       . rw [h0']
         rw [h0] at kk
         exact kk v3 H3 Z3 (z1.trans (z2.trans z3)) (k1.trans (k2.trans k3)) (S3.pop.pop.pop.push rd0)
       . rw [hv]
         rw [h0] at kk
         exact kk v' H3 Z3 (z1.trans (z2.trans z3)) (k1.trans (k2.trans k3)) (S3.pop.pop.pop.push rd))
end L3
namespace L2
open PySem PySem.Spec PyProof.Rows
section
variable {prog : Program} {w : World} {K : Type} {A : Around} {E : Q.k} {s : Shared} [DecidableEq K] {knd : HeapKind prog w K}
theorem V3 {nm : String} {a b : Addr} {xa xb : List (K × Addr × Value)} {Q : Bool -> Shared -> Prop} (ha : (a == sysModules) = false) (hb : (b == sysModules) = false) (da : s.heap.DictOfH knd a xa) (db : s.heap.DictOfH knd b xb) (hu : knd.room A) (hlen : xa.length = xb.length)
   (hits : ∀ x ∈ xa, ∃ (j : Nat) (q : Addr × Value), xb[j]? = some (x.1, q) /\ SeqAt.EqAt A s x.2.2 q.2 true) (h : Q true s) : wpAny (model prog w) A (Builtin.Dict.samePairs nm a b) Q E s := by
 obtain ⟨oa, es, ep, hoa, _, hda, hea, adz, _⟩ := da
 obtain ⟨ob, F9, SD, hob, _, rS, heb, adC, hnb⟩ := db
 have hsa : es.size = xa.length := akd hea
 have hsb : F9.size = xb.length := akd heb
 unfold Builtin.Dict.samePairs Builtin.Dict.showsAll
 rw [ahX (show ¬ (a == sysModules) = true by rw [ha]; exact ah8), ahX (show ¬ (b == sysModules) = true by rw [hb]; exact ah8)]
 refine ahJ (ahO (ahJ (ahO ?_)))
 refine ahJ (aiP hoa hda ?_)
 dsimp only
 refine ahJ (aiP hob rS ?_)
 rw [ahX (by rw [hsa, hsb, hlen]; simp)]
 refine ahJ (ajF hoa hda ?_)
 refine ahJ ?_
 rw [Std.Legacy.Range.forIn_eq_forIn_range']
 simp only [Std.Legacy.Range.size, Nat.sub_zero, Nat.add_sub_cancel, Nat.div_one]
 refine wpAny_forIn_list _ (fun rest q s' => s' = s /\ q = (none, ()) /\ ∃ i, rest = List.range' i (es.size - i) /\ i <= es.size) _ ?_ ?_ _ _ ⟨rfl, rfl, 0, by simp, aiB _⟩
 . rintro x rest q s' ⟨rfl, rfl, i, hr, hi⟩
   have jD : i < es.size := by
     rcases Nat.lt_or_ge i es.size with h | h
     . exact h
     . rw [Nat.sub_eq_zero_of_le h] at hr; simp at hr
   obtain ⟨rfl, Z9⟩ : x = i /\ rest = List.range' (i + 1) (es.size - (i + 1)) := by
     have e : es.size - i = (es.size - (i + 1)) + 1 := by omega
     rw [e, List.range'_succ] at hr
     injection hr with h1 h2
     exact ⟨h1, h2⟩
   refine ahJ (aiP hoa hda ?_)
   obtain ⟨⟨k, c, v⟩, Z7⟩ : ∃ y, xa[x]? = some y := ⟨_, ahN Q.a⟩
   have hex : es[x]? = some ⟨knd.hash k, .ref c, v⟩ := by rw [entry_at hea x, Z7]; rfl
   rw [hex]
   obtain ⟨j, ⟨c', v'⟩, hj, he⟩ := hits _ (ah3 Z7)
   have hey : F9[j]? = some ⟨knd.hash k, .ref c', v'⟩ := by rw [entry_at heb j, hj]; rfl
   show wpAny _ _ (holding [Value.ref c, v] _ >>= _) _ _ _
   refine ahJ (ajj (ahJ (wpAny_dictFind_heap hu (adz _ (ah3 Z7)) hob rS heb adC hnb (fun En => absurd hj (En j _)) (fun j' p' hj' => ?_))))
   have ej := idxH_unique hnb hj' hj
   subst ej
   refine ahJ (aiP hob rS ?_)
   rw [hey]
   refine ajj (he prog w _ _ ?_)
   show wpAny _ _ (if (!true) = true then _ else _) _ _ _
   rw [ahX Q.c]
   refine ahJ (ajF hoa hda ?_)
   rw [ahX (by simp)]
   exact ahO ⟨rfl, rfl, x + 1, Z9, jD⟩
 . rintro q s' ⟨rfl, rfl, i, hr, hi⟩
   exact ahO h
theorem eqH {a b : Addr} {xa xb : List (K × Addr × Value)} {Q : Q.k} (ha : (a == sysModules) = false) (hb : (b == sysModules) = false) (da : s.heap.DictOfH knd a xa) (db : s.heap.DictOfH knd b xb) (hr : knd.room A.in1) (hu : A.units < cLine) (hlen : xa.length = xb.length)
   (hits : ∀ x ∈ xa, ∃ (j : Nat) (q : Addr × Value), xb[j]? = some (x.1, q) /\ SeqAt.EqAt A.in1 s x.2.2 q.2 true) (h : Q (.bool true) s) : wpAny (model prog w) A (compareOp .Eq (.ref a) (.ref b)) Q E s := by
 refine wpAny_richCompare_same_room (op := .Eq) da.typeIs db.typeIs PySem.F.slot_dict_eq (aiG PySem.F.slot_dict_eq da.typeIs PySem.F.entry_dict_eq ?_ (PySem.F.args_dict_eq_2 _ _)) hu
 show wpAny _ _ (Builtin.Dict.dictSlotArgs "__eq__" ⟨[.ref a, .ref b], []⟩ >>= _) _ _ s
 refine ahJ ?_
 unfold Builtin.Dict.dictSlotArgs
 refine ahJ (aj0 da.typeIs ?_)
 show wpAny _ _ (pure (Value.ref a, Value.ref b)) _ _ s
 refine ahO ?_
 refine ahJ (aj4 (T := "dict") db.typeIs PySem.F.sub_dict_dict ?_)
 simp only [Bool.not_true, ajo, ajs]
 refine ahJ (ahO (ahJ (ahO ?_)))
 refine ahJ (V3 ha hb da db hr hlen hits ?_)
 refine ahO ⟨_, rfl, ?_, ?_⟩
 . exact fun x => nomatch x
 . simpa using h
end
end L2
namespace L3
open PySem PySem.Spec PyProof.Rows L2
variable {X : Cx} {CL : Q.d} {gs : Q.m}
theorem CZ {H : Hp} {xs : List (List Key × Addr × Value)} (rel : Paired (fun p q => p.1 = q.1 /\ H q.2.1 = some (.tup (p.1.map kV)) /\ RelV p.2 q.2.2) gs xs) {j : Nat} {y : List Key × Addr × Value} (h : xs[j]? = some y) : ∃ p, gs[j]? = some p /\ p.1 = y.1 /\ RelV p.2 y.2.2 := by
 have hl := ai9 rel
 have hj : j < gs.length := by rw [hl]; exact (ahW.mp h).1
 obtain ⟨y', h1, h2, _, h3⟩ := Paired.PZ rel (ahN hj)
 rw [h] at h1
 cases h1
 exact ⟨_, ahN hj, h2, h3⟩
theorem ER (hu : X.A.units + 64 < cLine) : rM X (compareOp .Eq) (fun x y H Q => ∃ a c ga gc, x = .ref a /\ y = .ref c /\ Rd H a (.dT ga) /\ Rd H c (.dT gc) /\ ga.length = gc.length /\ (∀ (j : Nat) (p : List Key × V), ga[j]? = some p -> ∃ (v' : V) (d : D), gc[j]? = some (p.1, v') /\ jv 60 d /\ aV X.K CL H d p.2 /\ aV X.K CL H d v') /\ Q (.bl true) H) := by
 intro pins s σ H x y v u Q I rx ry h
 obtain ⟨a, c, ga, gc, rfl, rfl, ra, rc, hl, hits, q⟩ := h
 cases rx
 cases ry
 obtain ⟨_, hd, xs, rel, dd⟩ := kJ I.cP ra
 obtain ⟨_, hd2, ys, aac, SQ⟩ := kJ I.cP rc
 refine eqH hd hd2 dd SQ (ajA Q.a) Q.a (by rw [← ai9 rel, ← ai9 aac, hl]) (fun x hx => ?_) ⟨.bl true, H, I, rfl, q⟩
 obtain ⟨j, hj, e⟩ := List.getElem_of_mem hx
 obtain ⟨p, hp, p1, p2⟩ := CZ rel (j := j) (y := x) (by rw [ahN hj, e])
 obtain ⟨v', d, hv, Ym, r1, r2⟩ := hits j p hp
 obtain ⟨y, hy, q1, _, q2⟩ := Paired.PZ aac hv
 obtain ⟨as, s1⟩ := rX I Ym r1 p2
 obtain ⟨bs, s2⟩ := rX I Ym r2 q2
 refine ⟨j, y.2, by rw [hy, ← p1]; exact congrArg some (Prod.ext q1.symm rfl), ?_⟩
 have := SeqAt.eqAt_reads d.toPy d.toPy X.A.in1 s _ _ as bs s1 s2 Ym.lay.1 Ym.lay.1 (by have := Ym.lay.2; have e : X.A.in1.units = X.A.units + 1 := rfl; omega)
 rwa [show PyData.eqv d.toPy d.toPy = true from fV Ym] at this
variable {b : Bx} {δ δ1 δ2 : Q.e} {e e1 e2 : Expr} {t u : T} {p : List wJ} {pos : Pos} {i : Nat} {q : Bool} {kvs : List (List Key × L3.D)}
theorem bY.PZ {K : Q.h} {Z : Hp} : ∀ {kvs : List (List Key × D)} {gs : Q.m}, bY K CL Z kvs gs -> ∀ {j : Nat} {x : List Key × V}, gs[j]? = some x -> ∃ d, kvs[j]? = some (x.1, d) /\ aV K CL Z d x.2 := fun {kvs gs} h => bY.ind (P := fun kvs gs => ∀ {j : Nat} {x : List Key × V}, gs[j]? = some x -> ∃ d, kvs[j]? = some (x.1, d) /\ aV K CL Z d x.2) (fun {j x} e => by simp at e) (fun {k d v _ _} r _ i {j x} e => by
   cases j with
   | zero =>
     simp at e
     subst e
     exact ⟨d, rfl, r⟩
   | succ j =>
     rw [List.getElem?_cons_succ] at e ⊢
     exact i e) h
theorem bY.pair {K : Q.h} {Z : Hp} {IJ : Q.m} (r : bY K CL Z kvs gs) (r2 : bY K CL Z kvs IJ) (hd : ∀ q ∈ kvs, jv 60 q.2) : gs.length = IJ.length /\ ∀ (j : Nat) (p : List Key × V), gs[j]? = some p -> ∃ (v' : V) (d : D), IJ[j]? = some (p.1, v') /\ jv 60 d /\ aV K CL Z d p.2 /\ aV K CL Z d v' := by
 have hl : gs.length = IJ.length := by rw [← r.length, ← r2.length]
 refine ⟨hl, fun j p hp => ?_⟩
 obtain ⟨d, h1, h2⟩ := r.PZ hp
 have hj : j < IJ.length := by rw [← hl]; exact (ahW.mp hp).1
 obtain ⟨d', h3, h4⟩ := r2.PZ (ahN hj)
 rw [h1] at h3
 injection h3 with h3
 injection h3 with h5 h6
 subst h6
 exact ⟨IJ[j].2, d, by rw [ahN hj, h5], hd _ (ah3 h1), h2, h4⟩
theorem P9 (hu : X.A.units + 64 < cLine) (h1 : cU X CL b e1 δ (.dct kvs) δ1) (h2 : cU X CL b e2 δ1 (.dct kvs) δ2) (hd : ∀ q ∈ kvs, jv 60 q.2) : sU X CL b (.Compare e1 [.Eq] [e2] pos) δ true δ2 /\ bI X CL b (.Compare e1 [.Eq] [e2] pos) δ (.sh (.bl true)) δ2 := by
 constructor
 . intro H Z σ ts vs Q S k
   refine Cv (qo (ER (CL := CL) hu) cA cA (pL _)) (h1 H Z σ ts vs _ S fun v1 H1 Z1 z1 Vv S1 r1 => h2 H1 Z1 σ ts vs _ S1 fun v2 H2 Z2 z2 JX S2 r2 => ?_)
   have r1 := r1.mono JX
   cases r1 with
   | @dct a gs _ ha rr =>
     cases r2 with
     | @dct c IJ _ hc AJ =>
       obtain ⟨q1, q2⟩ := rr.pair AJ hd
       exact ⟨a, c, gs, IJ, rfl, rfl, ha, hc, q1, q2, _, rfl, k H2 Z2 (z1.trans z2) (Vv.trans JX) S2⟩
 . intro H Z σ ts vs Q S k
   refine bN (qm (ER (CL := CL) hu) cA cA (pL _)) (h1 H Z σ ts vs _ S fun v1 H1 Z1 z1 Vv S1 r1 => h2 H1 Z1 σ ts vs _ S1 fun v2 H2 Z2 z2 JX S2 r2 => ?_)
   have r1 := r1.mono JX
   cases r1 with
   | @dct a gs _ ha rr =>
     cases r2 with
     | @dct c IJ _ hc AJ =>
       obtain ⟨q1, q2⟩ := rr.pair AJ hd
       exact ⟨a, c, gs, IJ, rfl, rfl, ha, hc, q1, q2, k _ H2 Z2 (z1.trans z2) (Vv.trans JX) (S2.push (.bl _))⟩
theorem KQ {kvs : List (List Key × T)} (k : List Key) (hu : X.A.units + 64 < cLine) (h : Kz X CL b e δ i p) (hi : δ[i]? = some (some t)) (hg : T.jR p t = some (.dct kvs)) (h2 : cU X CL b e2 δ (mV k) δ) (hk : eZ kvs k = some u) (hs : yI e2 := by exact fun _ _ => rfl) : Kz X CL b (.Subscript e e2 pos) δ i (p ++ [.key k]) := fun H Z σ ts vs Q S kk =>
 bN (EL Q.a cA cA hs) (h H Z σ ts vs _ S fun v0 v H' Z' z1 s1 S' ev fu => h2 H' Z' σ ts vs _ S' fun v2 H2 Z2 z2 s2 S2 r2 => by
   have at2 := fu.mono s2
   obtain ⟨w, f2, at', r⟩ := S2.Ky ev hi hg
   have := at'.inj at2
   subst this
   unfold mV at r2
   cases r2 with
   | tup hq rk =>
     rw [pT rk] at hq
     cases r with
     | @dct a gs _ g ha rs =>
       obtain ⟨w, _, _, _, hw, _, _, _⟩ := rs.GZ hk
       exact ⟨a, w, gs, k, _, rfl, rfl, .inl ha, hq, hw, kk v0 w H2 Z2 (z1.trans z2) (s1.trans s2) S2 ev (at2.snoc ⟨a, gs, rfl, ha, hw⟩)⟩)
namespace Dk
variable {prog : Program} {w : World} {A : Around} {E : Q.k} {s : Shared} {it d : Addr} {ep : Nat} {es : Array DictEntry} {od : Obj} {ok ov : Value}
theorem G5 {Q : Q.k} (hd : (d == sysModules) = false) (hT : s.TypeIs (.ref d) "dict") (hQ : Q (.ref s.heap.objs.size) { s with heap := s.heap.push { cls := .type "dict_items", data := .fields #[.ref d] } }) : wpAny (model prog w) A (call (.builtin "dict.items") [.ref d]) Q E s := by
 refine aiG PySem.F.slot_dict_items hT PySem.F.entry_dict_items ?_ (PySem.F.args_dict_items_1 _)
 unfold Builtin.«dict.items» Builtin.Dict.noArgs
 refine ahJ (ahJ (aj0 hT (show wpAny _ _ (pure d) _ _ s from ahO ?_)))
 show wpAny _ _ (Builtin.Dict.showsAll d >>= _) _ _ s
 unfold Builtin.Dict.showsAll
 rw [ahX (by rw [hd]; exact ah8)]
 exact ahJ (ahO (ahJ (aiN (ahO ⟨_, rfl, hQ⟩))))
theorem C1 {v : Addr} {Q : Q.k} (hv : s.heap.IsItemsView v d) (ho : s.heap.get? d = some od) (jH : od.data = .dict es ep)
   (hQ : Q (.ref s.heap.objs.size) { s with heap := s.heap.push { cls := .type "dict_itemiterator", data := .fields #[.none, .bool false, .ref d, .int 0 0, .int es.size 0, .int ep 0, .none, .none] } }) : wpAny (model prog w) A (pyIter (.ref v)) Q E s := by
 obtain ⟨ow, hov, hcv, hdv⟩ := id hv
 refine wpAny_pyIter_slot hv.typeIs PySem.F.slot_dict_items_iter (aiG PySem.F.slot_dict_items_iter hv.typeIs PySem.F.entry_dict_items_iter (ahJ (ahO (ahJ ?_))) (PySem.F.args_dict_items_iter_1 _))
 unfold Builtin.Dict_items.dictOf
 refine ahJ (aji hov hdv (x := .ref d) rfl (ahO (ahJ ?_)))
 unfold Builtin.Dict_items.newIterator
 refine ahJ (aiP ho jH (ahJ (ajF ho jH ?_)))
 simp only [show Builtin.Dict_items.ownsTuple "dict_itemiterator" = true by decide, ajY]
 exact wpAny_newObj_type (wpAny_pure ⟨_, rfl, "dict_itemiterator", _, ⟨_, Heap.get?_push_size _ rfl, rfl⟩, PySem.F.slot_dict_itemiterator_next.lookup, by simpa [rawInt, Builtin.Dict_items.ownedTupleFields] using hQ⟩) (by simp only [sizeOk, Builtin.Dict_items.ownedTupleFields, List.size_toArray, List.length_append, List.length_cons, List.length_nil, sizeLine_eq]; omega)
theorem C2 {Q : Option Value -> Shared -> Prop} (hit : IsItemIter s.heap it d i es.size ep ok ov) (KD : s.heap.get? d = some od) (KG : od.data = .dict es ep) {e : DictEntry} (hx : es[i]? = some e)
   (hQ : ∀ h', IsItemIterOut h' it d (i + 1) es.size ep e.key e.val s.heap.objs.size -> h'.get? s.heap.objs.size = some { cls := .type "tuple", data := .seq #[e.key, e.val] } -> (∀ b o, b ≠ it -> s.heap.get? b = some o -> h'.get? b = some o) -> Q (some (.ref s.heap.objs.size)) { s with heap := h' }) :
   wpAny (model prog w) A (pyNext (.ref it)) Q E s := by
 obtain ⟨hp, g, dr, tk, os⟩ := s
 have hT : Shared.TypeIs ⟨hp, g, dr, tk, os⟩ (.ref it) "dict_itemiterator" := ⟨_, hit, rfl⟩
 have CY : Builtin.Dict_items.ownsTuple "dict_itemiterator" = true := by decide
 unfold pyNext
 refine ahJ (ajN (aiW (name := Str.ofString "__next__") hT ajc (aiG ajc hT PySem.F.entry_dict_itemiterator_next (ahJ (ahO ?_)) (PySem.F.args_dict_itemiterator_next_1 _))))
 refine ahJ (ahJ (ahJ (aju hT (ahO (ahJ (wpAny_fieldsOf hit rfl ?_))))))
 simp only [CY, ajY]
 show wpAny _ _ (if (Value.ref d == Value.none) = true then _ else _) _ _ (⟨hp, g, dr, tk, os⟩ : Shared)
 rw [ahX (show ¬ ((Value.ref d == Value.none) = true) from ah8)]
 refine ahJ (ahO (ahJ (aiP KD KG ?_)))
 rw [ahX (by simp)]
 refine ahJ (ahO (ahJ (ajF KD KG ?_)))
 rw [ahX (by simp)]
 refine ahO ?_
 obtain ⟨jD, he⟩ := aj9.mp hx
 simp only [show ¬ ((i : Int) < 0) from by omega, ajs, aij, ajq jD]
 refine ahJ (ahJ (aju hT (ahO (ahJ (wpAny_isOneOf_itemiter hT ?_)))))
 show wpAny _ _ (setField (.ref it) 3 (rawInt ((i : Int) + 1)) >>= _) _ _ (⟨hp, g, dr, tk, os⟩ : Shared)
 refine ahJ (ajS hit (by simp) fun h₁ EV EW => ?_)
 have EW : Heap.SameBut it hp h₁ := EW
 have EV : IsItemIter h₁ it d (i + 1) es.size ep ok ov := by
   have e : ((i + 1 : Nat) : Int) = (i : Int) + 1 := by omega
   unfold IsItemIter
   rw [e]
   simpa [rawInt] using EV
 have Tp : Shared.TypeIs ⟨h₁, g, dr, tk, os⟩ (.ref it) "dict_itemiterator" := ⟨_, EV, rfl⟩
 refine ahJ (ajj (ahJ (wpAny_isOneOf_itemiter Tp (ahJ (wpAny_isOneOf_itemiter Tp ?_)))))
 rw [he]
 show wpAny _ _ (Builtin.Dict_items.pairFromOwner (.ref it) 6 e.key e.val) _ _ (⟨h₁, g, dr, tk, os⟩ : Shared)
 unfold Builtin.Dict_items.pairFromOwner
 refine ahJ (wpAny_newTuple ?_)
 have Bs : IsItemIter (h₁.push { cls := .type "tuple", data := .seq #[e.key, e.val] }) it d (i + 1) es.size ep ok ov := ah5 _ EV
 have Tq : h₁.objs.size = hp.objs.size := EW.1
 have Ko : it < hp.objs.size := aid hit
 have Tr : (h₁.push { cls := .type "tuple", data := .seq #[e.key, e.val] }).get? hp.objs.size = some { cls := .type "tuple", data := .seq #[e.key, e.val] } := by rw [← Tq]; exact aif _ rfl
 have Tt : ∀ b o, b ≠ it -> hp.get? b = some o -> (h₁.push { cls := .type "tuple", data := .seq #[e.key, e.val] }).get? b = some o := fun b o hb q => ah5 _ (EW.extBut b o hb q)
 generalize h₁.push { cls := .type "tuple", data := .seq #[e.key, e.val] } = h₂ at Bs Tr Tt ⊢
 show wpAny _ _ (Builtin.Dict_items.ownedTupleIsFree (.ref it) >>= _) _ _ (⟨h₂, g, dr, tk, os⟩ : Shared)
 rw [Tq]
 refine ahJ ?_
 unfold Builtin.Dict_items.ownedTupleIsFree
 refine ahJ (aji Bs rfl (x := .none) rfl (ahO ?_))
 simp only [ajY]
 refine ahJ (aji Bs rfl (x := ok) rfl (ahJ (aji Bs rfl (x := ov) rfl ?_)))
 refine ahJ (ajS Bs (by simp) fun h₃ KR KS => ?_)
 have KS : Heap.SameBut it h₂ h₃ := KS
 have KR : IsItemIter h₃ it d (i + 1) es.size ep e.key ov := KR
 refine ahJ (ajS KR (by simp) fun h₄ KW KY => ?_)
 have KY : Heap.SameBut it h₃ h₄ := KY
 have KW : IsItemIter h₄ it d (i + 1) es.size ep e.key e.val := KW
 refine ahJ (ajS KW (by simp) fun h₅ KZ K0 => ?_)
 have K0 : Heap.SameBut it h₄ h₅ := K0
 have KZ : IsItemIterOut h₅ it d (i + 1) es.size ep e.key e.val hp.objs.size := KZ
 refine ahJ (ajS KZ (by simp) fun h₆ K1 K2 => ?_)
 have K2 : Heap.SameBut it h₅ h₆ := K2
 have K1 : IsItemIterOut h₆ it d (i + 1) es.size ep e.key e.val hp.objs.size := K1
 have fin : ∀ b o, b ≠ it -> h₂.get? b = some o -> h₆.get? b = some o := fun b o hb q => K2.extBut b o hb (K0.extBut b o hb (KY.extBut b o hb (KS.extBut b o hb q)))
 exact ahJ (wpAny_letGo (ahO (ahO ⟨_, rfl, ahO (hQ h₆ K1 (fin _ _ (Nat.ne_of_gt Ko) Tr) fun b o hb q => fin b o hb (Tt b o hb q))⟩)))
theorem G6 {Q : Option Value -> Shared -> Prop} (hh : A.handled = none) (hit : IsItemIter s.heap it d i es.size ep ok ov) (KD : s.heap.get? d = some od) (KG : od.data = .dict es ep) (hx : es.size <= i)
   (hQ : ∀ h', Heap.ExtBut it s.heap h' -> Q none { s with heap := h' }) : wpAny (model prog w) A (pyNext (.ref it)) Q E s := by
 have hT : s.TypeIs (.ref it) "dict_itemiterator" := ⟨_, hit, rfl⟩
 have CY : Builtin.Dict_items.ownsTuple "dict_itemiterator" = true := by decide
 unfold pyNext
 refine ahJ (ajN (aiW (name := Str.ofString "__next__") hT ajc (aiG ajc hT PySem.F.entry_dict_itemiterator_next (ahJ (ahO ?_)) (PySem.F.args_dict_itemiterator_next_1 _))))
 refine ahJ (ahJ (ahJ (aju hT (ahO (ahJ (wpAny_fieldsOf hit rfl ?_))))))
 simp only [CY, ajY]
 show wpAny _ _ (if (Value.ref d == Value.none) = true then _ else _) _ _ s
 rw [ahX (show ¬ ((Value.ref d == Value.none) = true) from ah8)]
 refine ahJ (ahO (ahJ (aiP KD KG ?_)))
 rw [ahX (by simp)]
 refine ahJ (ahO (ahJ (ajF KD KG ?_)))
 rw [ahX (by simp)]
 refine ahO ?_
 simp only [show ¬ ((i : Int) < 0) from by omega, ajs, aij, Array.getElem?_eq_none hx]
 refine ahJ (ahJ (aju hT (ahO ?_)))
 show wpAny _ _ (setField (.ref it) 2 .none >>= _) _ _ s
 refine ahJ (ajZ hit rfl (by simp) ?_)
 show wpAny _ _ (newExc (.type "StopIteration") [] >>= _) _ _ _
 refine ahJ ?_
 simp only [newExc, newTuple]
 refine ahJ (aiN (ahJ (m := firstArgMember _ _) (wpAny_of_eq (a := Value.none) (by first | rfl | (simp only [firstArgMember]; rfl)) (aiN ?_ (by size_fits)))) (by size_fits))
 simp only [raiseNew]
 refine ahJ (wpAny_handled ?_)
 rw [show A.in1.handled = none from hh]
 refine ahJ (ahO (wpAny_throw ?_))
 exact ahJ (aj4 (T := "StopIteration") (b := true) ⟨_, aif _ rfl, rfl⟩ isSubtype_stop (ahO (hQ _ (((ai4 ..).extBut.push _).push _))))
end Dk
def Iti (a : Addr) (o : Obj) (gs : Q.m) : It :=
 ⟨fun i H => i < gs.length /\ H a = some Q.l, fun i H x H' => ∃ T b k v, H T = none /\ x = .ref T /\ gs[i]? = some (k, v) /\ H b = some (.tup (k.map kV)) /\ H' = upd H T (.tup [.ref b, v]), fun i H => gs.length <= i /\ H a = some Q.l⟩
theorem C3 {P : Program} {w : World} {K : Q.h} {elts : List Expr} {kk : Nat} {pt : Pos} {a it : Addr} {o : Obj} {es : Array DictEntry} {ep : Nat} (jH : o.data = .dict es ep) : Turn P w K (.Tuple elts kk pt) (Iti a o gs) [it] it (fun i h => ∃ ok ov, IsItemIter h it a i es.size ep ok ov) where
 mem := by simp
 obj := fun i h st b hb => by
   obtain ⟨ok, ov, he⟩ := st
   have e : b = it := by simpa using hb
   subst e
   exact ⟨_, he, fun v z => by
     have z' : Data.fields _ = Data.cell v := z
     cases z'⟩
 keep := fun i h h' st k => by
   obtain ⟨ok, ov, he⟩ := st
   exact ⟨ok, ov, k it (by simp) _ he⟩
 item := by
   intro X hP hw hK hc i pins s σ H E I hf st hg
   subst hP hw hK
   obtain ⟨jD, ha⟩ := hg
   obtain ⟨e, z, y, xs, r, o', F9, SD, e', c, d, II, nd⟩ := (show cQ X.prog X.w H s.heap a Q.l from I.cP a _ ha)
   rw [e] at e'
   cases e'
   rw [jH] at d
   cases d
   obtain ⟨ok, ov, he⟩ := st
   have fi := hf it (by simp)
   have VJ : H s.heap.objs.size = none := I.cP.fresh (ah0 _)
   have fT := I.wR (ah0 s.heap.objs.size) VJ
   obtain ⟨q, hq, q1, q2, q3⟩ := Paired.PZ r (i := i) (x := gs[i]) (ahN jD)
   have hx : es[i]? = some (entryOfKey (tupleKind (eU X.prog X.w)) q) := by
     rw [← ajp, II, ahU, hq]
     rfl
   refine Dk.C2 he e jH hx fun h' ho hT hk => ⟨_, rfl, ?_⟩
   refine PySem.wpAny_letOwnedTupleGo_items ho fun h2 he2 wU => ?_
   have wU : Heap.SameBut it h' h2 := wU
   have eT : it < s.heap.objs.size := aid he
   have keep : ∀ b ob, b ≠ it -> s.heap.get? b = some ob -> h2.get? b = some ob := fun b ob h1 q => (wU.2 b h1).trans (hk b ob h1 q)
   have hT2 : h2.get? s.heap.objs.size = some { cls := .type "tuple", data := .seq #[.ref q.2.1, q.2.2] } := (wU.2 _ (Nat.ne_of_gt eT)).trans hT
   have nH : ∀ b ob, H b = some ob -> b ≠ it /\ b ≠ s.heap.objs.size := fun b ob q => ⟨fun z => (by rw [z, fi.1] at q; cases q), fun z => (by rw [z, VJ] at q; cases q)⟩
   have I' : L2.Inv X pins σ (upd H s.heap.objs.size (.tup [.ref q.2.1, gs[i].2])) { s with heap := h2 } := by
     refine I.step (g' := s.gens) (d' := s.drawn) (ch := [it, s.heap.objs.size]) (fun b hb => ?_) (fun b ob _ _ hc q _ => ?_) (fun b ob _ _ hc q _ => ⟨ob.slots, ?_⟩) (fun b ob hc q n => ?_) (fun b ob hc q => ⟨ob, ?_⟩) (fun b ys q => ?_) (fun b ob u q => ?_) (fun b ps q => ⟨#[], ?_⟩) (fun m hm => ?_) (fun b ob q => ?_) I.bare
     . rcases ahT.mp hb with z | hb
       . subst z; exact ⟨fi.2.2.2.1, fi.2.1, fi.2.2.2.2.1, fi.2.2.2.2.2⟩
       . have z : b = s.heap.objs.size := by simpa using hb
         subst z; exact ⟨fT.2.2.2.1, fT.2.1, fT.2.2.2.2.1, fT.2.2.2.2.2⟩
     . exact keep b ob (fun z => hc (by simp [z])) q
     . exact keep b ob (fun z => hc (by simp [z])) q
     . rw [ao (fun z => hc (by simp [z]))]; exact n
     . exact keep b ob (fun z => hc (by simp [z])) q
     . rw [ao (nH b _ q).2]; exact q
     . rw [ao (nH b _ q).2]; exact q
     . rw [ao (nH b _ q).2, q]; simp
     . obtain ⟨ob, es, ep, ho, r⟩ := hm
       exact ⟨ob, es, ep, keep _ ob (ajM fi.2.1) ho, r⟩
     . by_cases hb : b = s.heap.objs.size
       . subst hb
         rw [aB] at q
         cases q
         exact ⟨ajh (gD (ahS rfl)), [.ref _, _], .cons rfl (.cons q3 .nil), ⟨_, hT2, rfl, _, rfl⟩⟩
       . rw [ao hb] at q
         refine (I.cP b ob q).uV (fun c v hc z => keep c v ?_ z) (fun c z => by rw [ao (nH c _ z).2]; exact z) (fun c ys z => by rw [ao (nH c _ z).2]; exact z) fun c ys z => by rw [ao (nH c _ z).2]; exact z
         rcases hc with z | z
         . rw [z]; exact (nH b _ q).1
         . exact (nH c _ z).1
   refine ⟨.ref s.heap.objs.size, _, I', rfl, ⟨_, q.2.1, gs[i].1, gs[i].2, VJ, rfl, ahN jD, q2, rfl⟩, ⟨_, _, he2⟩, fun b hb => ?_⟩
   have z : b = it := by simpa using hb
   subst z
   rw [ao (aiF eT)]
   exact fi.1
 done := by
   intro X hP hw hK hc i pins s σ H E I hf st hg
   subst hP hw hK
   obtain ⟨hge, ha⟩ := hg
   obtain ⟨e, z, y, xs, r, o', F9, SD, e', c, d, II, nd⟩ := (show cQ X.prog X.w H s.heap a Q.l from I.cP a _ ha)
   rw [e] at e'
   cases e'
   rw [jH] at d
   cases d
   obtain ⟨ok, ov, he⟩ := st
   obtain ⟨f0, f1, f2, f3, f4, f5⟩ := hf it (by simp)
   have hl := ai9 r
   have hsz : es.size = xs.length := by rw [← ai3, II, ahK]
   exact Dk.G6 (I.ok.hd hc) he e jH Q.a fun h' eb => ⟨rfl, I.turned (t' := s.toks) (fun b ob hb e => eb b ob hb e) f0 f1 f3 f4 f5⟩
 self := fun _ _ _ _ _ st h => by
   obtain ⟨ok, ov, he⟩ := st
   exact PySem.W.kcp_self he h
def adD (X : Cx) (te : TE) : TI := fun σ H R => te σ H fun x H1 => ∃ a gs, x = .ref a /\ ((H1 a = some (.dT gs) /\ ∀ o, (∀ ob q, X.H₀ a ≠ some (.bM ob q)) -> R (Iti a o gs) (upd H1 a Q.l)) \/ ∃ o, H1 a = some Q.l /\ R (Iti a o gs) H1)
theorem K3 {te : TE} {elts : List Expr} {kk : Nat} {pt apos iH : Pos} (he : PE X e te) (fU : attributeBase e "items" X.env (eval e X.env) = eval e X.env := by rfl) (hline : (apos.endLine == iH.line) = true := by rfl) : PI X (.Tuple elts kk pt) (.Call (.Attribute e "items" apos) [] [] iH) (adD X te) := by
 intro pins s σ H R I h
 refine wpAny_Call_method0_late fU hline (eO (he pins s σ H _ I h) fun v s1 zz => ?_)
 obtain ⟨x, H1, I1, r1, a, gs, ex, q⟩ := zz
 subst ex
 cases r1
 have main : ∀ (H2 : Hp) (o : Obj), L2.Inv X pins σ H2 s1 -> H2 a = some Q.l -> R (Iti a o gs) H2 -> wpAny Q.f X.A (call (.builtin "dict.items") [.ref a]) (fun v s1 => wpAny Q.f X.A (pyIter v) (YK X pins σ (.Tuple elts kk pt) R) X.xe s1) X.xe s1 := fun H2 o I2 ha hR => by
   obtain ⟨e, z, y, xs, r, o', es, ep, e', c, d, II, nd⟩ := (show cQ X.prog X.w H2 s1.heap a Q.l from I2.cP a _ ha)
   rw [e] at e'
   cases e'
   obtain ⟨_, _, _, _, dd⟩ := kJ I2.cP (.inr ⟨o, ha⟩)
   refine Dk.G5 y dd.typeIs (Dk.C1 (s := { s1 with heap := s1.heap.push _ }) ⟨_, aif _ rfl, rfl, rfl⟩ (ah5 _ e) d ?_)
   have hz : (s1.heap.push { cls := .type "dict_items", data := .fields #[.ref a] }).objs.size = s1.heap.objs.size + 1 := Heap.size_push ..
   refine ⟨s1.heap.objs.size + 1, [s1.heap.objs.size + 1], _, _, H2, by rw [← hz], I2.kept (t' := s1.toks) fun b ob e => ah5 _ (ah5 _ e), C3 d, ⟨.none, .none, by rw [← hz]; exact aif _ rfl⟩, fun b hb => ?_, hR⟩
   have e : b = s1.heap.objs.size + 1 := by simpa using hb
   subst e
   exact I2.wR (Nat.le_succ _) (I2.cP.fresh (Nat.le_succ _))
 have go : wpAny Q.f X.A (call (.builtin "dict.items") [.ref a]) (fun v s1 => wpAny Q.f X.A (pyIter v) (YK X pins σ (.Tuple elts kk pt) R) X.xe s1) X.xe s1 := by
   rcases q with ⟨ha, q⟩ | ⟨o, ha, q⟩
   . obtain ⟨o, e, hz, I2⟩ := I1.ZY ha
     exact main _ o I2 aB (q o hz)
   . exact main _ o I1 ha q
 have hr : Rd H1 a (.dT gs) := by
   rcases q with ⟨ha, _⟩ | ⟨o, ha, _⟩
   . exact .inl ha
   . exact .inr ⟨o, ha⟩
 obtain ⟨_, _, _, _, dd⟩ := kJ I1.cP hr
 have A3 := dd
 obtain ⟨ob, F9, ep, h1, h2, h3, h4, h5⟩ := A3
 exact ⟨"dict", "dict.items", akl, PySem.F.slot_dict_items, PySem.F.type_dict_items, dd.typeIs, fun a' e' => ⟨ob, by cases e'; exact h1, h2.2.1⟩, ajV rfl (PySem.evalArgs_none go)⟩
theorem bY.conv {Z Z' : Hp} (e : Conv Z Z') (h : bY X.K CL Z kvs gs) : bY X.K CL Z' kvs gs := bY.ind (P := fun kvs gs => bY X.K CL Z' kvs gs) .nil (fun r _ i => .cons (r.conv e) i) h
end L3
namespace L2
open PySem PySem.Spec PyProof.Rows
variable {prog : Program} {w : World} {A : Around} {E : Q.k} {s : Shared}
theorem qG {t sl : Addr} {items : Array Value} {vl vu : Value} {lo hi : Option Int} {Q : Q.k} (ht : IsTup s.heap t items) (hs : s.heap.IsSliceOf sl vl vu .none) (pl : IsPart vl lo) (pu : IsPart vu hi)
   (hw : HT.fz items.size 0 lo = 0 /\ HT.fz items.size items.size hi = items.size) (h : Q (.ref t) s) : wpAny (model prog w) A (getItem (.ref t) (.ref sl)) Q E s := by
 obtain ⟨os, OU, hcs, Za⟩ := id hs
 have hTs : s.TypeIs (.ref sl) "slice" := ⟨os, OU, hcs⟩
 unfold getItem
 try with_reducible refine ajj ?_
 first | refine ahJ (ahO ?_) | skip
 refine ahJ (wpAny_sequenceKey ht.typeIs Q.c ?_)
 refine ahJ (aiW (name := Str.ofString "__getitem__") ht.typeIs aiV
   (aiG aiV ht.typeIs entry_tuple_getitem ?_ (args_tuple_getitem _ _)))
 show wpAny _ _ (Builtin.Tuple.tupleItemsOf (.ref t) >>= _) _ _ s
 refine ahJ (tupleItemsOf_ ht ?_)
 refine ahJ (wpAny_typeOf hTs ?_)
 rw [ah7 Q.c]
 refine ahJ (HT.kF hs pl pu ?_)
 show wpAny _ _ (if (((HT.fz items.size 0 lo : Nat) : Int) == 0 && (1 : Int) == 1 && (HT.fz items.size items.size hi - HT.fz items.size 0 lo) == items.size) = true then _ else _) _ _ s
 rw [hw.1, hw.2]
 rw [ah7 (by simp)]
 unfold Builtin.Tuple.tupleIsExact
 refine ahJ (ahJ (wpAny_typeOf ht.typeIs (ahO ?_)))
 rw [ah7 Q.c]
 exact ahJ (wpAny_rule (ahO ⟨_, rfl, ahO h⟩))
variable {X : Cx}
def adE (K : Q.h) : V -> Option Int -> Option Int -> Hp -> VK -> Prop := fun x lo hi H Q => ∃ a xs, x = .ref a /\ kD K H a xs ∧
 ((HT.fz xs.length 0 lo = 0 /\ HT.fz xs.length xs.length hi = xs.length) -> Q (.ref a) H) /\ (¬ (HT.fz xs.length 0 lo = 0 /\ HT.fz xs.length xs.length hi = xs.length) -> ∀ p, H p = none -> Q (.ref p) (upd H p (.tup (yz xs lo hi))))
theorem Qa : Zc X (adE X.K) := by
 intro pins s σ H x v vl vu lo hi sl Q I rx hs pl pu h
 obtain ⟨a, xs, rfl, hx, q1, q2⟩ := h
 by_cases hw : HT.fz xs.length 0 lo = 0 /\ HT.fz xs.length xs.length hi = xs.length
 . cases rx
   obtain ⟨its, r, ht, hz⟩ := I.tuple hx
   have hlen : its.toArray.size = xs.length := by rw [aii]; exact r.length.symm
   refine ⟨"tuple", _, aiV.lookup, ht.typeIs, ?_⟩
   exact qG ht hs pl pu (by rw [hlen]; exact hw) ⟨.ref a, _, I, rfl, q1 hw⟩
 . exact UX pins s σ H _ v vl vu lo hi sl Q I rx hs pl pu ⟨a, xs, rfl, hx, hw, q2 hw⟩
theorem G7 (hc : X.calm = true) : g8 X (.type "set") (fun xs H Q => ∃ (p : Addr) (ns : List Int), xs = [.ref p] /\ kZ X.K H p (ns.map V.int) /\ ns.length <= 1000 /\ ∀ l, H l = none -> Q (.ref l) (upd H l (.ext (L3.Ks X.prog X.w l (firstMet (fun i => ns.getD i 0) ns.length).length)))) := by
 intro pins s σ H xs us Q I r h
 obtain ⟨p, ns, rfl, hp, hn, q⟩ := h
 obtain ⟨u, rfl, ru⟩ := vals1 r
 cases ru
 obtain ⟨its, rv, pl, hz⟩ := I.list hp
 have hl : its.length = ns.length := by rw [← rv.length, ahK]
 refine call_set_list (ns := ns) (I.ok.hd hc) pl.isList (by simpa using L3.Bo rv) (by rw [List.size_toArray, hl]; unfold scanBound; omega) fun h' tk hS hk => ?_
 have ek : ∀ b o, s.heap.get? b = some o -> h'.get? b = some o := fun b o e => hk b o (aid e) e
 have hS2 : L3.Ks X.prog X.w s.heap.objs.size (firstMet (fun i => ns.getD i 0) ns.length).length h' := by
   have e1 : its.toArray.size = ns.length := by rw [aii, hl]
   rw [e1] at hS
   exact ⟨_, hS⟩
 refine ⟨.ref s.heap.objs.size, _, I.laid (t' := tk) (o := .ext (L3.Ks X.prog X.w s.heap.objs.size (firstMet (fun i => ns.getD i 0) ns.length).length)) ek (ah0 _) ⟨hS2, ?_, ?_⟩, rfl, q _ (I.cP.fresh (ah0 _))⟩
 . obtain ⟨_, o, _, _, _, e, _⟩ := hS2
   exact ⟨o, e⟩
 . rintro h1 h2 ⟨S, o, es, ep, t, e, rest⟩ k
   exact ⟨S, o, es, ep, t, k o e, rest⟩
theorem EX (f : Nat -> Int) : ∀ k, (firstMet f k).length <= k
 | 0 => ah0 _
 | k + 1 => by
   rw [firstMet_succ]
   have := EX f k
   unfold step_dedup
   split
   . omega
   . rw [ah1]
     show _ + 1 <= _
     omega
theorem Bt (f : Nat -> Int) : ∀ n, argBest (fun i j => decide (f i > f j)) n <= n /\ ∀ i, i <= n -> f i <= f (argBest (fun i j => decide (f i > f j)) n)
 | 0 => ⟨ah0 _, fun i hi => by rw [Nat.le_zero.mp hi]; exact Int.le_refl _⟩
 | n + 1 => by
   obtain ⟨h1, h2⟩ := Bt f n
   rw [argBest]
   split
   . rename_i h
     have h := aix h
     refine ⟨ah0 _, fun i hi => ?_⟩
     rcases Nat.lt_or_ge i (n + 1) with z | z
     . have := h2 i Q.a
       omega
     . rw [show i = n + 1 by omega]; exact Int.le_refl _
   . rename_i h
     have h : ¬ f (n + 1) > f (argBest (fun i j => decide (f i > f j)) n) := of_decide_eq_false (by simpa using h)
     refine ⟨by omega, fun i hi => ?_⟩
     rcases Nat.lt_or_ge i (n + 1) with z | z
     . exact h2 i Q.a
     . rw [show i = n + 1 by omega]; omega
theorem G8 (hc : X.calm = true) : g8 X (.builtin "max") (fun xs H Q => ∃ (p : Addr) (ns : List Int) (m : Int), xs = [.ref p] /\ kZ X.K H p (ns.map V.int) /\ m ∈ ns /\ (∀ x ∈ ns, x <= m) /\ Q (.int m) H) := by
 intro pins s σ H xs us Q I r h
 obtain ⟨p, ns, m, rfl, hq, hm, hle, q⟩ := h
 obtain ⟨u, rfl, rx⟩ := vals1 r
 cases rx
 obtain ⟨its, r', pl, hz⟩ := I.list hq
 have hi := intsAre_of r'
 obtain ⟨xs, hx⟩ := hi.allInts.items
 have hn := hi.numsOf
 have hl := pl.isList
 rw [hx] at hl
 have e : its = (intItems xs).toList := by rw [← hx]
 rw [e, nums_intItems] at hn
 have hlen : xs.size = ns.length := by rw [← hn]; simp
 have Bu : 0 < xs.size := by rw [hlen]; exact List.length_pos_of_mem hm
 refine max_intList (I.ok.hd hc) hl Bu fun v h' tk hv hk => ⟨.int m, H, I.kept (t' := tk) hk, ?_, q⟩
 obtain ⟨b1, b2⟩ := Bt (numAt xs) (xs.size - 1)
 obtain ⟨k, hk⟩ : ∃ k, k = argBest (fun i j => decide (numAt xs i > numAt xs j)) (xs.size - 1) := ⟨_, rfl⟩
 rw [← hk] at hv b1 b2
 have wK : k < xs.size := by omega
 have V4 : ∀ j, numAt xs j = ns.getD j 0 := fun j => by rw [numAt_eq, hn]
 have adF : ns.getD k 0 = m := by
   have h1 : ns.getD k 0 <= m := hle _ (by
     rw [ahV, ahN Q.a]
     exact ajl _)
   obtain ⟨j, hj⟩ := ai1.mp hm
   have CP := (ahW.mp hj).1
   have h2 := b2 j Q.a
   rw [V4, V4, ahV, hj] at h2
   have h2 : m <= ns.getD k 0 := h2
   omega
 have hv2 : (intItems xs)[k]? = some (.int (xs[k]'wK).1 (xs[k]'wK).2) := by
   unfold intItems
   rw [Array.getElem?_map, ajq wK]
   rfl
 rw [hv2] at hv
 cases hv
 refine ⟨(xs[k]'wK).2, ?_⟩
 have : (xs[k]'wK).1 = m := by
   rw [← adF, ← V4]
   unfold numAt
   simp [wK]
 rw [this]
end L2
namespace L3
open PySem PySem.Spec PyProof.Rows L2
variable {X : Cx} {CL : Q.d} {b : Bx} {δ δ1 δ2 δ3 : Q.e} {e : Expr} {ds : List L3.D} {pos p2 pp pr : Pos}
theorem vA {lo hi : Option Expr} {l h : Option Int} (h1 : bI X CL b e δ (.sh (.tup ds)) δ1) (h2 : Tc X CL b lo δ1 l δ2) (h3 : Tc X CL b hi δ2 h δ3) :
   bI X CL b (.Subscript e (.Slice lo hi none p2) pos) δ (.sh (.tup (cutD ds l h))) δ3 := fun H Z σ ts vs Q S k => by
 obtain ⟨t2, Zz, w2⟩ := h2
 obtain ⟨t3, ZC, w3⟩ := h3
 refine bN (u9 Qa cA Zz ZC) (h1 H Z σ ts vs _ S fun v H1 Z1 z1 k1 S1 => w2 H1 Z1 σ _ _ _ S1 fun H2 Z2 z2 k2 S2 => w3 H2 Z2 σ _ _ _ S2 fun H3 Z3 z3 k3 S3 => ?_)
 have r := S3.mz
 have r0 := r
 cases r with
 | @tup a us _ hq rr =>
   refine ⟨a, us, rfl, ay.tY S3.zh hq, fun hw => ?_, fun hw p hp => ?_⟩
   . have hul : us.length = ds.length := rr.length.symm
     rw [hul] at hw
     have e : cutD ds l h = ds := by unfold cutD; rw [hw.1, hw.2, List.drop_zero]; exact List.take_of_length_le Q.a
     rw [e] at k
     exact k _ _ Z3 (z1.trans (z2.trans z3)) (k1.trans (k2.trans k3)) S3
   . have rc := rr.cut l h
     obtain ⟨a, c, S4⟩ := (aY.pC rc S3.pop).yN (by simp [rc.length]) hp
     obtain ⟨Z5, z5, S5⟩ := S4.yL
     rw [T.bM, iA] at S5
     exact k _ _ Z5 (z1.trans (z2.trans (z3.trans (a.trans z5)))) (k1.trans (k2.trans (k3.trans c))) S5
theorem vC {ns : List Int} (g : Gx X) (hm : X.mg "len" = none) (ZT : X.mg "set" = none) (h : cU X CL b e δ (.lst (ns.map D.int)) δ1) (hn : ns.length <= 1000) (hg : Gl X "len") (hgr : Gl X "set") (hs : Q.x := by exact aW rfl) :
   bI X CL b (.Call (.Name "len" pp) [.Call (.Name "set" p2) [e] [] pr] [] pos) δ (.sh (.int (firstMet (fun i => ns.getD i 0) ns.length).length)) δ1 := fun H Z σ ts vs Q S k =>
 bN (gI Bp hg hm PySem.boot_len (bL (gC (G7 g.calm) hgr ZT GX (bL cA c5 hs) (he := hs)) c5 (aW rfl)) (he := aW rfl)) (h H Z σ ts vs _ S fun v H1 Z1 z1 k1 S1 r => by
   cases r with
   | lst hq rr =>
   have eu := sd rr
   have hl := EX (fun i => ns.getD i 0) ns.length
   generalize hN : (firstMet (fun i => ns.getD i 0) ns.length).length = N at hl ⊢
   refine ⟨_, ns, rfl, by rw [← eu]; exact hq, hn, fun r hr => ?_⟩
   rw [hN]
   refine ⟨r, N, rfl, aB, by omega, ?_⟩
   have same : ay H1 (upd H1 r (.ext (Ks X.prog X.w r N))) := ay.upd hr
   obtain ⟨Z', z', S2⟩ := S1.back (t := .sh (.int N)) (v := .int N) (fp := []) (W := Z1) (W' := Z1) same (.refl _) (.refl _) (S1.zh.trans same) (fun a o q z => by rw [q] at z; cases z) (fun a o q im => by
     by_cases ha : a = r
     . subst ha; rw [aB] at q; cases q; cases im
     . rw [ao ha] at q; exact S1.tp a o q im) (.sh (.int _)) ajn (fun a ha => by cases ha) (.inl rfl)
   rw [hN] at k
   exact k _ _ _ (z1.trans z') (k1.trans same) S2)
theorem ua {l : List Int} {m : Int} (g : Gx X) (hm : X.mg "max" = none) (h : cU X CL b e δ (.lst (l.map .int)) δ1) (VF : m ∈ l) (hle : ∀ x ∈ l, x <= m) (hg : Gl X "max") (hs : Q.x := by exact aW rfl) : bI X CL b (.Call (.Name "max" pp) [e] [] pos) δ (.sh (.int m)) δ1 := fun H Z σ ts vs Q S k =>
 bN (gI (G8 g.calm) hg hm boot_max (bL cA c5 hs) (he := hs)) (h H Z σ ts vs _ S fun v H1 Z1 z1 k1 S1 r => by
   cases r with
   | @lst a us _ hq rr =>
     have := sd rr
     subst this
     exact ⟨a, l, m, rfl, hq, VF, hle, k _ H1 Z1 z1 k1 (S1.push (.int _))⟩)
instance agz : DecidableEq D := fun a b => Classical.propDecidable (a = b)
inductive jb : Nat -> D -> Prop where
 | int (n : Nat) (i : Int) : jb n (.int i)
 | str (n : Nat) (x : Str) (h : PyData.strOk x = true) : jb n (.str x)
 | tup {n : Nat} {ds : List D} (h : ∀ d ∈ ds, jb n d) : jb (n + 1) (.tup ds)
theorem jb.dep {n : Nat} {d : D} (h : jb n d) : jv n d := by
 induction h with
 | int n i => exact .int n i
 | str n x h => exact .str n x h
 | tup _ ih => exact .tup ih
mutual
inductive NV (h : Heap) : D -> Value -> Prop where
 | int (i : Int) (t : Tok) : NV h (.int i) (.int i t)
 | str (x : Str) (t : Tok) : NV h (.str x) (.str x t)
 | tup {a : Addr} {o : Obj} {its : Array Value} {m : Nat} {ds : List D} : h.get? a = some o -> o.cls = .type "tuple" -> o.data = .seq its m -> N9 h ds its.toList -> NV h (.tup ds) (.ref a)
inductive N9 (h : Heap) : List D -> List Value -> Prop where
 | nil : N9 h [] []
 | cons {d : D} {v : Value} {ds : List D} {vs : List Value} : NV h d v -> N9 h ds vs -> N9 h (d :: ds) (v :: vs)
end
variable {v : Value}
theorem NV.reads {h : Heap} {d : D} (q : NV h d v) : ∃ as, Reads h v d.toPy as :=
 NV.rec (motive_1 := fun d v _ => ∃ as, Reads h v d.toPy as) (motive_2 := fun ds vs _ => ∃ as, ReadsAll h vs (D.di ds) as)
   (fun i t => by rw [D.toPy]; exact ⟨[], .int i t⟩) (fun x t => by rw [D.toPy]; exact ⟨[], .str x t⟩)
   (fun e c dt _ ⟨as, ra⟩ => by rw [D.toPy]; exact ⟨as, .tuple e c dt ra⟩)
   (by rw [D.di]; exact ⟨[], .nil⟩) (fun _ _ ⟨as, ra⟩ ⟨bs, rb⟩ => by rw [D.di]; exact ⟨as ++ bs, .cons ra rb⟩) q
theorem NV.inj {h : Heap} {d : D} (q : NV h d v) : ∀ d2, NV h d2 v -> d = d2 :=
 NV.rec (motive_1 := fun d v _ => ∀ d2, NV h d2 v -> d = d2) (motive_2 := fun ds vs _ => ∀ d2, N9 h d2 vs -> ds = d2)
   (fun i t d2 q => by cases q; rfl) (fun x t d2 q => by cases q; rfl)
   (fun e c dt _ ih d2 q => by
     cases q with
     | tup e' c' dt' r' =>
       cases e.symm.trans e'
       cases dt.symm.trans dt'
       rw [ih _ r'])
   (fun d2 q => by cases q; rfl) (fun _ _ i1 i2 d2 q => by
     cases q with
     | cons a b => rw [i1 _ a, i2 _ b]) q
theorem NV.keeps {h h' : Heap} {d : D} {x : Addr} {o : Obj} {es : Array DictEntry} {ep : Nat} (q : NV h d v) (ho : h.get? x = some o) (hd : o.data = .dict es ep) (hs : Heap.SameBut x h h') : NV h' d v :=
 NV.rec (motive_1 := fun d v _ => NV h' d v) (motive_2 := fun ds vs _ => N9 h' ds vs) .int .str
   (fun {a} {o2} {its} {m} {ds} e c dt _ ih => .tup ((hs.2 a fun z => by subst z; cases ho.symm.trans e; rw [hd] at dt; cases dt).trans e) c dt ih)
   .nil (fun _ _ a b => .cons a b) q
theorem Qc {n : Nat} {a b : D} (ha : jb n a) : ∀ m, jb m b -> rW a b = decide (a = b) := by
 induction ha generalizing b with
 | int n i =>
   intro m hb
   unfold rW
   cases hb with
   | int _ j =>
     rw [D.toPy, D.toPy, PyData.eqv]
     by_cases e : i = j
     . rw [e, ai0 rfl, ajk]
     . rw [aio (fun z => e (by injection z)), aiY.mpr e]
   | str _ y _ => rw [D.toPy, D.toPy, PyData.eqv, aio (fun z => by cases z)]
   | tup _ => rw [D.toPy, D.toPy, PyData.eqv, aio (fun z => by cases z)]
 | str n x _ =>
   intro m hb
   unfold rW
   cases hb with
   | int _ j => rw [D.toPy, D.toPy, PyData.eqv, aio (fun z => by cases z)]
   | str _ y _ =>
     rw [D.toPy, D.toPy, PyData.eqv]
     by_cases e : x = y
     . rw [e, ai0 rfl, ajk]
     . rw [aio (fun z => e (by injection z)), aiY.mpr e]
   | tup _ => rw [D.toPy, D.toPy, PyData.eqv, aio (fun z => by cases z)]
 | @tup n xs hx ih =>
   intro m hb
   cases hb with
   | int _ j => unfold rW; rw [D.toPy, D.toPy, PyData.eqv, aio (fun z => by cases z)]
   | str _ y _ => unfold rW; rw [D.toPy, D.toPy, PyData.eqv, aio (fun z => by cases z)]
   | @tup m ys hy =>
     have all : ∀ (xs ys : List D), (∀ x ∈ xs, ∀ b m, jb m b -> rW x b = decide (x = b)) -> (∀ y ∈ ys, jb m y) -> PyData.eqvAll (D.di xs) (D.di ys) = decide (xs = ys) := by
       intro xs
       induction xs with
       | nil =>
         intro ys _ _
         cases ys with
         | nil => rw [D.di, PyData.eqvAll, ai0 rfl]
         | cons _ _ => rw [D.di, D.di, PyData.eqvAll, aio (fun z => by cases z)]
       | cons x xs ihx =>
         intro ys h1 h2
         cases ys with
         | nil => rw [D.di, D.di, PyData.eqvAll, aio (fun z => by cases z)]
         | cons y ys =>
           have e1 : PyData.eqv x.toPy y.toPy = decide (x = y) := h1 x ahL y m (h2 y ahL)
           rw [D.di, D.di, PyData.eqvAll, e1, ihx ys (fun z hz => h1 z (ahP _ hz)) fun z hz => h2 z (ahP _ hz)]
           by_cases e : x = y
           . subst e
             by_cases e2 : xs = ys
             . subst e2; simp
             . simp [e2]
           . simp [e]
     unfold rW
     rw [D.toPy, D.toPy, PyData.eqv, all xs ys (fun x hx2 b m hb => ih x hx2 m hb) hy]
     by_cases e : xs = ys
     . subst e; rw [ai0 rfl, ai0 rfl]
     . rw [aio e, aio (fun z => e (by injection z))]
mutual
def D.Oa : D -> Nat
 | .tup ds => D.qH ds + 1
 | _ => 1
def D.qH : List D -> Nat
 | [] => 0
 | d :: ds => d.Oa + D.qH ds
end
theorem Bv (w : World) : ∀ ds : List D, D.yK w ds = ds.map (D.Gr w)
 | [] => by rw [D.yK]; rfl
 | d :: ds => by rw [D.yK, Bv w ds]; rfl
theorem xX (d : D) : ∀ ds : List D, D.qH (ds ++ [d]) = D.qH ds + d.Oa
 | [] => by rw [ajf, D.qH, D.qH, D.qH]; omega
 | e :: ds => by rw [aiz, D.qH, D.qH, xX d ds]; omega
variable {P : Program} {w : World} {A : Around} {E : Q.k}
theorem Qd : ∀ (n : Nat) {A : Around} {E : Q.k} (hu : A.units + n < cLine) {d : D} {v : Value} {s : Shared} {Q : Int -> Shared -> Prop}, jb n d -> NV s.heap d v -> Q (d.Gr w) { s with toks := s.toks + d.Oa } -> wpAny (model P w) A (pyHash v) Q E s := by
 intro n
 induction n with
 | zero =>
   intro A E hu d v s Q nd q k
   cases q with
   | int i t => exact wpAny_pyHash_int (by rw [D.Gr, D.Oa] at k; exact k; intro _ z; cases z)
   | str x t => exact wpAny_pyHash_str (by rw [D.Gr, D.Oa] at k; exact k; intro _ z; cases z)
   | tup => cases nd
 | succ n ih =>
   intro A E hu d v s Q nd q k
   cases q with
   | int i t => exact wpAny_pyHash_int (by rw [D.Gr, D.Oa] at k; exact k; intro _ z; cases z)
   | str x t => exact wpAny_pyHash_str (by rw [D.Gr, D.Oa] at k; exact k; intro _ z; cases z)
   | @tup a o its m ds e c dt qs =>
     cases nd with
     | tup nd =>
       have ty : s.TypeIs (.ref a) "tuple" := ⟨o, e, c⟩
       rw [D.Gr, D.Oa] at k
       unfold pyHash
       first | unfold pyHashByItsType | skip
       first | refine ahJ (wpAny_cRoomFor_or (.inr Q.a) (ahJ (ajR ty ajX.lookup ?_))) | refine ahJ (ajR ty ajX.lookup ?_)
       show wpAny _ A (ite ((some (Value.builtin "tuple.__hash__") == some Value.none) = true) _ _) Q E s
       rw [ahX (by rw [beq_builtin_none]; decide)]
       refine ahJ (ajR ty ajX.lookup (ahJ (wpAny_callSpecialIfBoundUnlessNone?_slot ty ajX (aiG ajX ty F.entry_tuple_hash ?_ (F.args_tuple_hash_1 _)))))
       show wpAny _ _ (Builtin.Tuple.tupleItemsOf (.ref a) >>= fun _ => _) _ _ s
       refine ahJ (wpAny_tupleItemsOf e dt (ahJ ?_))
       rw [← Array.forIn_toList]
       refine wpAny_forIn_list _ (fun rest (g : Array Int) s1 => ∃ done left, ds = done ++ left /\ N9 s.heap left rest /\ g.toList = D.yK w done /\ s1 = { s with toks := s.toks + D.qH done }) _ ?_ ?_ _ _ ⟨[], ds, rfl, qs, by rw [D.yK], by rw [D.qH]; rfl⟩
       . rintro x rest g s1 ⟨done, left, rfl, ql, hg, rfl⟩
         cases ql with
         | @cons y _ left _ q1 ql =>
           have inv : ∃ K4 Tv, done ++ y :: left = K4 ++ Tv /\ N9 s.heap Tv rest /\ (g.push (y.Gr w)).toList = D.yK w K4 /\ ({ s with toks := s.toks + D.qH done + y.Oa } : Shared) = { s with toks := s.toks + D.qH K4 } :=
             ⟨done ++ [y], left, by simp, ql, by rw [Bv] at hg ⊢; simp [hg], by rw [xX, Nat.add_assoc]⟩
           refine ahJ (ih (by show A.units + 1 + n < cLine; omega) (s := { s with toks := s.toks + D.qH done }) (nd y (by simp)) q1 ?_)
           first
             | exact ahO inv
             | exact ahJ (ahO (ahO inv))
       . rintro g s1 ⟨done, left, rfl, ql, hg, rfl⟩
         cases ql
         rw [aip] at k
         show wpAny _ _ (retInt (Builtin.Tuple.tupleHashOf g.toList)) _ _ _
         rw [hg]
         refine wpAny_ret_mkInt ?_
         generalize Builtin.Tuple.tupleHashOf (D.yK w done) = hv at k ⊢
         show wpAny _ _ (ite ((decide (-(2 : Int) ^ 63 <= hv) && decide (hv < 2 ^ 63)) = true) _ _) Q E _
         unfold reduceHash at k
         by_cases hr : (decide (-(2 : Int) ^ 63 <= hv) && decide (hv < 2 ^ 63)) = true
         . rw [ah7 hr] at k ⊢
           exact wpAny_pure (by simpa [Nat.add_assoc] using k)
         . rw [ahX hr] at k ⊢
           exact wpAny_bind (wpAny_rule (wpAny_pure (by simpa [Nat.add_assoc] using k)))
theorem K5 : ∀ (n : Nat) {d : D} {v : Value} {s : Shared} {Q : Bool -> Shared -> Prop}, jb n d -> NV s.heap d v -> Q true s -> wpAny (model P w) A (eqIsQuiet n v) Q E s := by
 intro n
 induction n with
 | zero =>
   intro d v s Q nd q k
   cases q with
   | int i t => rw [ako _ rfl]; exact ahO k
   | str x t => rw [ako _ rfl]; exact ahO k
   | tup => cases nd
 | succ n ih =>
   intro d v s Q nd q k
   cases q with
   | int i t => rw [ako _ rfl]; exact ahO k
   | str x t => rw [ako _ rfl]; exact ahO k
   | @tup a o its m ds e c dt qs =>
     cases nd with
     | tup nd =>
       have ty : s.TypeIs (.ref a) "tuple" := ⟨o, e, c⟩
       unfold eqIsQuiet
       refine ahJ (ajR ty F.slot_tuple_eq.lookup ?_)
       refine ahJ (aj4 ty isSubtype_tuple_tuple ?_)
       simp only [Bool.not_true, ajo, ajs]
       refine ahJ (wpAny_seqItems e dt (ahJ ?_))
       show wpAny _ A (forIn its _ _) _ _ s
       rw [← Array.forIn_toList]
       refine wpAny_forIn_list _ (fun rest r s1 => r.1 = none /\ s1 = s /\ ∃ left, N9 s.heap left rest /\ ∀ d ∈ left, jb n d) _ ?_ ?_ _ _ ⟨rfl, rfl, ds, qs, nd⟩
       . rintro x rest r s1 ⟨hr, rfl, left, ql, hl⟩
         cases ql with
         | @cons y _ left _ q1 ql =>
           refine ahJ (ih (hl y ahL) q1 ?_)
           simp only [Bool.not_true, ajo, ajs]
           exact ahO ⟨rfl, rfl, left, ql, fun d hd => hl d (ahP _ hd)⟩
       . rintro ⟨r1, r2⟩ s1 ⟨hr, rfl, _⟩
         simp only at hr
         subst hr
         exact ahO k
def mY (P : Program) (w : World) : HeapKind P w D where
 is := fun h d a => jb 8 d /\ NV h d (.ref a)
 hash := D.Gr w
 draws := D.Oa
 room := fun A => A.units + 9 < cLine
 inj := fun hx hy => hx.2.inj _ hy.2
 keeps := fun x ho hd hs => ⟨x.1, x.2.keeps ho hd hs⟩
 pyHash := fun hu hk h => Qd 8 Q.a hk.1 hk.2 h
 eqBool := fun {A E s x y a b Q} hu hx hy h => by
   obtain ⟨as, ra⟩ := hx.2.reads
   obtain ⟨bs, rb⟩ := hy.2.reads
   have h1 := hx.1.dep.lay
   have h2 := hy.1.dep.lay
   have e : PyData.eqv x.toPy y.toPy = decide (x = y) := Qc hx.1 8 hy.1
   have := SeqAt.eqAt_reads _ _ A s _ _ _ _ ra rb h1.1 h2.1 (by have := h1.2; omega)
   rw [e] at this
   exact this P w E Q h
 quiet := fun hk h => K5 8 hk.1 hk.2 h
variable {pins : Q.j} {σ : L2.St} {H : Hp} {s : Shared}
theorem nvD (I : L2.Inv X pins σ H s) {n : Nat} {d : D} {v : V} {u : Value} (hd : jb n d) (q : aV X.K CL H d v) (r : RelV v u) : NV s.heap d u := by
 refine aV.rec (motive_1 := fun d v _ => ∀ (n : Nat) (u : Value), jb n d -> RelV v u -> NV s.heap d u)
   (motive_2 := fun ds vs _ => ∀ (n : Nat) (us : List Value), (∀ d ∈ ds, jb n d) -> Vals vs us -> N9 s.heap ds us) (motive_3 := fun _ _ _ => True) (motive_4 := fun _ _ _ => True) (motive_5 := fun _ _ _ => True)
   (fun _ _ hd _ => by cases hd) (fun b _ _ hd _ => by cases hd) (fun i _ _ _ r => by obtain ⟨t, rfl⟩ := r; exact .int i t) (fun x _ _ _ r => by obtain ⟨t, rfl⟩ := r; exact .str x t) (fun _ _ _ hd _ => by cases hd) (fun _ _ _ hd _ => by cases hd) (fun hq _ ih n u hd r => ?tup)
   (fun _ _ _ _ _ hd _ => by cases hd) (fun _ _ _ _ _ hd _ => by cases hd) (fun _ _ _ _ _ hd _ => by cases hd) (fun _ _ _ _ _ hd _ => by cases hd) (fun _ _ _ _ _ hd _ => by cases hd)
   (fun _ _ _ r => by cases r; exact .nil) (fun _ _ ih ihs n us h r => ?cons) trivial Q.r trivial Q.r trivial Q.r q n u hd r
 case tup =>
   cases hd with
   | tup hd =>
     cases r
     obtain ⟨its, rv, ⟨o, e, c, k, dt⟩, _⟩ := I.tuple hq
     exact .tup e c dt (by simpa using ih _ _ hd rv)
 case cons =>
   cases r with
   | cons r rs => exact .cons (ih n _ (h _ ahL) r) (ihs n _ (fun e he => h e (ahP _ he)) rs)
def IK (X : Cx) (CL : Q.d) (H : Hp) (a : Addr) (ds : List D) (vs : List V) : Prop := H a = some (.ext (A5 X.w a ds vs)) /\ aA X.K CL H ds vs /\ (∀ d ∈ ds, jb 8 d) /\ ds.Nodup
variable {a : Addr} {vs : List V}
theorem IK.have (I : L2.Inv X pins σ H s) {ds : List D} (g : IK X CL H a ds vs) :
   (a == sysModules) = false /\ ∃ xs : List (D × Addr × Value), s.heap.DictOfH (mY X.prog X.w) a xs /\ xs.map (·.1) = ds /\ xs.map (fun x => V.ref x.2.1) = vs /\ ∀ (i : Nat) x, xs[i]? = some x -> ∃ t, x.2.2 = .int i t := by
 obtain ⟨e, r, hn, nd⟩ := g
 obtain ⟨⟨sm, xs, o, es, ep, h1, h2, h3, h4, h5, h6, h7⟩, _⟩ := I.cP a _ e
 refine ⟨sm, xs, ⟨o, es, ep, h1, h2, h3, h4, fun x hx => ?_, by rw [h5]; exact nd⟩, h5, h6, h7⟩
 obtain ⟨i, hi⟩ := ai1.mp hx
 have hd : ds[i]? = some x.1 := by rw [← h5, ahU, hi]; rfl
 have hv : vs[i]? = some (.ref x.2.1) := by rw [← h6, ahU, hi]; rfl
 obtain ⟨v, hv2, rv⟩ := r.get hd
 rw [hv] at hv2
 cases hv2
 have n8 := hn x.1 (ah3 hd)
 exact ⟨n8, nvD I n8 rv rfl⟩
theorem K6 {xs : List (D × Addr × Value)} {ds : List D} {k : D} (h : xs.map (·.1) = ds) (nd : ds.Nodup) (hv : ∀ (i : Nat) x, xs[i]? = some x -> ∃ t, x.2.2 = .int i t) (hk : k ∈ ds) : ∃ p t, atKey xs k = some p /\ p.2 = .int (ds.idxOf k : Nat) t := by
 have hi : ds[ds.idxOf k]? = some k := by
   rw [ahN (aiA.mpr hk)]
   exact congrArg some (ai8 _)
 rw [← h, ahU] at hi
 obtain ⟨x, hx, e⟩ := aib.mp hi
 rw [h] at hx
 obtain ⟨t, ht⟩ := hv _ _ hx
 refine ⟨x.2, t, atKey_of_get (by rw [h]; exact nd) (i := ds.idxOf k) (by rw [hx, ← e]), ht⟩
theorem Tw {xs : List (D × Addr × Value)} {ds : List D} {k : D} (h : xs.map (·.1) = ds) (hk : k ∉ ds) : atKey xs k = none :=
 atKey_none_of_get fun j p hj => hk (by rw [← h]; exact ahY.mpr ⟨_, ah3 hj, rfl⟩)
theorem C4 {H' : Hp} {h' : Heap} {ds : List D} (g : A5 w a ds vs h') : cQ P w H' h' a (.ext (A5 w a ds vs)) := by
 refine ⟨g, ?_, fun h1 h2 q k => ?_⟩
 . obtain ⟨_, _, o, _, _, h1, _⟩ := g
   exact ⟨o, h1⟩
 . obtain ⟨sm, xs, o, es, ep, q1, q2⟩ := q
   exact ⟨sm, xs, o, es, ep, k o q1, q2⟩
theorem EY {h' : Heap} {c : Addr} {ds : List D} {xs : List (D × Addr × Value)} {k : D} {t : Tok} (sm : (a == sysModules) = false) (dd : h'.DictOfH (mY P w) a (xs ++ [(k, c, .int (ds.length : Nat) t)])) (h : xs.map (·.1) = ds) (g : xs.map (fun x => V.ref x.2.1) = vs) (hv : ∀ (i : Nat) x, xs[i]? = some x -> ∃ t, x.2.2 = .int i t) :
   A5 w a (ds ++ [k]) (vs ++ [.ref c]) h' := by
 obtain ⟨o, es, ep, h1, h2, h3, h4, _, _⟩ := dd
 refine ⟨sm, _, o, es, ep, h1, h2, h3, h4, by rw [ah2, h]; rfl, by rw [ah2, g]; rfl, fun i x hi => ?_⟩
 rcases Nat.lt_or_ge i xs.length with z | z
 . rw [aiq z] at hi
   exact hv i x hi
 . rw [aj8 z] at hi
   have : i - xs.length = 0 := by
     rcases Nat.eq_zero_or_pos (i - xs.length) with q | q
     . exact q
     . rw [aiI (by show 1 <= _; omega)] at hi; cases hi
   rw [this] at hi
   cases hi
   refine ⟨t, ?_⟩
   show Value.int _ t = _
   rw [← h, ahK, show i = xs.length by omega]
section
variable {prog : Program} {K : Type} [DecidableEq K] {knd : HeapKind prog w K}
theorem V5 {d : Addr} {xs : List (K × Addr × Value)} {k : K} {Q : Q.k} (hu : knd.room A) (tH : knd.is s.heap k a) (hm : s.heap.DictOfH knd d xs) (hz : xs.length <= sizeLine)
   (q1 : ∀ p, atKey xs k = some p -> Q p.2 { s with toks := s.toks + knd.draws k })
   (q2 : atKey xs k = none -> ∀ h', h'.DictOfH knd d (xs ++ [(k, a, v)]) -> Heap.SameBut d s.heap h' -> Q v { s with heap := h', toks := s.toks + knd.draws k }) : wpAny (model prog w) A (dictSetDefault d (.ref a) v) Q E s := by
 obtain ⟨o, es, ep, ho, hc, hd, he, his, hn⟩ := hm
 unfold dictSetDefault
 try with_reducible refine ajj ?_
 refine ahJ (knd.pyHash hu tH (ahJ (wpAny_dictFind_heap (s := { s with toks := s.toks + knd.draws k }) hu tH ho hd he his hn (fun En => ?_) fun j p hj => ?_)))
 . have adG : k ∉ xs.map (·.1) := not_mem_keys_of_get En
   refine ahJ (wpAny_rule (ahJ (wpAny_updateDictKeys (hz := by rw [akd he]; exact hz) (s := { s with toks := s.toks + knd.draws k }) ho hd (ahO (q2 (atKey_none_of_get En) _ ⟨_, _, ep + 1, ajD _ ho (Obj.isFreed_of_dict (Obj.data_mapDictKeys hd _)), hc.mapDictKeys _, Obj.data_mapDictKeys hd _, ?_, fun x hx => ?_, ?_⟩ (ai4 ..))))))
   . simp [he, entryOfKey]
   . rcases ahZ.mp hx with hx | hx
     . exact knd.keeps (his x hx) ho hd (ai4 ..)
     . rw [aiw.mp hx]
       exact knd.keeps tH ho hd (ai4 ..)
   . rw [ah2, ais]
     refine ⟨hn, akm _ _, fun x hx y hy e => adG ?_⟩
     have ek : y = k := aiw.mp hy
     rw [← ek, ← e]
     exact hx
 . refine ahJ (aiP (s := { s with toks := s.toks + knd.draws k }) ho hd ?_)
   rw [entry_at he j, hj]
   exact ahJ (wpAny_rule (ahO (q1 p (atKey_of_get hn hj))))
theorem Bw (knd : HeapKind prog w K) (d a : Addr) (hd : (d == sysModules) = false) (v : Value) :
   MeetsIn prog w (Builtin.«dict.setdefault» ⟨[.ref d, .ref a, v], []⟩) (fun A R s => knd.room A.in1 /\ ∃ k xs, knd.is s.heap k a /\ s.heap.DictOfH knd d xs /\ xs.length <= sizeLine ∧
     (∀ p, atKey xs k = some p -> R (.ok (.ret p.2)) { s with toks := s.toks + knd.draws k }) /\ (atKey xs k = none -> ∀ h', h'.DictOfH knd d (xs ++ [(k, a, v)]) -> Heap.SameBut d s.heap h' -> R (.ok (.ret v)) { s with heap := h', toks := s.toks + knd.draws k })) :=
 .of_wp fun A R s ⟨hu, k, xs, tH, hm, hz, q1, q2⟩ => by
   unfold Builtin.«dict.setdefault» Builtin.Dict.keyAndDefault
   refine ahJ (ahJ (aj0 hm.typeIs (show wpAny _ _ (pure (d, Value.ref a, some v)) _ _ s from ahO ?_)))
   show wpAny _ _ (ite ((d == sysModules) = true) _ (dictSetDefault d (.ref a) v >>= fun _ => _)) _ _ s
   rw [ahX (by rw [hd]; decide)]
   exact ahJ (V5 hu tH hm hz (fun p hp => ahO ⟨p.2, rfl, q1 p hp⟩) fun En h' dd hs => ahO ⟨v, rfl, q2 En h' dd hs⟩)
end
variable {o i value : Expr} {es : List Expr} {pos' apos iH : Pos} {td ty tv to : TE} {ta : TA}
theorem zb (h : A.units + 64 < cLine) : (mY P w).room A.in1 := by
 show A.units + 1 + 9 < cLine
 omega
theorem Qe : PE X (.Dict [] [] pos) (fun _ H Q => ∀ p, H p = none -> Q (.ref p) (upd H p (.ext (A5 X.w p [] [])))) := fun pins s σ H Q I h =>
 wpAny_Dict_empty ⟨.ref s.heap.objs.size, _, I.laid (a := s.heap.objs.size) (o := .ext (A5 X.w s.heap.objs.size [] [])) (t' := s.toks) (fun _ _ q => ah5 _ q) (ah0 _)
   (C4 ⟨aiY.mpr (ajM (aiF I.big)), [], _, #[], 0, aif _ rfl, ⟨rfl, rfl, rfl⟩, rfl, rfl, rfl, rfl, fun i x hx => by simp at hx⟩), rfl, h _ (I.cP.fresh (ah0 _))⟩
def IxK (X : Cx) (CL : Q.d) (H : Hp) (k : D) (c : Addr) : Prop := jb 8 k /\ aV X.K CL H k (.ref c)
theorem IxK.is {k : D} {c : Addr} (I : L2.Inv X pins σ H s) (h : IxK X CL H k c) : (mY X.prog X.w).is s.heap k c := ⟨h.1, nvD I h.1 h.2 rfl⟩
theorem Qf (hu : X.A.units + 64 < cLine) (ho : PE X o td) (hi : PE X i ty) (hs : yI i) : PE X (.Subscript o i pos) (fun σ H Q => td σ H fun x H1 => ty σ H1 fun y H2 => ∃ a c ds vs k, x = .ref a /\ y = .ref c /\ IK X CL H2 a ds vs /\ IxK X CL H2 k c /\ k ∈ ds /\ Q (.int (ds.idxOf k : Nat)) H2) := by
 intro pins s σ H Q I h
 refine yJ akc.lookup hs (eO (ho pins s σ H _ I h) fun u s1 ⟨x, H1, I1, rx, q1⟩ => eO (hi pins s1 σ H1 _ I1 q1) fun iv s2 zz => ?_)
 obtain ⟨y, H2, I2, ry, a, c, ds, vs, k, ex, ey, g, hk, hm, q2⟩ := zz
 subst ex ey
 obtain rfl : u = Value.ref a := rx
 obtain rfl : iv = Value.ref c := ry
 obtain ⟨sm, xs, dd, h1, h2, h3⟩ := IK.have I2 g
 obtain ⟨p, t, hp, ep⟩ := K6 h1 g.2.2.2 h3 hm
 exact ⟨dd.typeIs, wpAny_getItem_heap (zb hu) (hk.is I2) dd hp ⟨.int (ds.idxOf k : Nat), H2, I2.tok _, by rw [ep]; exact ⟨t, rfl⟩, q2⟩⟩
theorem abO (hu : X.A.units + 64 < cLine) (ho : PE X o td) (hi : PE X i ty) (hv : PE X value tv) (hs : swapsWith value (some (.Subscript o i pos')) pos.line X.env = pure false) :
   PS X (.Assign [.Subscript o i pos'] value pos) (fun D σ H => tv σ H fun v H1 => td σ H1 fun x H2 => ty σ H2 fun y H3 => ∃ a c ds vs k, v = .int (ds.length : Nat) /\ x = .ref a /\ y = .ref c /\ IK X CL H3 a ds vs /\ IxK X CL H3 k c /\ k ∉ ds /\ ds.length <= 1000000 /\ D.nx σ (upd H3 a (.ext (A5 X.w a (ds ++ [k]) (vs ++ [.ref c]))))) := by
 intro pins s σ H D I h
 refine wpAny_Assign_Subscript (eO (hv pins s σ H _ I h) fun r s1 ⟨v, H1, I1, rv, q1⟩ => eO (ho pins s1 σ H1 _ I1 q1) fun u s2 ⟨x, H2, I2, rx, q2⟩ => eO (hi pins s2 σ H2 _ I2 q2) fun iv s3 zz => ?_) hs
 obtain ⟨y, H3, I3, ry, a, c, ds, vs, k, ev, ex, ey, g, hk, hm, hl, q3⟩ := zz
 subst ev ex ey
 obtain rfl : u = Value.ref a := rx
 obtain rfl : iv = Value.ref c := ry
 obtain ⟨t, rfl⟩ := rv
 obtain ⟨sm, xs, dd, h1, h2, h3⟩ := IK.have I3 g
 have hz : xs.length <= sizeLine := by rw [aic, ← ahK (f := (·.1)), h1]; omega
 refine wpAny_setItem_heap (hsz := hz) (zb hu) (hk.is I3) dd fun h' A3 IE => ⟨σ, _, ?_, q3⟩
 rw [storedH_new (Tw h1 hm)] at A3
 have g2 := EY sm A3 h1 h2 h3
 exact qx I3 (by rw [g.1]; exact True.intro) IE (let ⟨_, _, o, _, _, q, _⟩ := g2; ⟨o, q⟩) (C4 g2)
theorem By : g8 X (.builtin "len") (fun xs H Q => ∃ a ds vs, xs = [.ref a] /\ IK X CL H a ds vs /\ ds.length <= 1000000 /\ Q (.int (ds.length : Nat)) H) := by
 intro pins s σ H xs us Q I r h
 obtain ⟨a, ds, vs, rfl, g, hl, q⟩ := h
 obtain ⟨u, rfl, rx⟩ := vals1 r
 cases rx
 obtain ⟨sm, xs, dd, h1, h2, h3⟩ := IK.have I g
 have ty := dd.typeIs
 obtain ⟨ob, es, ep, ho, hc, jH, he, _, _⟩ := dd
 have hz : es.size = ds.length := by rw [akd he, ← h1, ahK]
 refine call_len_slot (n := (ds.length : Nat)) ty aj1 (fun Q' hq => ?_) Q.a Q.a ⟨.int (ds.length : Nat), H, I.tok _, ⟨_, rfl⟩, q⟩
 refine aiG aj1 ty PySem.F.entry_dict_len ?_ (PySem.F.args_dict_len_1 _)
 show wpAny _ _ (dictSize a >>= fun _ => _) _ _ s
 unfold dictSize
 refine ahJ (ahJ (aiP ho jH (ahO (show wpAny _ _ (Builtin.Dict.pendingCount a >>= fun _ => _) _ _ s from ahJ (wpAny_pendingCount_other sm (wpAny_ret_mkInt ?_))))))
 rw [hz]
 simpa using hq
def Tz (X : Cx) (CL : Q.d) : V -> List V -> Hp -> VK -> Prop := fun x xs H Q => ∃ a c ds vs k, x = .ref a /\ xs = [.ref c, .int (ds.length : Nat)] /\ IK X CL H a ds vs /\ IxK X CL H k c /\ ds.length <= 1000000 /\ (k ∈ ds -> Q (.int (ds.idxOf k : Nat)) H) /\ (k ∉ ds -> Q (.int (ds.length : Nat)) (upd H a (.ext (A5 X.w a (ds ++ [k]) (vs ++ [.ref c])))))
theorem Qg (hu : X.A.units + 64 < cLine) : MtM X "dict.setdefault" (Tz X CL) := by
 intro pins s σ H x vs v us Q I rx rv h
 obtain ⟨a, c, ds, ws, k, rfl, rfl, g, hk, hl, q1, q2⟩ := h
 cases rx
 cases rv with
 | cons r1 rv =>
   cases r1
   cases rv with
   | cons r2 rv =>
     cases rv
     obtain ⟨t, rfl⟩ := r2
     obtain ⟨sm, xs, dd, h1, h2, h3⟩ := IK.have I g
     have hz : xs.length <= sizeLine := by rw [aic, ← ahK (f := (·.1)), h1]; omega
     refine call_meetsIn PySem.F.slot_dict_setdefault dd.typeIs PySem.F.entry_dict_setdefault (PySem.F.args_dict_setdefault_3 _ _ _) (Bw (mY X.prog X.w) a c sm _) ⟨zb hu, k, xs, hk.is I, dd, hz, fun p hp => ?_, fun En h' A3 IE => ?_⟩
     . by_cases hm : k ∈ ds
       . obtain ⟨p2, t2, AI, ep⟩ := K6 h1 g.2.2.2 h3 hm
         rw [hp] at AI
         cases AI
         exact ⟨.int (ds.idxOf k : Nat), H, I.tok _, by rw [ep]; exact ⟨t2, rfl⟩, q1 hm⟩
       . rw [Tw h1 hm] at hp; cases hp
     . by_cases hm : k ∈ ds
       . obtain ⟨p2, t2, AI, ep⟩ := K6 h1 g.2.2.2 h3 hm
         rw [En] at AI; cases AI
       . have g2 := EY sm A3 h1 h2 h3
         exact ⟨.int (ds.length : Nat), _, qx I (by rw [g.1]; exact True.intro) IE (let ⟨_, _, o, _, _, q, _⟩ := g2; ⟨o, q⟩) (C4 g2), ⟨t, rfl⟩, q2 hm⟩
theorem Qh (hu : X.A.units + 64 < cLine) (ho : PE X o to) (ha : PA X (e :: es) ta)
   (fU : attributeBase o "setdefault" X.env (eval o X.env) = eval o X.env := by rfl)
   (mH : ((backTo iH (starEach (e :: es) X.env)).all (fun x => !x.1) && (backToKw iH (keywordEach [] X.env)).all (fun x => x.1.isSome) && decide ((e :: es).length + ([] : List Keyword).length + (if ([] : List Keyword).isEmpty then 0 else 1) < 30)) = true := by rfl)
   (hline : (apos.endLine == iH.line) = true := by rfl) (hs : Q.w := by rfl) (jz : (backTo iH (starEach es X.env)).any (·.1) = false := by rfl) :
   PE X (.Call (.Attribute o "setdefault" apos) (e :: es) [] iH) (fun σ H Q => to σ H fun x H1 => ∃ a ds vs, x = .ref a /\ IK X CL H1 a ds vs /\ ta σ H1 fun xs H2 => Tz X CL x xs H2 Q) := by
 intro pins s σ H Q I h
 refine wpAny_Call_method_late fU mH hline rfl (eO (ho pins s σ H _ I h) fun v s1 zz => ?_)
 obtain ⟨x, H1, I1, r1, a, ds, vs, rfl, g, q1⟩ := zz
 have Gy := r1
 cases r1
 obtain ⟨sm, xs, dd, _⟩ := IK.have I1 g
 have A3 := dd
 obtain ⟨ob, F9, ep, h1, h2, h3, h4, h5⟩ := A3
 refine ⟨"dict", "dict.setdefault", akl, PySem.F.slot_dict_setdefault, PySem.F.type_dict_setdefault, dd.typeIs, fun a' e' => ⟨ob, by cases e'; exact h1, h2.2.1⟩, ?_⟩
 have hA := ha iH pins s1 σ H1 _ I1 q1
 rw [hs] at hA ⊢
 refine ajV (by show (false || (backTo iH (starEach es X.env)).any (·.1)) = false; rw [jz] <;> rfl) (Calls.evalArgs_plain ?_)
 exact eO hA fun us s2 ⟨vs, H2, I2, r2, q2⟩ => Qg hu pins s2 σ H2 _ vs _ us Q I2 Gy r2 q2
variable {K : Q.h} {Z : Hp} {ts : List T} {v : V} {ds : List D} {k : D}
theorem aA.snoc {ds : List D} {d : D} (h : aA K CL Z ds vs) (q : aV K CL Z d v) : aA K CL Z (ds ++ [d]) (vs ++ [v]) :=
 aA.ind (P := fun ds vs => aA K CL Z (ds ++ [d]) (vs ++ [v])) (.cons q .nil) (fun a _ i => .cons a i) h
theorem aY.aae {p : Addr} (S : aY K CL b H Z δ σ ts vs) (hp : H p = none) : ay H (upd H p (.ext (A5 w p [] []))) /\ aY K CL b (upd H p (.ext (A5 w p [] []))) Z δ σ (.jc w [] :: ts) (.ref p :: vs) := by
 obtain ⟨fp, gp, e, r, nd, k⟩ := S.rep
 have zp : Z p = none := S.zh.free hp
 have sh : ay H (upd H p (.ext (A5 w p [] []))) := ay.upd hp
 have keep : ∀ a ∈ fp ++ gp, a ≠ p := fun a ha => by
   have : ∃ o, H a = some o := by
     rcases ahZ.mp ha with h | h
     . exact e.there a h
     . exact r.there a h
   obtain ⟨o, q⟩ := this
   exact bG q hp
 refine ⟨sh, ⟨⟨fp, [p] ++ gp, e.mono (.refl _) (fun a ha => ao (keep a (ahR _ ha))), .cons (.jc aB .nil) (r.mono (.refl _) fun a ha => ao (keep a (by simp [ha]))), ?_, fun a ha => ?_⟩, S.bh.trans sh, S.zz, S.zh.trans sh, S.new, fun a o q i => ?_, S.tab⟩⟩
 . refine (ai2 (l₁ := fp) (l₂ := gp) (a := p)).nodup_iff.mpr (aiE.mpr ⟨fun h => keep p h rfl, nd⟩)
 . rcases ahT.mp ((ai2 (l₁ := fp) (l₂ := gp) (a := p)).mem_iff.mp ha) with h | h
   . subst h; exact ⟨zp, S.bh.free hp⟩
   . exact k a h
 . by_cases h : a = p
   . subst h; rw [aB] at q; cases q; cases i
   . rw [ao h] at q; exact S.tp a o q i
theorem aY.aaf {i : Nat} (S : aY K CL b H Z δ σ (.sh k :: ts) (v :: vs)) (hi : δ[i]? = some (some (.jc w ds))) :
   ∃ a gs, σ[i]? = some (some (.ref a)) /\ H a = some (.ext (A5 w a ds gs)) /\ aA K CL Z ds gs /\ aY K CL b (upd H a (.ext (A5 w a (ds ++ [k]) (gs ++ [v])))) Z (δ.set i (some (.jc w (ds ++ [k])))) σ ts vs := by
 obtain ⟨fp, gp, e, r, nd, kk⟩ := S.rep
 obtain ⟨v0, f1, f2, f3, hv, nL, rt, put, _⟩ := e.get hi
 subst nL
 cases rt with
 | @jc a _ gs _ ha rs =>
   cases r with
   | @cons _ _ _ _ ft gr q1 q2 =>
     cases q1 with
     | sh q1 =>
       have ne : ∀ c ∈ (f1 ++ f3) ++ gr, c ≠ a := fun c hc e => by
         subst e
         have hp : ((f1 ++ ([c] ++ f3)) ++ ([] ++ gr)).Perm (c :: ((f1 ++ f3) ++ gr)) := by
           rw [ajf, List.singleton_append]
           exact (ai2.append_right _)
         exact (aiE.mp (hp.nodup_iff.mp nd)).1 hc
       refine ⟨a, gs, hv, ha, rs, ?_⟩
       have r1 : bu K CL (upd H a (.ext (A5 w a (ds ++ [k]) (gs ++ [v])))) Z (.jc w (ds ++ [k])) (.ref a) [a] := .jc aB (rs.snoc q1)
       have e2 := put (H' := upd H a (.ext (A5 w a (ds ++ [k]) (gs ++ [v])))) (.refl _) (fun c hc => ao (ne c (by
         rcases ahZ.mp hc with h | h
         . simp [h]
         . simp [h]))) r1
       rw [fE hv] at e2
       exact S.yR rfl kk (by simp) e2 (q2.mono (.refl _) fun c hc => ao (ne c (by simp [hc]))) nd fun c hc => hc
section
variable {e1 e2 e3 : Expr} {ds ks : List L3.D} {px pa : Pos} {i : Nat} {x : Str} {D : dZ}
structure Qi (ds : List L3.D) : Prop where
 n : ∀ d ∈ ds, jb 8 d
 d : ds.Nodup
 l : ds.length <= 1000000
theorem Qj : bI X CL b (.Dict [] [] pos) δ (.jc X.w []) δ := fun H Z σ ts vs Q S kk => bN Qe fun p hp => by
 obtain ⟨c, S1⟩ := S.aae hp
 exact kk _ _ Z (.refl _) c S1
theorem Qk (hu : X.A.units + 64 < cLine) (ok : Qi ds) (h1 : cU X CL b e1 δ (.jc X.w ds) δ1) (h2 : cU X CL b e2 δ1 (.tup ks) δ2) (hk : L3.D.tup ks ∈ ds) (hs : yI e2 := by exact fun _ _ => rfl) : bI X CL b (.Subscript e1 e2 pos) δ (.sh (.int (ds.idxOf (.tup ks) : Nat))) δ2 := fun H Z σ ts vs Q S kk =>
 bN (Qf (CL := CL) hu cA cA hs) (h1 H Z σ ts vs _ S fun v H1 Z1 z1 k1 S1 r1 => h2 H1 Z1 σ ts vs _ S1 fun v2 H2 Z2 z2 k2 S2 r2 => by
   cases r1 with
   | @jc a _ gs _ ha rr =>
     have ZU := r2
     cases r2 with
     | tup hq rk => exact ⟨a, _, ds, gs, .tup ks, rfl, rfl, ⟨k2 _ _ ha, rr.mono k2, ok.n, ok.d⟩, ⟨ok.n _ hk, ZU⟩, hk, kk _ H2 Z2 (z1.trans z2) (k1.trans k2) (S2.push (.int _))⟩)
theorem Ql (ok : Qi ds) (hm : X.mg "len" = none) (h : cU X CL b e δ (.jc X.w ds) δ1) (hg : Gl X "len") (hs : Q.x := by exact aW rfl) : bI X CL b (.Call (.Name "len" pp) [e] [] pos) δ (.sh (.int (ds.length : Nat))) δ1 := fun H Z σ ts vs Q S k =>
 bN (gI (By (CL := CL)) hg hm PySem.boot_len (bL cA c5 hs) (he := hs)) (h H Z σ ts vs _ S fun v H1 Z1 z1 k1 S1 r => by
   cases r with
   | @jc a _ gs _ ha rr => exact ⟨a, ds, gs, rfl, ⟨ha, rr, ok.n, ok.d⟩, ok.l, k _ H1 Z1 z1 k1 (S1.push (.int _))⟩)
theorem Qm (hu : X.A.units + 64 < cLine) (ok : Qi ds) (n : Vn X i x) (h1 : δ[i]? = some (some (.jc X.w ds))) (h2 : bI X CL b e2 δ (.sh (.tup ks)) δ) (h3 : bI X CL b e3 δ (.sh (.int (ds.length : Nat))) δ) (hk : jb 8 (.tup ks))
   (fU : attributeBase (.Name x px) "setdefault" X.env (eval (.Name x px) X.env) = eval (.Name x px) X.env := by rfl)
   (mH : ((backTo pos (starEach [e2, e3] X.env)).all (fun x => !x.1) && (backToKw pos (keywordEach [] X.env)).all (fun x => x.1.isSome) && decide ([e2, e3].length + ([] : List Keyword).length + (if ([] : List Keyword).isEmpty then 0 else 1) < 30)) = true := by rfl)
   (hline : (pa.endLine == pos.line) = true := by rfl) (hs : starEach [e2, e3] X.env = (false, eval e2 X.env) :: starEach [e3] X.env := by exact aW rfl) (wU : starEach [e3] X.env = (false, eval e3 X.env) :: starEach [] X.env := by exact aW rfl) (jz : (backTo pos (starEach [e3] X.env)).any (·.1) = false := by rfl) :
   ZR X CL b (.Call (.Attribute (.Name x px) "setdefault" pa) [e2, e3] [] pos) δ (.sh .any) (δ.set i (some (.jc X.w (if L3.D.tup ks ∈ ds then ds else ds ++ [.tup ks])))) := fun H Z σ ts vs Q S kk =>
 bN (Qh (CL := CL) hu (iX n.hi n.hv n.hd n.kE) (bL cA (bL cA c5 wU) hs) fU mH hline hs jz) (by
   obtain ⟨v0, e0, r0⟩ := S.look h1
   rw [T.bM] at r0
   cases r0 with
   | @jc a _ gs0 _ ha0 rr0 =>
     refine ⟨_, e0, a, ds, gs0, rfl, ⟨ha0, rr0, ok.n, ok.d⟩, h2 H Z σ _ _ _ S fun v2 H2 Z2 z2 k2 S2 => h3 H2 Z2 σ _ _ _ S2 fun v3 H3 Z3 z3 k3 S3 => ?_⟩
     have rv := S3.mz
     cases rv
     have rk := S3.pop.mz
     have rk' := rk
     cases rk with
     | @tup c us _ hq rr =>
       obtain ⟨a2, gs, ea, ha, hg, S4⟩ := S3.pop.aaf h1
       rw [e0] at ea
       cases ea
       refine ⟨a, c, ds, gs, .tup ks, rfl, rfl, ⟨ha, hg.mono S3.zh, ok.n, ok.d⟩, ⟨hk, rk'.mono S3.zh⟩, ok.l, fun hm => ?_, fun hm => ?_⟩
       . rw [ah7 hm] at kk
         refine kk _ H3 Z3 (z2.trans z3) ?_
         rw [fE h1]
         exact S3.pop.pop.push (.any _)
       . rw [ahX hm] at kk
         exact kk _ _ Z3 (z2.trans z3) (S4.push (.any _)))
end
section
variable {D : dZ} {px py pt pa pc : Pos} {x x2 : Str} {i i2 kk : Nat} {fC body : List Stmt} {kvs : List (List Key × L3.D)}
theorem V6 (g : Gx X) (nm : Ln X i x) (nm2 : Ln X i2 x2) (P : Nat -> List (Option T) -> Prop) (h : bI X CL b e δ (.sh (.dct kvs)) δ1) (h0 : P 0 δ1) (hl : ∀ j δ, P j δ -> i < δ.length /\ i2 < δ.length)
   (hs : ∀ (b' : Bx) (j : Nat) (k : List Key) (d : L3.D) δ, kvs[j]? = some (k, d) -> P j δ -> dh X CL b' body ((δ.set i (some (fP k))).set i2 (some (.sh d))) { nx := P (j + 1), rt := D.rt, bk := fun δ2 => dh X CL b fC δ2 D, ct := P (j + 1) }) (hd : ∀ δ, P kvs.length δ -> dh X CL b fC δ D)
   (fU : attributeBase e "items" X.env (eval e X.env) = eval e X.env := by rfl) (hline : (pa.endLine == pc.line) = true := by rfl)
   (h5 : (assignEach [.Name x px, .Name x2 py] X.env).map (·.2) = assign (.Name x px) X.env :: (assignEach [.Name x2 py] X.env).map (·.2) := by rfl) (h6 : (assignEach [.Name x2 py] X.env).map (·.2) = assign (.Name x2 py) X.env :: (assignEach [] X.env).map (·.2) := by rfl)
   (h7 : (assignEach [.Name x px, .Name x2 py] X.env).length = 2 := by rfl) (h8 : (assignEach [.Name x px, .Name x2 py] X.env).findIdx? (·.1) = none := by rfl)
   (hq : ∀ x, foldedSetIterable (.Call (.Attribute e "items" pa) [] [] pc) X.env x = pure x := by intro _; rfl) : dh X CL b (.For (.Tuple [.Name x px, .Name x2 py] kk pt) (.Call (.Attribute e "items" pa) [] [] pc) body [] pos :: fC) δ D := cC fun H Z σ ts vs E S M =>
 xW (pe (yw g.xe g.calm (K3 cA fU hline) (IZ g.calm (qj (jS g.nd nm.hi nm.loc nm.hf) (qj (jS g.nd nm2.hi nm2.loc nm2.hf) Eh h6) h5) h7 h8) JA hq) (h H Z σ ts vs _ S fun v H1 Z1 z1 k1 S1 => by
   have r := S1.mz
   cases r with
   | @dct a gs _ ha rr =>
     have wK : kvs.length = gs.length := rr.length
     have P1 : ∀ {Z2 H2 : Hp} {kb : Addr} {k : List Key}, (∀ a o, H2 a = some o -> jd o = true -> Z2 a = some o) -> H2 kb = some (.tup (k.map kV)) -> bu X.K CL H2 Z2 (fP k) (.ref kb) [] := fun tp hk => .tup (tp _ _ hk rfl) (aI.ofF (qB _))
     have step : ∀ {b' : Bx} {Z2 H2 : Hp} {σ2 : L2.St} {δ2 : Q.e} {j : Nat} {tp kb : Addr} {k : List Key} {v : V}, aY X.K CL b' H2 Z2 δ2 σ2 ts vs -> bY X.K CL Z2 kvs gs -> H2 tp = none -> gs[j]? = some (k, v) -> H2 kb = some (.tup (k.map kV)) -> P j δ2 -> ∃ d Z3, kvs[j]? = some (k, d) /\ ay Z2 Z3 /\ aY X.K CL b' (upd H2 tp (.tup [.ref kb, v])) Z3 ((δ2.set i (some (fP k))).set i2 (some (.sh d))) ((σ2.set i (some (.ref kb))).set i2 (some v)) ts vs := by
       intro b' Z2 H2 σ2 δ2 j tp kb k v S3 AJ hT hg hk p2
       obtain ⟨d, yr, rd⟩ := AJ.PZ hg
       have gr : vg Z2 H2 _ _ := vg.tup (xs := [.ref kb, v]) S3.zh S3.tp hT
       have S4 := (((S3.grow gr).push (rd.mono gr.z)).EK (P1 (S3.grow gr).tp (gr.h _ _ hk))).set (hl j δ2 p2).1
       exact ⟨d, _, yr, gr.z, S4.set (by rw [akb]; exact (hl j δ2 p2).2)⟩
     rcases ha with ha | ⟨o, ha⟩
     . have hH := S1.zh a _ ha
       refine ⟨a, gs, rfl, .inl ⟨hH, fun o hz => ?_⟩⟩
       have S2 := S1.pop.still ha o
       have Bf : bY X.K CL (upd Z1 a Q.l) kvs gs := bY.conv (fun c u q => by
         by_cases e : c = a
         . subst e
           rw [ha] at q
           cases q
           exact .inr (.inl ⟨gs, o, rfl, aB⟩)
         . exact .inl (by rw [ao e]; exact q)) rr
       have t1 : ∀ u, b.B a = some u -> u = .dT gs := fun u q => by
         have := S1.bh a u q
         rw [hH] at this; exact (aie this).symm
       have t2 : ∀ u, b.Z a = some u -> u = .dT gs := fun u q => by
         have := S1.zz a u q
         rw [ha] at this; exact (aie this).symm
       have t3 : b.Z a = none -> b.B a = none := S1.new a _ ha
       have back : ∀ {Z2 : Hp}, ay (upd Z1 a Q.l) Z2 -> ay Z (upd Z2 a (.dT gs)) := fun {Z2} s c u q => by
         have q1 := z1 c u q
         by_cases e : c = a
         . subst e
           rw [ha] at q1
           cases q1
           exact aB
         . rw [ao e]
           exact s c u (by rw [ao e]; exact q1)
       refine ⟨fun j m σ H2 => m = gs.length - j /\ j <= gs.length /\ ∃ Z2 δ2, ay (upd Z1 a Q.l) Z2 /\ aY X.K CL (mX b a Q.l) H2 Z2 δ2 σ ts vs /\ P j δ2, ⟨_, rfl, aiB _, _, δ1, .refl _, S2, h0⟩, ?_⟩
       rintro j m σ2 H2 ⟨rfl, hj, Z2, δ2, s, S3, p2⟩
       have za : Z2 a = some Q.l := s a _ aB
       by_cases jD : j < gs.length
       . refine .inr ⟨⟨jD, S3.zh a _ za⟩, fun σ' H' => ∃ Z2 δ2, ay (upd Z1 a Q.l) Z2 /\ aY X.K CL (mX b a Q.l) H' Z2 δ2 σ' ts vs /\ P (j + 1) δ2, fun σ' H' h => ⟨gs.length - (j + 1), by omega, rfl, jD, h⟩, fun y H' hy => ?_⟩
         obtain ⟨tp, kb, k, v, hT, rfl, hg, hk, rfl⟩ := hy
         obtain ⟨d, Z3, yr, s3, S4⟩ := step S3 (Bf.mono s) hT hg hk p2
         have za3 := s3 a _ za
         have s := s.trans s3
         refine ⟨_, _, rfl, kD.of aB, rfl, _, _, rfl, _, _, rfl, rfl, ?_⟩
         exact hs _ j k d δ2 yr p2 _ Z3 _ ts vs _ S4 ⟨fun δ' σ' H' Z' s' S' k => ⟨Z', δ', s.trans s', S', k⟩, fun t v H' Z' δ' σ' s' S' k => .inr ⟨a, o, gs, S'.zh a _ (s' a _ za3), hz, M.rt t v _ _ δ' σ' (back (s.trans s')) (S'.yX (s' a _ za3) t1 t2 t3) k⟩, fun δ' σ' H' Z' s' S' k => .inr ⟨a, o, gs, S'.zh a _ (s' a _ za3), hz, M.nx δ' σ' _ _ (back (s.trans s')) (S'.yX (s' a _ za3) t1 t2 t3) k⟩, fun δ' σ' H' Z' s' S' k => ⟨Z', δ', s.trans s', S', k⟩⟩
       . have ej : j = gs.length := by omega
         subst ej
         exact .inl ⟨⟨ah0 _, S3.zh a _ za⟩, .inr ⟨a, o, gs, S3.zh a _ za, hz, M.nx δ2 σ2 _ _ (back s) (S3.yX za t1 t2 t3) (hd δ2 (wK ▸ p2))⟩⟩
     . refine ⟨a, gs, rfl, .inr ⟨o, S1.zh a _ ha, ?_⟩⟩
       refine ⟨fun j m σ H2 => m = gs.length - j /\ j <= gs.length /\ ∃ Z2 δ2, ay Z1 Z2 /\ aY X.K CL b H2 Z2 δ2 σ ts vs /\ P j δ2, ⟨_, rfl, aiB _, _, δ1, .refl _, S1.pop, h0⟩, ?_⟩
       rintro j m σ2 H2 ⟨rfl, hj, Z2, δ2, s, S3, p2⟩
       have za : Z2 a = some Q.l := s a _ ha
       by_cases jD : j < gs.length
       . refine .inr ⟨⟨jD, S3.zh a _ za⟩, fun σ' H' => ∃ Z2 δ2, ay Z1 Z2 /\ aY X.K CL b H' Z2 δ2 σ' ts vs /\ P (j + 1) δ2, fun σ' H' h => ⟨gs.length - (j + 1), by omega, rfl, jD, h⟩, fun y H' hy => ?_⟩
         obtain ⟨tp, kb, k, v, hT, rfl, hg, hk, rfl⟩ := hy
         obtain ⟨d, Z3, yr, s3, S4⟩ := step S3 (rr.mono s) hT hg hk p2
         have s := s.trans s3
         refine ⟨_, _, rfl, kD.of aB, rfl, _, _, rfl, _, _, rfl, rfl, ?_⟩
         exact hs _ j k d δ2 yr p2 _ Z3 _ ts vs _ S4 ⟨fun δ' σ' H' Z' s' S' k => ⟨Z', δ', s.trans s', S', k⟩, fun t v H' Z' δ' σ' s' S' k => .inl (M.rt t v _ _ δ' σ' (z1.trans (s.trans s')) S' k), fun δ' σ' H' Z' s' S' k => .inl (M.nx δ' σ' _ _ (z1.trans (s.trans s')) S' k), fun δ' σ' H' Z' s' S' k => ⟨Z', δ', s.trans s', S', k⟩⟩
       . have ej : j = gs.length := by omega
         subst ej
         exact .inl ⟨⟨ah0 _, S3.zh a _ za⟩, .inl (M.nx δ2 σ2 _ _ (z1.trans s) S3 (hd δ2 (wK ▸ p2)))⟩))
end
variable {kvs : List (List Key × L3.D)}
theorem zc : g8 X (.builtin "len") (fun xs H Q => ∃ a gs, xs = [.ref a] /\ Rd H a (.dT gs) /\ gs.length <= 1000000 /\ Q (.int (gs.length : Nat)) H) := by
 intro pins s σ H xs us Q I r h
 obtain ⟨a, gs, rfl, g, hl, q⟩ := h
 obtain ⟨u, rfl, rx⟩ := vals1 r
 cases rx
 obtain ⟨z, sm, xs, rel, dd⟩ := kJ I.cP g
 have ty := dd.typeIs
 obtain ⟨ob, es, ep, ho, hc, jH, he, _, _⟩ := dd
 have hz : es.size = gs.length := by rw [akd he, ← ai9 rel]
 refine call_len_slot (n := (gs.length : Nat)) ty aj1 (fun Q' hq => ?_) Q.a Q.a ⟨.int (gs.length : Nat), H, I.tok _, ⟨_, rfl⟩, q⟩
 refine aiG aj1 ty PySem.F.entry_dict_len ?_ (PySem.F.args_dict_len_1 _)
 show wpAny _ _ (dictSize a >>= fun _ => _) _ _ s
 unfold dictSize
 refine ahJ (ahJ (aiP ho jH (ahO (show wpAny _ _ (Builtin.Dict.pendingCount a >>= fun _ => _) _ _ s from ahJ (wpAny_pendingCount_other sm (wpAny_ret_mkInt ?_))))))
 rw [hz]
 simpa using hq
theorem K7 (hm : X.mg "len" = none) (h : cU X CL b e δ (.dct kvs) δ1) (hl : kvs.length <= 1000000) (hg : Gl X "len") (hs : Q.x := by exact aW rfl) : bI X CL b (.Call (.Name "len" pp) [e] [] pos) δ (.sh (.int (kvs.length : Nat))) δ1 := fun H Z σ ts vs Q S k =>
 bN (gI zc hg hm PySem.boot_len (bL cA c5 hs) (he := hs)) (h H Z σ ts vs _ S fun v H1 Z1 z1 k1 S1 r => by
   cases r with
   | @dct a gs _ ha rr => exact ⟨a, gs, rfl, ha, by rw [← rr.length]; exact hl, by rw [← rr.length]; exact k _ H1 Z1 z1 k1 (S1.push (.int _))⟩)
end L3
namespace Law
open PySem L2 L3
def top (i : Nat) : Stmt := PySem.Challenge.pw_moodtree_k59_the_least_table.main.body.getD i (.Pass ⟨0, 0, 0, 0⟩)
def chF : Nat -> List Int -> Int -> List Int
 | 0, _, _ => []
 | n + 1, es, k => if k = -1 then [] else k :: chF n es (es.getD k.toNat 0)
def V7 (es : List Int) (m : Int) : List Int := chF (es.length + 1) es (es.getD m.toNat 0)
theorem fK (ds : List L3.D) : T.bM (.lst (ds.map T.sh)) = .lst ds := by rw [T.bM, iA]
def K8 (xY : Int -> Bool) (es : List Int) (a b t : Int) : Prop :=
 (t = -1 /\ ∀ x ∈ V7 es a, x ∈ V7 es b -> xY x = false) \/ (t ∈ V7 es a /\ t ∈ V7 es b /\ xY t = true /\ ∀ x ∈ V7 es a, x ∈ V7 es b -> xY x = true -> x = t \/ x ∈ V7 es t)
theorem K8.symm {xY : Int -> Bool} {es : List Int} {a b t : Int} (h : K8 xY es a b t) : K8 xY es b a t := by
 rcases h with ⟨e, h⟩ | ⟨h1, h2, h3, h4⟩
 . exact .inl ⟨e, fun x hx hy => h x hy hx⟩
 . exact .inr ⟨h2, h1, h3, fun x hx hy => h4 x hy hx⟩
theorem bB {ds : List L3.D} (h : D.bq ds = true) : (T.lst (ds.map T.sh)).clean = true := by
 rw [xN]
 induction ds with
 | nil => rfl
 | cons d ds ih =>
   rw [D.bq, aih] at h
   rw [ah6, T.eX, ih h.2, T.clean, h.1]; rfl
def bf (ns : List Int) (k : Int) : Int := if k < ns.length then ns.getD k.toNat 0 else 0
def G9 : List Nat := (List.range 26).map (· + 97) ++ (List.range 10).map (· + 48)
theorem K9 : ("abcdefghijklmnopqrstuvwxyz0123456789" : Str).cps.toList = G9 := Q.i
def tM (k : Int) : Str := ⟨#[G9.getD k.toNat 0]⟩
theorem V8 : ∀ n ∈ G9, n < 1114112 := Q.i
theorem La (k : Int) : PyData.strOk (tM k) = true := by
 unfold PyData.strOk tM
 have : G9.getD k.toNat 0 < 1114112 := by
   rw [ahV]
   cases e : G9[k.toNat]? with
   | none => decide
   | some n => exact V8 n (ah3 e)
 simpa [List.getD_eq_getElem?_getD] using this
def Qn (m : Int) : Int := (m * 48271 + 11) % 2147483647
def jI (p : Int × Str) : Nat -> Int × Str
 | 0 => p
 | n + 1 => (Qn (jI p n).1, (jI p n).2 ++ tM (Qn (jI p n).1 % 36))
def nm0 (c : Int) : Int × Str := (c / 12 % 10 ^ (9 : Int).toNat, tM (c / 12 % 10 ^ (9 : Int).toNat % 26))
theorem Lb (p : Int × Str) (n : Nat) : (jI p n).2.length = p.2.length + n := by
 induction n with
 | zero => rfl
 | succ n ih =>
   show ((jI p n).2 ++ tM _).length = _
   rw [str_len, ih]
   show _ + 1 = _
   omega
theorem aag (p : Int × Str) (h : PyData.strOk p.2 = true) (n : Nat) : PyData.strOk (jI p n).2 = true := by
 induction n with
 | zero => exact h
 | succ n ih => exact CG _ _ ih (La _)
def Ob (c : Int) : Str := (jI (nm0 c) (c % 12).toNat).2
theorem EZ (c : Int) : (Ob c).length <= 12 := by
 unfold Ob
 rw [Lb]
 have h1 := ait c (show (12 : Int) ≠ 0 by decide)
 have h2 := aiy c (show (0 : Int) < 12 by decide)
 show 1 + (c % 12).toNat <= 12
 omega
def w13 : List Str := ["all", "and", "box", "call", "do", "far", "if", "in", "leaf", "near", "on", "one", "open"]
def w6 : List Str := ["out", "put", "say", "shut", "then", "to"]
def fX (c : Int) : Str := if Ob c ∈ w13 then Ob c ++ "0" else if Ob c ∈ w6 then Ob c ++ "0" else Ob c
theorem zf (c : Int) : PyData.strOk (fX c) = true := by
 have hb : PyData.strOk (Ob c) = true := aag _ (La _) _
 have h0 : PyData.strOk ("0" : Str) = true := Q.i
 unfold fX
 split
 . exact CG _ _ hb h0
 . split
   . exact CG _ _ hb h0
   . exact hb
abbrev Hf := List Int × List Int × List Int
inductive J where
 | out (m : Int) | wI (m : Int) | keep (m p q : Int) | put (x p q : Int) | Oc (w : Str) (ds : List L3.D)
def J.w : J -> Str
 | .out _ => "out"
 | .wI _ => "in"
 | .keep _ _ _ => "keep"
 | .put _ _ _ => "put"
 | .Oc w _ => w
def J.ds : J -> List L3.D
 | .out m => [.int m]
 | .wI m => [.int m]
 | .keep m p q => [.int m, .int p, .int q]
 | .put x p q => [.int x, .int p, .int q]
 | .Oc _ ds => ds
def J.d (r : J) : L3.D := .tup (.str r.w :: r.ds)
def aah : List Str := ["sign", "way", "call", "say", "rest"]
def Lc (d : L3.D) : Prop := (∃ i, d = .int i) \/ ∃ x, d = .str x
def J.ok (s : Hf) : J -> Prop
 | .keep m _ _ => 0 <= m /\ m < s.2.1.length
 | .put x _ _ => 0 <= x /\ x < s.2.2.length
 | .Oc w ds => w ∈ aah /\ ds.length <= 3 /\ ∀ d ∈ ds, Lc d
 | _ => True
def aai (back : Bool) (r : J) (ops : List Int) : List Int := match r with
 | .out m => if back then sortI (ops ++ [m]) else ops.filter (fun x => !decide (x = m))
 | .wI m => if back then ops.filter (fun x => !decide (x = m)) else sortI (ops ++ [m])
 | _ => ops
def adI (back : Bool) (r : J) (mem : List Int) : List Int := match r with
 | .keep m p q => mem.set m.toNat (if back then p else q)
 | _ => mem
def aaj (back : Bool) (r : J) (bs : List Int) : List Int := match r with
 | .put x p q => bs.set x.toNat (if back then p else q)
 | _ => bs
def E1 (back : Bool) (s : Hf) (r : J) : Hf := (aai back r s.1, adI back r s.2.1, aaj back r s.2.2)
theorem J.abQ {s : Hf} {r : J} (h : r.ok s) : r.ds.length <= 3 /\ ∀ d ∈ r.ds, Lc d := by
 cases r with
 | Oc w ds => exact h.2
 | out m => exact ⟨ahS rfl, fun d hd => by simp only [J.ds, ahT, ah9, aiS] at hd; exact .inl ⟨_, hd⟩⟩
 | wI m => exact ⟨ahS rfl, fun d hd => by simp only [J.ds, ahT, ah9, aiS] at hd; exact .inl ⟨_, hd⟩⟩
 | keep m p q => exact ⟨ahS rfl, fun d hd => by
     simp only [J.ds, ahT, ah9, aiS] at hd
     rcases hd with h | h | h <;> exact .inl ⟨_, h⟩⟩
 | put m p q => exact ⟨ahS rfl, fun d hd => by
     simp only [J.ds, ahT, ah9, aiS] at hd
     rcases hd with h | h | h <;> exact .inl ⟨_, h⟩⟩
def Right (n : Nat) (s : Hf) : J -> Prop
 | .out m => m ∈ s.1
 | .wI m => m ∉ s.1 /\ 0 <= m /\ m < n
 | .keep m p _ => 0 <= m /\ m < s.2.1.length /\ s.2.1.getD m.toNat 0 = p
 | .put x p _ => 0 <= x /\ x < s.2.2.length /\ s.2.2.getD x.toNat 0 = p
 | .Oc w ds => w ∈ aah /\ ds.length <= 3 /\ ∀ d ∈ ds, Lc d
variable {n : Nat}
theorem Right.ok {s : Hf} {r : J} (h : Right n s r) : r.ok s := by
 cases r with
 | out m => trivial
 | wI m => trivial
 | keep m p q => exact ⟨h.1, h.2.1⟩
 | put m p q => exact ⟨h.1, h.2.1⟩
 | Oc w ds => exact h
def Ld (n : Nat) : List J -> Hf -> Prop
 | [], _ => True
 | r :: rs, s => Right n s r /\ Ld n rs (E1 false s r)
theorem aak (r : J) : rN (L3.D.str r.w :: r.ds) 0 = some (.str r.w) := aO (j := 0) rfl
def Le (bx mo : Int) (bs : List Int) : Int := if bx = -1 then mo else bs.getD bx.toNat 0 + mo
inductive pU where
 | put (x b m : Int)
 | call (s : Str)
 | say (s : Str) (b m : Int)
def pU.w : pU -> Str
 | .put _ _ _ => "put"
 | .call _ => "call"
 | .say _ _ _ => "say"
def pU.ds : pU -> List L3.D
 | .put x b m => [.int x, .tup [.int b, .int m]]
 | .call s => [.str s]
 | .say s b m => [.str s, .tup [.int b, .int m]]
def pU.d (q : pU) : L3.D := .tup (.str q.w :: q.ds)
def tOk (bs : List Int) (b : Int) : Prop := b = -1 \/ (0 <= b /\ b < bs.length)
def pU.ok (bs : List Int) : pU -> Prop
 | .put x b _ => (0 <= x /\ x < bs.length) /\ tOk bs b
 | .call _ => True
 | .say _ b _ => tOk bs b
def pU.row (bs : List Int) : pU -> J
 | .put x b m => .put x (bs.getD x.toNat 0) (Le b m bs)
 | .call s => .Oc "call" [.str s]
 | .say s b m => .Oc "say" [.str s, .int (Le b m bs)]
theorem qI (q : pU) : q.d.iY = true := by cases q <;> rfl
def aft (bs : List Int) (q : pU) : List Int := aaj false (q.row bs) bs
inductive It where
 | out (m : Int) | keep (m p q : Int) | way (i : Int) | wI (m : Int) | fS (q : pU)
def It.sj : It -> J
 | .out m => .out m
 | .keep m p q => .keep m p q
 | .way i => .Oc "way" [.int i]
 | .wI m => .wI m
 | .fS q => .Oc q.w q.ds
def It.d (x : It) : L3.D := x.sj.d
def It.j (bs : List Int) : It -> J
 | .fS q => q.row bs
 | x => x.sj
def It.ok (bs : List Int) : It -> Prop
 | .fS q => q.ok bs
 | _ => True
def It.af (bs : List Int) : It -> List Int
 | .fS q => aft bs q
 | _ => bs
def It.told : It -> Bool
 | .fS _ => true
 | _ => false
def cM : List Str := ["out", "keep", "way", "in"]
theorem uc (x : It) : decide (x.sj.w ∈ cM) = !x.told := by
 cases x with
 | fS q =>
   cases q with
   | put x b m => show decide (("put" : Str) ∈ cM) = false; decide +kernel
   | call s => show decide (("call" : Str) ∈ cM) = false; decide +kernel
   | say s b m => show decide (("say" : Str) ∈ cM) = false; decide +kernel
 | out m => show decide (("out" : Str) ∈ cM) = true; decide +kernel
 | keep m p q => show decide (("keep" : Str) ∈ cM) = true; decide +kernel
 | way i => show decide (("way" : Str) ∈ cM) = true; decide +kernel
 | wI m => show decide (("in" : Str) ∈ cM) = true; decide +kernel
theorem V9 (x : It) : x.d.iY = true := by
 cases x with
 | fS q => exact qI q
 | _ => rfl
def jsI : List It -> List Int -> List J
 | [], _ => []
 | x :: xs, bs => x.j bs :: jsI xs (x.af bs)
inductive Go (n : Nat) : List It -> Hf -> Hf -> Prop
 | nil {s : Hf} : Go n [] s s
 | cons {x : It} {xs : List It} {s s' : Hf} : Right n s (x.j s.2.2) -> Go n xs (E1 false s (x.j s.2.2)) s' -> Go n (x :: xs) s s'
theorem Lf (s : Hf) (x : It) : (E1 false s (x.j s.2.2)).2.2 = x.af s.2.2 := by
 cases x with
 | fS q => rfl
 | _ => rfl
theorem Go.is {xs : List It} {s t : Hf} (h : Go n xs s t) : Ld n (jsI xs s.2.2) s /\ (jsI xs s.2.2).foldl (E1 false) s = t /\ t.2.2 = xs.foldl It.af s.2.2 := by
 induction h with
 | nil => exact ⟨trivial, rfl, rfl⟩
 | @cons x xs s s' r _ ih =>
   rw [Lf] at ih
   exact ⟨⟨r, ih.1⟩, ih.2.1, ih.2.2⟩
def trB (m : Nat) (p : Int) : Int := p % ((m : Int) + 1) - 1
def trC (m : Nat) (p : Int) : Int := p / ((m : Int) + 1) / 3
def trM (m : Nat) (p : Int) : Int := if p / ((m : Int) + 1) % 3 = 0 then trC m p % (2 * 10 ^ (9 : Int).toNat + 1) - 10 ^ (9 : Int).toNat else trC m p % 7 - 3
def Yn (m : Nat) (p : Int) : Int := if p / ((m : Int) + 1) % 3 = 0 then trC m p / (2 * 10 ^ (9 : Int).toNat + 1) else trC m p / 7
def wN (k : Int) : Str := ("w" : Str) ++ (toString k : Str)
def pcI (m : Nat) (hs : List Str) (p : Int) : It :=
 if p % 9 < 4 then ([.out 1, .keep 0 (-1) 2, .way (p / 9 % 5), .wI 2] : List It).getD (p % 9).toNat (.out 1)
 else if p % 9 < 6 /\ 0 < m then .fS (.put (p / 9 % (m : Int)) (trB m (p / 9 / (m : Int))) (trM m (p / 9 / (m : Int))))
 else if p % 9 < 8 then .fS (.say (wN (p / 9 % 3)) (trB m (p / 9 / 3)) (trM m (p / 9 / 3)))
 else .fS (.call (hs.getD (p / 9 % (hs.length : Int)).toNat Str.empty))
def pcP (m : Nat) (hs : List Str) (p : Int) : Int :=
 if p % 9 < 4 then p / 9 / 5
 else if p % 9 < 6 /\ 0 < m then Yn m (p / 9 / (m : Int))
 else if p % 9 < 8 then Yn m (p / 9 / 3)
 else p / 9 / (hs.length : Int)
def scR (m : Nat) (hs : List Str) (p : Int) : Nat -> Int
 | 0 => p
 | j + 1 => pcP m hs (scR m hs p j)
def scI (m : Nat) (hs : List Str) (p : Int) : List It := (List.range (p % 4).toNat).map fun j => pcI m hs (scR m hs (p / 4) j)
def scP (m : Nat) (hs : List Str) (p : Int) : Int := scR m hs (p / 4) (p % 4).toNat
abbrev Wa := Str × Int × Int × Int × Int
def mkL : List Str := ["<", "<=", "=", "!="]
def akO (m : Nat) (p : Int) : Wa := (mkL.getD (p % 4).toNat Str.empty, trB m (p / 4), trM m (p / 4), trB m (Yn m (p / 4)), trM m (Yn m (p / 4)))
def akP (m : Nat) (p : Int) : Int := Yn m (Yn m (p / 4))
def akR (m : Nat) (p : Int) : Nat -> Int
 | 0 => p
 | j + 1 => akP m (akR m p j)
def akL (m : Nat) (p : Int) (n : Nat) : List Wa := (List.range n).map fun j => akO m (akR m p j)
abbrev C5 := List Wa × List It × Int
def rwN (p : Int) : Nat := (1 + p % 2).toNat
def rwQ (m : Nat) (p : Int) : Int := akR m (p / 2) (rwN p)
def rwO (m : Nat) (hs : List Str) (f : Nat) (p : Int) : C5 := (akL m (p / 2) (rwN p), scI m hs (rwQ m p), scP m hs (rwQ m p) % (f : Int))
def rwP (m : Nat) (hs : List Str) (f : Nat) (p : Int) : Int := scP m hs (rwQ m p) / (f : Int)
def rwR (m : Nat) (hs : List Str) (f : Nat) (p : Int) : Nat -> Int
 | 0 => p
 | j + 1 => rwP m hs f (rwR m hs f p j)
def rwL (m : Nat) (hs : List Str) (f : Nat) (p : Int) (n : Nat) : List C5 := (List.range n).map fun j => rwO m hs f (rwR m hs f p j)
def rwE (m : Nat) (hs : List Str) (f : Nat) (p : Int) : C5 := ([], scI m hs p, scP m hs p % (f : Int))
def tbR (m : Nat) (hs : List Str) (f : Nat) (c : Int) : List C5 :=
 rwL m hs f (c % 10 ^ (64 : Int).toNat / 3) (c % 10 ^ (64 : Int).toNat % 3).toNat ++ [rwE m hs f (rwR m hs f (c % 10 ^ (64 : Int).toNat / 3) (c % 10 ^ (64 : Int).toNat % 3).toNat)]
abbrev bz := List Key
def kyR (hs : List Str) (a k : Nat) : bz := [.inl (a : Int), .inr (hs.getD k Str.empty)]
def dcR (s : List Int) (m : Nat) (hs : List Str) (f a k : Nat) : List C5 := tbR m hs f (bf s (4 + 2 * (a : Int) + (k : Int)))
def dcI (s : List Int) (m : Nat) (hs : List Str) (f a n : Nat) : List (bz × List C5) := (List.range n).map fun k => (kyR hs a k, dcR s m hs f a k)
def dcO (s : List Int) (m : Nat) (hs : List Str) (f n : Nat) : List (bz × List C5) := (List.range n).flatMap fun a => dcI s m hs f a hs.length
variable {s : List Int} {m f a : Nat} {hs : List Str}
theorem Qo : (dcI s m hs f a n).length = n := by unfold dcI; rw [ahK, ah4]
theorem Lg : dcO s m hs f (n + 1) = dcO s m hs f n ++ dcI s m hs f n hs.length := by
 unfold dcO
 rw [aiX, List.flatMap_append]
 simp
theorem Qp {s : List Int} {m : Nat} {hs : List Str} {f : Nat} : ∀ n, (dcO s m hs f n).length = n * hs.length
 | 0 => by simp [dcO]
 | n + 1 => by rw [Lg, ah1, Qo, Qp n, Nat.succ_mul]
def isLt (c : Nat) : Bool := decide (97 <= c) && decide (c <= 122)
def aam (c : Nat) : Bool := decide (48 <= c) && decide (c <= 57)
theorem abV (c : Nat) : Ti ⟨#[c]⟩ "abcdefghijklmnopqrstuvwxyz0123456789" = (isLt c || aam c) := by
 unfold Ti
 rw [PySem.StrLaws.found_one]
 have e : ("abcdefghijklmnopqrstuvwxyz0123456789" : Str).cps.toList = (List.range 26).map (· + 97) ++ (List.range 10).map (· + 48) := Q.i
 rw [e]
 apply aka.mpr
 simp only [isLt, aam, decide_eq_true_eq, aih, Bool.or_eq_true, ahZ, ahY, aiu]
 constructor
 . rintro (⟨a, h, rfl⟩ | ⟨a, h, rfl⟩) <;> omega
 . intro h
   rcases h with h | h
   . exact .inl ⟨c - 97, by omega, by omega⟩
   . exact .inr ⟨c - 48, by omega, by omega⟩
inductive LkA
 | adP (x : Str) (m : Int)
 | num (mk : Str) (a1 c1 a2 c2 : Int)
def adQ : LkA -> Prop
 | .adP x _ => x ∈ (["open", "shut"] : List Str)
 | .num mk _ _ _ _ => ¬ mk ∈ (["open", "shut"] : List Str)
def agT : L3.D -> L3.D
 | .tup [_, _, _, d, _, _] => d
 | d => d
inductive DdG
 | put (i a c : Int)
 | say (w x : Str) (a c : Int)
 | call (x : Str)
structure LgW where
 src : Int
 sign : Str
 al : List LkA
 dl : List DdG
 tgt : Int
 mode : Str
def LgW.ok (w : LgW) : Prop := w.sign.length <= 1000 /\ ∀ q ∈ w.al, adQ q
variable {bs hs bg pr : List L3.D} {R : L3.D} {TR : T}
def tN (bs hs bg pr : List L3.D) (R : L3.D) : List (Str × L3.D) := [("boxes", .lst bs), ("signs", .lst hs), ("begin", .tup bg), ("flats", .lst pr), ("rows", R)]
def dI (bs hs bg pr : List L3.D) (t : T) : List (Str × T) := [("boxes", .lst (bs.map T.sh)), ("signs", .lst (hs.map T.sh)), ("begin", .sh (.tup bg)), ("flats", .lst (pr.map T.sh)), ("rows", t)]
theorem mZ : List.lookup ("boxes" : Str) (tN bs hs bg pr R) = some (.lst bs) := by
 unfold tN
 rw [je]
theorem gF : List.lookup ("signs" : Str) (tN bs hs bg pr R) = some (.lst hs) := by
 unfold tN
 rw [dR Q.b, je]
theorem jW : List.lookup ("begin" : Str) (tN bs hs bg pr R) = some (.tup bg) := by
 unfold tN
 rw [dR Q.b, dR Q.b, je]
theorem jX : List.lookup ("flats" : Str) (tN bs hs bg pr R) = some (.lst pr) := by
 unfold tN
 rw [dR Q.b, dR Q.b, dR Q.b, je]
theorem ig : List.lookup ("rows" : Str) (tN bs hs bg pr R) = some R := by
 unfold tN
 rw [dR Q.b, dR Q.b, dR Q.b, dR Q.b, je]
theorem fL : List.lookup ("rows" : Str) (dI bs hs bg pr TR) = some TR := by
 unfold dI
 rw [dR Q.b, dR Q.b, dR Q.b, dR Q.b, je]
theorem BD {t2 : T} : jF "rows" t2 (dI bs hs bg pr TR) = dI bs hs bg pr t2 := by
 unfold dI
 rw [bW Q.b, bW Q.b, bW Q.b, bW Q.b, nO]
theorem Hg {y : Addr} {l : List (bz × T)} {t2 : T} : T.g6 [.fld "rows"] t2 (.pin y (.ins "Table" (dI bs hs bg pr (.dct l)))) = .pin y (.ins "Table" (dI bs hs bg pr t2)) := by
 have hk : (T.core (.pin y (.ins "Table" (dI bs hs bg pr (.dct l))))).GZ (.fld "rows") = some (.dct l) := fL (bs := bs) (hs := hs) (bg := bg) (pr := pr)
 rw [T.g6, hk]
 show T.pin y (.ins "Table" (jF "rows" t2 (dI bs hs bg pr (.dct l)))) = _
 rw [BD]
def aJ (kvs : List (bz × List L3.D)) : List (bz × T) := kvs.map fun q => (q.1, T.lst (q.2.map T.sh))
def cR (kvs : List (bz × List L3.D)) : List (bz × L3.D) := kvs.map fun q => (q.1, L3.D.lst q.2)
def fG (bs hs bg pr : List L3.D) (kvs : List (bz × List L3.D)) : List (Str × T) := dI bs hs bg pr (.dct (aJ kvs))
def g7 (bs hs bg pr : List L3.D) (kvs : List (bz × List L3.D)) : L3.D := .ins "Table" (tN bs hs bg pr (.dct (cR kvs)))
theorem jw (kvs : List (bz × List L3.D)) : T.wX (aJ kvs) = cR kvs := by
 induction kvs with
 | nil => show T.wX [] = []; rw [T.wX]
 | cons q r ih =>
   show T.wX ((q.1, T.lst (q.2.map T.sh)) :: aJ r) = (q.1, L3.D.lst q.2) :: cR r
   rw [T.wX, fK, ih]
theorem fY (bs hs bg pr : List L3.D) (kvs : List (bz × List L3.D)) : T.bM (.ins "Table" (fG bs hs bg pr kvs)) = g7 bs hs bg pr kvs := by
 unfold fG dI g7 tN
 rw [T.bM, T.vd, T.vd, T.vd, T.vd, T.vd, T.vd, fK, fK, fK, T.bM, T.bM, jw]
theorem sZ {kvs : List (bz × List L3.D)} (h : ∀ q ∈ kvs, D.bq q.2 = true) : T.k9 (aJ kvs) = true := by
 induction kvs with
 | nil => show T.k9 [] = true; rw [T.k9]
 | cons q r ih =>
   show T.k9 ((q.1, T.lst (q.2.map T.sh)) :: aJ r) = true
   rw [T.k9, bB (h q ahL), ih fun p hp => h p (ahP _ hp)]
   rfl
theorem jJ {kvs : List (bz × List L3.D)} (h1 : D.bq bs = true) (h2 : D.bq hs = true) (h3 : D.bq bg = true) (h4 : D.bq pr = true) (h5 : ∀ q ∈ kvs, D.bq q.2 = true) : T.g9 (fG bs hs bg pr kvs) = true := by
 unfold fG dI
 rw [T.g9, T.g9, T.g9, T.g9, T.g9, T.g9, bB h1, bB h2, bB h4, T.clean, T.clean, D.iY, h3, sZ h5]
 rfl
variable {α : Type} {j : Nat} {k : bz}
theorem E2 {l : List (bz × α)} (nd : (l.map (·.1)).Nodup) {x : α} (h : l[j]? = some (k, x)) : eZ l k = some x := by
 induction l generalizing j with
 | nil => simp at h
 | cons p l ih =>
   rw [ah6, aiE] at nd
   cases j with
   | zero =>
     simp at h
     subst h
     exact fW rfl
   | succ j =>
     have h : l[j]? = some (k, x) := h
     rw [fF (p := p) fun e => nd.1 (by rw [e]; exact ahY.mpr ⟨(k, x), ah3 h, rfl⟩)]
     exact ih nd.2 h
theorem C6 (kvs : List (bz × List L3.D)) : (cR kvs).map (·.1) = kvs.map (·.1) := by
 unfold cR
 rw [aia]
 rfl
theorem iu (kvs : List (bz × List L3.D)) : (aJ kvs).map (·.1) = kvs.map (·.1) := by
 unfold aJ
 rw [aia]
 rfl
def mx1 (c s : Int) : Int := (c % 2147483647 + s) * 48271 % 2147483647
def pV (c s : Int) : Int := mx1 c s * mx1 c s % 2147483629
theorem aao (c s : Int) : 0 <= mx1 c s /\ mx1 c s < 2147483647 := ⟨ait _ Q.c, aiy _ Q.c⟩
def gO (c : Int) : Int := if c % 2 = 0 then c / 2 % 9 - 4 else if c % 4 = 1 then c / 4 * 48271 % (10 ^ 30 - 1) else -(c / 4 * 48271 % (10 ^ 30 - 1))
theorem aap (c : Int) : (fX c).length <= 13 := by
 have hb := EZ c
 have h0 : ("0" : Str).length = 1 := Q.i
 unfold fX
 split
 . rw [str_len]; omega
 . split
   . rw [str_len]; omega
   . omega
def Qq : List Str := ["<", "<=", "=", "!="]
def Wb (c : Int) (m : Nat) : Int := c % ((m : Int) + 1) - 1
def Wc (c : Int) (m : Nat) : Int := gO (c / ((m : Int) + 1))
def akG (c : Int) (m : Nat) : L3.D := .tup [.str (Qq.getD (pV c 31 % 4).toNat Str.empty), .tup [.int (Wb (c / 3) m), .int (Wc (c / 3) m)], .tup [.int (Wb (c / 7 + 2) m), .int (Wc (c / 7 + 2) m)]]
def tO (c : Int) (m : Nat) (hh : List Str) : pU := if c % 5 = 1 then .call ((hh ++ [fX (c / 5)]).getD (c / 5 % ((hh.length : Int) + 1)).toNat Str.empty) else if c % 5 = 2 \/ m = 0 then .say (fX (c / 5)) (Wb (c / 5 / 7) m) (Wc (c / 5 / 7) m) else .put (c / 5 % m) (Wb (c / 5 / m) m) (Wc (c / 5 / m) m)
def tP (s : List Int) : Str := Txt.slice (fX (bf s 0 / 2)) none (some 10)
def TF (s : List Int) : Int := pV (bf s 0) 37
def pW (s : List Int) : List Str := [tP s ++ "1", tP s ++ "12", tP s ++ "2"]
def nn7 (s : List Int) : Nat := [2, 3, 1, 3, 2, 3, 1, 0].getD (TF s % 8).toNat 0
def Lh (s : List Int) : Nat := (TF s / 8 % 3).toNat
def jh (s : List Int) : List Str := ((pW s).drop (Lh s) ++ (pW s).take (Lh s)).take (nn7 s)
theorem pX {l : List α} {k : Nat} {z : Int} (hz : z = (k : Int)) : cutD l none (some z) = l.take k := by
 subst hz
 unfold cutD
 have e1 : HT.fz l.length 0 none = 0 := rfl
 have e2 : HT.fz l.length l.length (some (k : Int)) = min k l.length := by
   unfold HT.fz
   simp
   intro hk
   omega
 rw [e1, e2]
 simp [List.take_eq_take_iff]
theorem qJ {l : List α} {k : Nat} {z : Int} (hz : z = (k : Int)) : cutD l (some z) none = l.drop k := by
 subst hz
 unfold cutD
 have e1 : HT.fz l.length l.length none = l.length := rfl
 have e2 : HT.fz l.length 0 (some (k : Int)) = min k l.length := by
   unfold HT.fz
   simp
   intro hk
   omega
 rw [e1, e2]
 rcases Nat.le_total k l.length with z | z
 . rw [Nat.min_eq_left z]
   exact List.take_of_length_le (by rw [ajy]; omega)
 . rw [Nat.min_eq_right z, List.drop_of_length_le z, List.drop_of_length_le (ah0 _), List.take_nil]
abbrev F7 := List L3.D × List It
def sq (r : F7) : L3.D := .tup [.tup r.1, .tup (r.2.map It.d)]
def Hh (s : List Int) : Int := if (s.length : Int) > 1 then (s.length : Int) else 1
theorem Wd (s : List Int) : 1 <= Hh s := by unfold Hh; split <;> omega
def Od (s : List Int) (p t : Nat) : Int := bf s (((p : Int) * 3 + (t : Int)) % Hh s)
def BE (s : List Int) (p t : Nat) : Int := pV (Od s p t) (41 + (p : Int) * 7 + (t : Int))
def Wf (c x : Int) (m k : Nat) : List L3.D := (List.range (1 + x / 4 % 2).toNat).map fun (a : Nat) => akG (c / ((a : Int) + 2) + 5 * (k : Int)) m
def Wg (c x : Int) (p m : Nat) (hh : List Str) (k : Nat) : List It := (List.range (x / 8 % 3).toNat).map fun (a : Nat) => .fS (tO (c / ((a : Int) + 1) + 3 * (k : Int) + (p : Int)) m hh)
def Yo (s : List Int) (p t m : Nat) (hh : List Str) (n : Nat) : List F7 := (List.range n).map fun (k : Nat) => (Wf (Od s p t) (BE s p t) m k, Wg (Od s p t) (BE s p t) p m hh k)
def Wh (s : List Int) (p t m : Nat) (hh : List Str) (cl : Bool) : List F7 := if (cl || decide (BE s p t / 24 % 2 = 0)) = true then [([], [It.fS (tO (Od s p t + (p : Int)) m hh)].take (BE s p t / 48 % 2).toNat)] else []
def Hi (s : List Int) (p t m : Nat) (hh : List Str) (cl : Bool) : List F7 := Yo s p t m hh (BE s p t % 4).toNat ++ Wh s p t m hh cl
theorem E3 (s : List Int) (p t m : Nat) (hh : List Str) (cl : Bool) : (Hi s p t m hh cl).length <= 4 := by
 unfold Hi Yo Wh
 have h0 := ait (BE s p t) (b := 4) Q.c
 have h1 := aiy (BE s p t) (b := 4) Q.c
 rw [ah1, ahK, ah4]
 split
 . show _ + 1 <= 4
   omega
 . show _ + 0 <= 4
   omega
theorem ud (s : List Int) (p t m : Nat) (hh : List Str) : 0 < (Hi s p t m hh true).length := by
 unfold Hi Wh
 rw [ah7 (by simp), ah1]
 show 0 < _ + 1
 omega
theorem E4 (c x : Int) (m k : Nat) : D.bq (Wf c x m k) = true := iL (fun _ => rfl) _
theorem bR (l : List It) : D.bq (l.map It.d) = true := iL V9 _
theorem Li (r : F7) (h : D.bq r.1 = true) : (sq r).iY = true := by
 show (D.bq r.1 && (D.bq (r.2.map It.d) && true)) = true
 rw [h, bR]
 rfl
theorem gG {f : Nat -> L3.D} {g : L3.D -> T} (n : Int) (hg : ∀ k : Nat, g (.int (0 + (k : Int))) = T.sh (f k)) : ((b9 0 n.toNat).filter fun _ => true).map g = ((List.range n.toNat).map f).map T.sh := by
 rw [gE]
 unfold b9
 rw [aia, aia]
 exact aik fun k _ => hg k
variable {d : L3.D}
theorem fZ (h : d ∈ b9 0 n) : ∃ k : Nat, k < n /\ d = .int (k : Int) := by
 obtain ⟨k, hk, rfl⟩ := ahY.mp h
 exact ⟨k, aiu.mp hk, by rw [aiK]⟩
theorem Qs {f : Nat -> F7} (n : Nat) : (((List.range (n + 1)).map f).map sq).map T.sh = (((List.range n).map f).map sq).map T.sh ++ [T.sh (sq (f n))] := by rw [aiX, ah2, ah2, ah2]; rfl
variable {p t : Nat} {hh : List Str}
theorem uf {cl : Bool} : ∀ r ∈ Hi s p t m hh cl, D.bq r.1 = true := fun r hr => by
 rcases ahZ.mp hr with z | z
 . obtain ⟨k, _, rfl⟩ := ahY.mp z
   exact E4 ..
 . unfold Wh at z
   split at z
   . rw [aiw.mp z]; rfl
   . cases z
def zg (s : List Int) : Bool := decide (pV (bf s 0) 47 % 2 = 0)
def Hj (t : Nat) : It := .fS (.say "odd0" (-1) (t : Nat))
def pY (t : Nat) : L3.D := .tup [.str "!=", .tup [.int (-1), .int (t : Nat)], .tup [.int (-1), .int (t : Nat)]]
def mD : F7 := ([], [])
def Hl (t : Nat) (r : List F7) : List F7 := r.set (r.length - 1) ((r.getD (r.length - 1) mD).1, (r.getD (r.length - 1) mD).2 ++ [Hj t])
def tQ (t : Nat) (r : List F7) : List F7 := if 1 < r.length then r.set 0 (pY t :: (r.getD 0 mD).1, (r.getD 0 mD).2) else ([pY t], []) :: r
def lu (s : List Int) (p t m : Nat) (hh : List Str) (cl : Bool) : List F7 := if zg s = true then Hi s 0 t m hh true else Hi s p t m hh cl
def tu (s : List Int) (p t m : Nat) (hh : List Str) (cl : Bool) : List F7 := if (zg s && decide (p = 0)) = true then Hl t (lu s p t m hh cl) else lu s p t m hh cl
def xZ (s : List Int) (p t m : Nat) (hh : List Str) (cl : Bool) : List F7 := if (zg s && decide (p = 1)) = true then tQ t (tu s p t m hh cl) else tu s p t m hh cl
def B8 (s : List Int) (m : Nat) (hh : List Str) (cl : Bool) (n : Nat) : List (List F7) := (List.range n).map fun (i : Nat) => xZ s (i / 3) (i % 3) m hh cl
def tD (r : List F7) : T := .lst ((r.map sq).map T.sh)
theorem ug {cl : Bool} : ∀ r ∈ lu s p t m hh cl, D.bq r.1 = true := by
 unfold lu
 split
 . exact uf
 . exact uf
theorem zj (s : List Int) (p t m : Nat) (hh : List Str) (cl : Bool) : (lu s p t m hh cl).length <= 4 := by
 unfold lu
 split
 . exact E3 ..
 . exact E3 ..
theorem qK {cl : Bool} : ∀ r ∈ tu s p t m hh cl, D.bq r.1 = true := fun r hr => by
 unfold tu at hr
 split at hr
 . rename_i ha
   have ha := (aih _ _ ▸ ha).1
   rcases ai5 hr with z | z
   . exact ug r z
   . rw [z]
     have hp : 0 < (lu s p t m hh cl).length := by unfold lu; rw [ah7 ha]; exact ud ..
     show D.bq ((lu s p t m hh cl).getD ((lu s p t m hh cl).length - 1) mD).1 = true
     rw [ahV, ahN Q.a]
     exact ug _ (ajl _)
 . exact ug r hr
theorem E5 (s : List Int) (p t m : Nat) (hh : List Str) (cl : Bool) : (tu s p t m hh cl).length <= 4 := by
 unfold tu Hl
 split
 . rw [akb]; exact zj ..
 . exact zj ..
theorem zk (s : List Int) (p t m : Nat) (hh : List Str) (cl : Bool) : (xZ s p t m hh cl).length <= 5 := by
 have := E5 s p t m hh cl
 unfold xZ tQ
 split
 . split
   . rw [akb]; omega
   . rw [aiR]; omega
 . omega
theorem zl {cl : Bool} : ∀ r ∈ xZ s p t m hh cl, D.bq r.1 = true := fun r hr => by
 unfold xZ tQ at hr
 split at hr
 . split at hr
   . rename_i hl
     rcases ai5 hr with z | z
     . exact qK r z
     . rw [z]
       show (true && D.bq ((tu s p t m hh cl).getD 0 mD).1) = true
       rw [ahV, ahN Q.a]
       rw [Bool.true_and]
       exact qK _ (ajl _)
   . rcases ahT.mp hr with z | z
     . rw [z]; rfl
     . exact qK r z
 . exact qK r hr
theorem Lj (s : List Int) (m : Nat) (hh : List Str) (cl : Bool) (p t : Nat) (ht : t < 3) : (B8 s m hh cl (3 * p + t + 1)).map tD = (B8 s m hh cl (3 * p + t)).map tD ++ [tD (xZ s p t m hh cl)] := by
 unfold B8
 rw [aiX, ah2, ah2]
 show _ ++ [tD (xZ s ((3 * p + t) / 3) ((3 * p + t) % 3) m hh cl)] = _
 rw [show (3 * p + t) / 3 = p by omega, show (3 * p + t) % 3 = t by omega]
theorem qL {f : α -> L3.D} {l : List α} (h : ∀ x ∈ l, (f x).iY = true) : D.bq (l.map f) = true := lq fun d hd => by
 obtain ⟨x, hx, rfl⟩ := ahY.mp hd
 exact h x hx
theorem E6 (h : 0 < n) : Ep n (-1) = some (n - 1) := by
 unfold Ep
 simp only [show ¬ (0 : Int) <= -1 by decide, ajs]
 rw [ah7 Q.a]
 congr 1
 omega
theorem Wi {l : List α} (h : 0 < l.length) : rN l (-1) = l[l.length - 1]? := by
 unfold rN
 rw [E6 h]
 rfl
theorem sr {r : List F7} (h : ∀ q ∈ r, D.bq q.1 = true) : (tD r).clean = true := bB (qL fun q hq => Li q (h q hq))
theorem Lk (r : List F7) : T.bM (tD r) = .lst (r.map sq) := fK _
def Qt (n : Nat) (r : F7) : Prop := r.1.length <= n /\ r.2.length <= n
theorem Lp {cl : Bool} : ∀ r ∈ Hi s p t m hh cl, Qt 2 r := fun r hr => by
 have a0 := ait (BE s p t / 4) (b := 2) Q.c
 have a1 := aiy (BE s p t / 4) (b := 2) Q.c
 have d0 := ait (BE s p t / 8) (b := 3) Q.c
 have d1 := aiy (BE s p t / 8) (b := 3) Q.c
 rcases ahZ.mp hr with z | z
 . obtain ⟨k, _, rfl⟩ := ahY.mp z
   refine ⟨?_, ?_⟩
   . show (Wf _ _ _ _).length <= 2
     unfold Wf
     rw [ahK, ah4]
     omega
   . show (Wg _ _ _ _ _ _).length <= 2
     unfold Wg
     rw [ahK, ah4]
     omega
 . unfold Wh at z
   split at z
   . rw [aiw.mp z]
     refine ⟨aiB _, ?_⟩
     show (List.take _ _).length <= 2
     rw [ail]
     show min _ 1 <= 2
     omega
   . cases z
theorem m5 {l : List α} {k : Nat} {z : α} (h : k < l.length) : l.getD k z ∈ l := by
 rw [ahV, ahN h]
 exact ajl _
theorem C7 {cl : Bool} : ∀ r ∈ lu s p t m hh cl, Qt 2 r := by
 unfold lu
 split
 . exact Lp
 . exact Lp
theorem C8 {cl : Bool} : ∀ r ∈ tu s p t m hh cl, Qt 3 r := fun r hr => by
 have up : ∀ r ∈ lu s p t m hh cl, Qt 3 r := fun r hr => by
   obtain ⟨a, b⟩ := C7 r hr
   exact ⟨by omega, by omega⟩
 unfold tu at hr
 split at hr
 . rename_i ha
   have ha := (aih _ _ ▸ ha).1
   rcases ai5 hr with z | z
   . exact up r z
   . rw [z]
     have hp : 0 < (lu s p t m hh cl).length := by unfold lu; rw [ah7 ha]; exact ud ..
     obtain ⟨a, b⟩ : Qt 2 ((lu s p t m hh cl).getD ((lu s p t m hh cl).length - 1) mD) := C7 (s := s) (p := p) (t := t) (m := m) (hh := hh) (cl := cl) _ (m5 (l := lu s p t m hh cl) (k := (lu s p t m hh cl).length - 1) (z := mD) Q.a)
     refine ⟨by show ((lu s p t m hh cl).getD ((lu s p t m hh cl).length - 1) mD).1.length <= 3; omega, ?_⟩
     show (((lu s p t m hh cl).getD ((lu s p t m hh cl).length - 1) mD).2 ++ [Hj t]).length <= 3
     rw [ah1]
     show _ + 1 <= 3
     omega
 . exact up r hr
theorem Lq {cl : Bool} : ∀ r ∈ xZ s p t m hh cl, Qt 4 r := fun r hr => by
 have up : ∀ r ∈ tu s p t m hh cl, Qt 4 r := fun r hr => by
   obtain ⟨a, b⟩ := C8 r hr
   exact ⟨by omega, by omega⟩
 unfold xZ tQ at hr
 split at hr
 . split at hr
   . rename_i hl
     rcases ai5 hr with z | z
     . exact up r z
     . rw [z]
       obtain ⟨a, b⟩ : Qt 3 ((tu s p t m hh cl).getD 0 mD) := C8 (s := s) (p := p) (t := t) (m := m) (hh := hh) (cl := cl) _ (m5 (l := tu s p t m hh cl) (k := 0) (z := mD) Q.a)
       refine ⟨?_, by show ((tu s p t m hh cl).getD 0 mD).2.length <= 4; omega⟩
       show (pY t :: ((tu s p t m hh cl).getD 0 mD).1).length <= 4
       rw [aiR]
       omega
   . rcases ahT.mp hr with z | z
     . rw [z]; exact ⟨by show 1 <= 4; decide, by show 0 <= 4; decide⟩
     . exact up r z
 . exact up r hr
def cN (ks : List Nat) : List Int := ks.map fun (k : Nat) => (k : Int)
def mC (ks : List Nat) : Nat := ks.foldr max 0
variable {ks : List Nat}
theorem E7 {x : Nat} (h : x ∈ ks) : x <= mC ks := by
 induction ks with
 | nil => cases h
 | cons y ks ih =>
   show x <= max y (mC ks)
   rcases ahT.mp h with rfl | h
   . omega
   . have := ih h; omega
theorem BF (h : ks ≠ []) : mC ks ∈ ks := by
 induction ks with
 | nil => exact absurd rfl h
 | cons y ks ih =>
   show max y (mC ks) ∈ _
   by_cases e : ks = []
   . subst e
     rw [show mC [] = 0 from rfl, Nat.max_zero]
     exact ahL
   . rcases Nat.le_total y (mC ks) with z | z
     . rw [Nat.max_eq_right z]; exact ahP _ (ih e)
     . rw [Nat.max_eq_left z]; exact ahL
theorem Wj (h : ks ≠ []) : ((mC ks : Nat) : Int) ∈ cN ks /\ ∀ x ∈ cN ks, x <= ((mC ks : Nat) : Int) :=
 ⟨ahY.mpr ⟨_, BF h, rfl⟩, fun x hx => by
   obtain ⟨k, hk, rfl⟩ := ahY.mp hx
   have := E7 hk
   omega⟩
theorem ly (h : f < ks.length) : rN ((cN ks).map L3.D.int) (f : Nat) = some (.int (ks.getD f 0 : Nat)) := by
 refine aO (j := f) ?_
 unfold cN
 rw [ahU, ahU, ahN h, ahV, ahN h]
 rfl
def TH (s : List Int) (ks : List Nat) (f t r : Nat) : Int := if zg s = true then (((ks.getD f 0 : Nat) : Int) + ([1, 0, 2] : List Int).getD (((t : Int) + (r : Int)) % 3).toNat 0) % (((mC ks : Nat) : Int) + 1) else pV (bf s (((ks.getD f 0 : Nat) : Int) + (t : Int) + (r : Int))) 53 % (((mC ks : Nat) : Int) + 1)
def Oe (ks : List Nat) (w : Int) : List Nat := (List.range ks.length).filter fun (k : Nat) => decide (((ks.getD k 0 : Nat) : Int) = w)
def Ho (ks : List Nat) (w : Int) : List Nat := if Oe ks w = [] then List.range ks.length else Oe ks w
theorem E8 (ks : List Nat) (w : Int) (h : 0 < ks.length) : 0 < (Ho ks w).length := by
 unfold Ho
 split
 . rw [ah4]; exact h
 . rename_i e
   exact List.length_pos_iff.mpr e
theorem Wk (ks : List Nat) (w : Int) : ∀ k ∈ Ho ks w, k < ks.length := fun k hk => by
 unfold Ho at hk
 split at hk
 . exact aiu.mp hk
 . exact aiu.mp (ajr.mp hk).1
def Hq (s : List Int) (ks : List Nat) (f t r : Nat) : Nat := (Ho ks (TH s ks f t r)).getD (pV (bf s (f : Nat)) (59 + (t : Int) * 5 + (r : Int)) % ((Ho ks (TH s ks f t r)).length : Int)).toNat 0
theorem E9 {x : Int} (h : 0 < n) : 0 <= x % (n : Int) /\ (x % (n : Int)).toNat < n := by
 have h0 := ait x (b := (n : Int)) Q.a
 have h1 := aiy x (b := (n : Int)) Q.a
 exact ⟨h0, by omega⟩
theorem Wm (s : List Int) (ks : List Nat) (f t r : Nat) (h : 0 < ks.length) : Hq s ks f t r < ks.length := Wk ks (TH s ks f t r) _ (m5 (E9 (E8 ks _ h)).2)
abbrev R7 := List L3.D × List It × Nat
def fM (r : R7) : L3.D := .tup [.tup r.1, .tup (r.2.1.map It.d), .int (r.2.2 : Nat)]
def IL (l : List It) (f n to : Nat) : List It := if f % 3 = 0 then l else [It.out ((f : Int) + 1), .keep 0 (-1) ((f : Int) + 1)] ++ l.take 1 ++ [It.way (n : Nat)] ++ l.drop 1 ++ [It.wI ((to : Int) + 1)]
def Qu (s : List Int) (a : Nat) : Nat := if pV (bf s 0) 71 % 4 = 0 then a % 3 else a
def mm7 (s : List Int) (a m : Nat) : Int := pV (bf s (Qu s a : Nat)) 73 % ((m : Int) + 1) - 1
def Lr (s : List Int) (a m : Nat) : L3.D := .tup [if Qu s a % 3 = 1 then .tup [.int 0, .int ((Qu s a : Int) + 1), .int ((m : Int) + 1)] else .tup [.int 0, .int ((Qu s a : Int) + 1)], .tup (.int (mm7 s a m) :: List.replicate m (.int (-1)))]
variable {x : Str}
theorem vD {y z : Str} (h : x ++ y = x ++ z) : y = z := by
 have h1 : x.cps ++ y.cps = x.cps ++ z.cps := congrArg Str.cps h
 have h2 : y.cps = z.cps := by
   apply Array.ext'
   have := congrArg Array.toList h1
   rw [Array.toList_append, Array.toList_append] at this
   exact List.append_cancel_left this
 cases y
 cases z
 cases h2
 rfl
theorem Qv (s : List Int) : (pW s).Nodup := by
 unfold pW
 have e1 : tP s ++ "1" ≠ tP s ++ "12" := fun z => absurd (vD z) Q.b
 have e2 : tP s ++ "1" ≠ tP s ++ "2" := fun z => absurd (vD z) Q.b
 have e3 : tP s ++ "12" ≠ tP s ++ "2" := fun z => absurd (vD z) Q.b
 simp [e1, e2, e3]
theorem C9 (s : List Int) : (jh s).Nodup := by
 unfold jh
 refine List.Nodup.sublist (List.take_sublist _ _) ?_
 have h := Qv s
 rw [← aiT (Lh s) (pW s)] at h
 exact (aim.nodup_iff).mp h
theorem zm (s : List Int) : (jh s).length <= 3 := by
 unfold jh
 have h3 : (pW s).length = 3 := rfl
 rw [ail, ah1, ajy, ail, h3]
 omega
def mq (a : Nat) (x : Str) : bz := [.inl (a : Int), .inr x]
variable {c : Nat}
theorem uh {y : Str} (h : mq a x = mq c y) : a = c /\ x = y := by
 unfold mq at h
 injection h with h1 h2
 injection h1 with h1
 injection h2 with h2 _
 injection h2 with h2
 exact ⟨by omega, h2⟩
def cg (R : Q.n) : List (bz × List L3.D) := R.map fun q => (q.1, q.2.map fM)
theorem kN (R : Q.n) : (cg R).map (·.1) = R.map (·.1) := by
 unfold cg
 rw [aia]
 rfl
def Ls (s : List Int) (ks : List Nat) (f t : Nat) (fs : List F7) (n : Nat) : List R7 := (List.range n).map fun (i : Nat) => ((fs.getD i mD).1, IL (fs.getD i mD).2 f i (Hq s ks f t i), Hq s ks f t i)
def IG (s : List Int) (ks : List Nat) (f t : Nat) (fs : List F7) : List R7 := Ls s ks f t fs fs.length
theorem Lv (s : List Int) (ks : List Nat) (f t : Nat) (fs : List F7) (n : Nat) : ((Ls s ks f t fs (n + 1)).map fM).map T.sh = ((Ls s ks f t fs n).map fM).map T.sh ++ [T.sh (fM ((fs.getD n mD).1, IL (fs.getD n mD).2 f n (Hq s ks f t n), Hq s ks f t n))] := by
 unfold Ls
 rw [aiX, ah2, ah2, ah2]
 rfl
def x6 (s : List Int) (ks : List Nat) (hs : List Str) (FF : List (List F7)) (n : Nat) : List (bz × List R7) := (List.range n).map fun (i : Nat) => (mq (i / hs.length) (hs.getD (i % hs.length) Str.empty), IG s ks (i / hs.length) (i % hs.length) (FF.getD (ks.getD (i / hs.length) 0 * 3 + i % hs.length) []))
theorem TJ {H : Nat} (h : t < H) : (j * H + t) / H = j /\ (j * H + t) % H = t := by
 have hp : 0 < H := by omega
 constructor
 . rw [Nat.mul_comm, Nat.mul_add_div hp, Nat.div_eq_of_lt h, Nat.add_zero]
 . rw [Nat.mul_comm, Nat.mul_add_mod, Nat.mod_eq_of_lt h]
theorem Lw (s : List Int) (ks : List Nat) (hs : List Str) (FF : List (List F7)) (h : t < hs.length) : x6 s ks hs FF (j * hs.length + t + 1) = x6 s ks hs FF (j * hs.length + t) ++ [(mq j (hs.getD t Str.empty), IG s ks j t (FF.getD (ks.getD j 0 * 3 + t) []))] := by
 unfold x6
 rw [aiX, ah2, List.map_singleton, (TJ h).1, (TJ h).2]
variable {i : Nat}
theorem getD_inj {hs : List Str} (nd : hs.Nodup) (hi : i < hs.length) (hj : j < hs.length) (e : hs.getD i Str.empty = hs.getD j Str.empty) : i = j := by
 rw [ahV, ahV, ahN hi, ahN hj] at e
 exact (akp hi nd).mp (by rw [ahN hi, ahN hj]; exact congrArg some e)
theorem Qw (s : List Int) (ks : List Nat) {hs : List Str} (FF : List (List F7)) (nd : hs.Nodup) (h : t < hs.length) : mq j (hs.getD t Str.empty) ∉ (x6 s ks hs FF (j * hs.length + t)).map (·.1) := fun hm => by
 unfold x6 at hm
 rw [aia] at hm
 obtain ⟨i, hi, e⟩ := ahY.mp hm
 have hi := aiu.mp hi
 obtain ⟨e1, e2⟩ := uh e
 have e3 := getD_inj nd (Nat.mod_lt i Q.a) h e2
 have e1 : i / hs.length = j := e1
 have e3 : i % hs.length = t := e3
 have := ajT i hs.length
 rw [e1, e3, Nat.mul_comm] at this
 omega
def n7 (s : List Int) (q : Nat) : Nat := max 1 (min s.length q)
def TL (k : Nat) : Str := ("box" : Str) ++ (toString (k : Int) : Str)
def vG (s : List Int) : List (Str × Int) := (List.range (s.length % 4)).map fun (k : Nat) => (TL k, gO (bf s ((k : Int) + 2)))
def bJ (x : Str × Int) : L3.D := .tup [.str x.1, .int x.2]
theorem Fb (s : List Int) : (vG s).length = s.length % 4 := by unfold vG; rw [ahK, ah4]
theorem Fd : ∀ k : Nat, k < 4 -> ((TL k).length = 4 /\ PyData.strOk (TL k) = true) /\ ((toString (k : Int) : Str).length = 1 /\ (k : Int).natAbs.log2 < 1920) := Q.i
def wL (s : List Int) : Nat := (1 + pV (bf s 0) 43 % 6).toNat
theorem Lx (s : List Int) : 1 <= wL s /\ wL s <= 6 /\ ((wL s : Nat) : Int) = 1 + pV (bf s 0) 43 % 6 := by
 unfold wL
 have h0 := ait (pV (bf s 0) 43) (b := 6) Q.c
 have h1 := aiy (pV (bf s 0) 43) (b := 6) Q.c
 omega
def rP (s : List Int) (q : Nat) : List Nat := (List.range (n7 s q)).map fun (k : Nat) => (pV (bf s (k : Nat)) 61 % ((wL s : Nat) : Int)).toNat
theorem Fe (s : List Int) (q : Nat) : (rP s q).length = n7 s q := by unfold rP; rw [ahK, ah4]
theorem Ly (s : List Int) (q : Nat) : ∀ k ∈ rP s q, k < wL s := fun k hk => by
 obtain ⟨i, _, rfl⟩ := ahY.mp hk
 exact (E9 (by have := Lx s; omega)).2
def AK (s : List Int) (cl : Bool) : List (List F7) := B8 s (vG s).length (jh s) cl (3 * wL s)
def Hr (s : List Int) (q : Nat) (cl : Bool) : List (bz × List R7) := x6 s (rP s q) (jh s) (AK s cl) (n7 s q * (jh s).length)
def TN (s : List Int) (q : Nat) : List L3.D := (List.range (n7 s q)).map fun (k : Nat) => Lr s k (n7 s q)
def TQ (s : List Int) : List It := [.wI 0, .wI 1, .fS (tO (bf s 1) (vG s).length (jh s))]
def BG (bs : List (Str × Int)) (hs : List Str) (bg : List It) (pr : List L3.D) (R : Q.n) : T := .lst [.lst ((bs.map bJ).map T.sh), .lst ((hs.map .str).map T.sh), .sh (.tup (bg.map It.d)), .lst (pr.map T.sh), .dct (aJ (cg R))]
def Yp (bs : List (Str × Int)) (hs : List Str) (bg : List It) (pr : List L3.D) (R : Q.n) : L3.D := .lst [.lst (bs.map bJ), .lst (hs.map .str), .tup (bg.map It.d), .lst pr, .dct (cR (cg R))]
theorem nQ (bs : List (Str × Int)) (hs : List Str) (bg : List It) (pr : List L3.D) (R : Q.n) : (BG bs hs bg pr R).bM = Yp bs hs bg pr R := by
 unfold BG Yp
 rw [T.bM, T.gj, T.gj, T.gj, T.gj, T.gj, T.gj, fK, fK, fK, T.bM, T.bM, jw]
theorem Lz {cl : Bool} {k : Nat} (h : k < 3 * wL s) : (AK s cl)[k]? = some (xZ s (k / 3) (k % 3) (vG s).length (jh s) cl) := by
 unfold AK B8
 rw [ahU, ahN (by rw [ah4]; exact h), akf]
 rfl
def Qx (FF : List (List F7)) : List L3.D := FF.map fun r => .lst (r.map sq)
theorem Qy (FF : List (List F7)) : (T.lst (FF.map tD)).bM = .lst (Qx FF) := by
 rw [T.bM]
 congr 1
 induction FF with
 | nil => show T.gj [] = []; rw [T.gj]
 | cons r FF ih => show T.gj (tD r :: FF.map tD) = .lst (r.map sq) :: Qx FF; rw [T.gj, Lk, ih]
theorem Ff : ∀ {ts : List T}, (∀ t ∈ ts, t.clean = true) -> T.eX ts = true
 | [], _ => by rw [T.eX]
 | t :: ts, h => by rw [T.eX, h t ahL, Ff fun u hu => h u (ahP _ hu)]; rfl
theorem Fg (s : List Int) (a m : Nat) : (Lr s a m).iY = true := by
 unfold Lr
 have h2 : D.bq (L3.D.int (mm7 s a m) :: List.replicate m (.int (-1))) = true := lq fun d hd => by
   rcases ahT.mp hd with rfl | hd
   . rfl
   . rw [akg hd]; rfl
 rw [D.iY, D.bq, D.bq, D.bq, D.iY, h2]
 split <;> rfl
section
variable {β : Type} [DecidableEq α] [DecidableEq β]
def unq (l : List α) : List α := l.foldl (fun acc d => if d ∈ acc then acc else acc ++ [d]) []
def bZ (l : List α) : List Nat := l.map fun d => (unq l).idxOf d
theorem cW (l : List α) (d : α) : unq (l ++ [d]) = if d ∈ unq l then unq l else unq l ++ [d] := by
 unfold unq
 rw [List.foldl_append]
 rfl
theorem snoc_ind {P : List α -> Prop} (h0 : P []) (h1 : ∀ l d, P l -> P (l ++ [d])) (l : List α) : P l := by
 rw [← List.reverse_reverse l]
 induction l.reverse with
 | nil => exact h0
 | cons d l ih => rw [aiU]; exact h1 _ _ ih
theorem cE {d : α} {l : List α} : d ∈ unq l ↔ d ∈ l := by
 induction l using snoc_ind with
 | h0 => exact Iff.rfl
 | h1 l e ih =>
   rw [cW]
   by_cases he : e ∈ unq l
   . rw [ah7 he, ahZ, aiw]
     constructor
     . exact fun z => .inl (ih.mp z)
     . rintro (z | rfl)
       . exact ih.mpr z
       . exact he
   . rw [ahX he, ahZ, ahZ, ih]
theorem LC (l : List α) : (unq l).Nodup := by
 induction l using snoc_ind with
 | h0 => exact ajn
 | h1 l e ih =>
   rw [cW]
   split
   . exact ih
   . rename_i he
     rw [ais]
     refine ⟨ih, akm _ _, fun x hx y hy z => he ?_⟩
     rw [← aiw.mp hy, ← z]
     exact hx
theorem Fi (l : List α) : (unq l).length <= l.length := by
 induction l using snoc_ind with
 | h0 => exact ah0 _
 | h1 l e ih =>
   rw [cW]
   split
   . rw [ah1]; omega
   . rw [ah1, ah1]; show _ + 1 <= _ + 1; omega
theorem Qz (l m : List α) : ∃ r, unq (l ++ m) = unq l ++ r := by
 induction m using snoc_ind with
 | h0 => exact ⟨[], by rw [aip, aip]⟩
 | h1 m e ih =>
   obtain ⟨r, hr⟩ := ih
   rw [← ahQ, cW]
   split
   . exact ⟨r, hr⟩
   . exact ⟨r ++ [e], by rw [hr, ahQ]⟩
theorem LD {l m : List α} {d : α} (h : d ∈ l) : (unq (l ++ m)).idxOf d = (unq l).idxOf d := by
 obtain ⟨r, hr⟩ := Qz l m
 rw [hr]
 rw [aje, ah7 (cE.mpr h)]
theorem Fj {l : List α} (h : l ≠ []) : 0 < (unq l).length := by
 cases l with
 | nil => exact absurd rfl h
 | cons d l => exact List.length_pos_of_mem (cE.mpr ahL)
def tR (l : List α) (m : List β) : Prop := l.length = m.length /\ ∀ (i j : Nat) (a b : α) (c d : β), l[i]? = some a -> l[j]? = some b -> m[i]? = some c -> m[j]? = some d -> a = b -> c = d
theorem tR.pre {l : List α} {m : List β} {x : α} {y : β} (h : tR (l ++ [x]) (m ++ [y])) : tR l m := by
 obtain ⟨h1, h2⟩ := h
 have hl : l.length = m.length := by simpa using h1
 refine ⟨hl, fun i j a b c d ha hb hc hd e => h2 i j a b c d ?_ ?_ ?_ ?_ e⟩
 . rw [aiq (ahW.mp ha).1]; exact ha
 . rw [aiq (ahW.mp hb).1]; exact hb
 . rw [aiq (ahW.mp hc).1]; exact hc
 . rw [aiq (ahW.mp hd).1]; exact hd
theorem tR.last {l : List α} {m : List β} {x : α} {y : β} (h : tR (l ++ [x]) (m ++ [y])) (hx : x ∈ l) : y ∈ m := by
 have hl : l.length = m.length := by simpa using h.1
 obtain ⟨i, hi⟩ := ai1.mp hx
 have il := (ahW.mp hi).1
 obtain ⟨c, hc⟩ : ∃ c, m[i]? = some c := ⟨_, ahN Q.a⟩
 have := h.2 i l.length x x c y (by rw [aiq il]; exact hi) (by simp) (by rw [aiq Q.a]; exact hc) (by rw [hl]; simp) rfl
 subst this
 exact ah3 hc
theorem x8 {P : List α -> List β -> Prop} (h0 : P [] []) (h1 : ∀ l m d e, l.length = m.length -> P l m -> P (l ++ [d]) (m ++ [e])) : ∀ (l : List α) (m : List β), l.length = m.length -> P l m := by
 intro l
 induction l using snoc_ind with
 | h0 =>
   intro m hm
   cases m with
   | nil => exact h0
   | cons _ _ => simp at hm
 | h1 l d ih =>
   intro m hm
   rcases List.eq_nil_or_concat m with rfl | ⟨m, e, rfl⟩
   . simp at hm
   . rw [List.concat_eq_append] at hm ⊢
     have hl : l.length = m.length := by simpa using hm
     exact h1 l m d e hl (ih m hl)
theorem tR.cnt {l : List α} {m : List β} (h : tR l m) : (unq m).length <= (unq l).length /\ ((unq m).length = (unq l).length -> tR m l) := by
 have hl := h.1
 revert h
 refine x8 (P := fun (l : List α) (m : List β) => tR l m -> (unq m).length <= (unq l).length /\ ((unq m).length = (unq l).length -> tR m l)) (fun _ => ⟨ah0 _, fun _ => ⟨rfl, fun i j a b c d ha => by simp at ha⟩⟩) (fun l m x y hl ih h => ?_) l m hl
 obtain ⟨c1, c2⟩ := ih h.pre
 rw [cW, cW]
 have ext : tR m l -> (y ∈ m -> x ∈ l /\ ∀ (i : Nat) b c, m[i]? = some b -> l[i]? = some c -> b = y -> c = x) -> tR (m ++ [y]) (l ++ [x]) := fun p q => by
   have at_ : ∀ {γ : Type} {n : List γ} {z w : γ} {i : Nat}, (n ++ [z])[i]? = some w -> (i < n.length /\ n[i]? = some w) \/ (i = n.length /\ w = z) := fun {γ n z w i} e => by
     rcases Nat.lt_trichotomy i n.length with k | k | k
     . rw [aiq k] at e; exact .inl ⟨k, e⟩
     . subst k; simp at e; exact .inr ⟨rfl, e.symm⟩
     . rw [aiI (by rw [ah1]; show n.length + 1 <= i; omega)] at e; cases e
   refine ⟨by simp [hl], fun i j a b c d ha hb hc hd e => ?_⟩
   rcases at_ ha with ⟨i1, pa⟩ | ⟨i1, pa⟩ <;> rcases at_ hb with ⟨j1, pb⟩ | ⟨j1, pb⟩ <;> rcases at_ hc with ⟨i2, pc⟩ | ⟨i2, pc⟩ <;> rcases at_ hd with ⟨j2, pd⟩ | ⟨j2, pd⟩ <;> try omega
   . exact p.2 i j a b c d pa pb pc pd e
   . rw [pd]
     exact (q ((e.trans pb) ▸ ah3 pa)).2 i a c pa pc (e.trans pb)
   . rw [pc]
     exact ((q ((e.symm.trans pa) ▸ ah3 pb)).2 j b d pb pd (e.symm.trans pa)).symm
   . rw [pc, pd]
 by_cases hx : x ∈ l
 . have hy := h.last hx
   rw [ah7 (cE.mpr hx), ah7 (cE.mpr hy)]
   refine ⟨c1, fun e => ext (c2 e) fun _ => ⟨hx, fun i b c hb hc eb => ?_⟩⟩
   obtain ⟨k, hk⟩ := ai1.mp hx
   have kl := (ahW.mp hk).1
   have hm : m[k]? = some y := by
     obtain ⟨z, hz⟩ : ∃ z, m[k]? = some z := ⟨_, ahN Q.a⟩
     have := h.2 k l.length x x z y (by rw [aiq kl]; exact hk) (by simp) (by rw [aiq Q.a]; exact hz) (by rw [hl]; simp) rfl
     rw [hz, this]
   exact (c2 e).2 i k b y c x hb hm hc hk eb
 . rw [ahX fun z => hx (cE.mp z)]
   by_cases hy : y ∈ m
   . rw [ah7 (cE.mpr hy), ah1]
     exact ⟨by omega, fun e => by have : (unq m).length = (unq l).length + 1 := e; omega⟩
   . rw [ahX fun z => hy (cE.mp z), ah1, ah1]
     exact ⟨by show _ + 1 <= _ + 1; omega, fun e => ext (c2 (by have : (unq m).length + 1 = (unq l).length + 1 := e; omega)) fun z => absurd z hy⟩
theorem tR.num {l : List α} {m : List β} (h : tR l m) (g : tR m l) : bZ l = bZ m /\ (unq l).length = (unq m).length := by
 have hl := h.1
 revert h g
 refine x8 (P := fun (l : List α) (m : List β) => tR l m -> tR m l -> bZ l = bZ m /\ (unq l).length = (unq m).length) (fun _ _ => ⟨rfl, rfl⟩) (fun l m x y hl ih h g => ?_) l m hl
 obtain ⟨e1, e2⟩ := ih h.pre g.pre
 have en : ∀ {γ : Type} [DecidableEq γ] (n : List γ) (z : γ), bZ (n ++ [z]) = bZ n ++ [(unq (n ++ [z])).idxOf z] := fun n z => by
   unfold bZ
   rw [ah2]
   congr 1
   exact aik fun d hd => LD hd
 have hin : x ∈ l ↔ y ∈ m := ⟨h.last, g.last⟩
 rw [en, en, e1, cW, cW]
 by_cases hx : x ∈ l
 . have hy := hin.mp hx
   rw [ah7 (cE.mpr hx), ah7 (cE.mpr hy)]
   refine ⟨?_, e2⟩
   obtain ⟨k, hk⟩ := ai1.mp hx
   have kl := (ahW.mp hk).1
   have hm : m[k]? = some y := by
     obtain ⟨z, hz⟩ : ∃ z, m[k]? = some z := ⟨_, ahN Q.a⟩
     have := h.2 k l.length x x z y (by rw [aiq kl]; exact hk) (by simp) (by rw [aiq Q.a]; exact hz) (by rw [hl]; simp) rfl
     rw [hz, this]
   have e3 : (bZ l)[k]? = (bZ m)[k]? := by rw [e1]
   unfold bZ at e3
   rw [ahU, ahU, hk, hm] at e3
   have e4 : (unq l).idxOf x = (unq m).idxOf y := aie e3
   rw [e4]
 . have hy : y ∉ m := fun z => hx (hin.mpr z)
   rw [ahX fun z => hx (cE.mp z), ahX fun z => hy (cE.mp z)]
   refine ⟨?_, by rw [ah1, ah1, e2]; rfl⟩
   rw [aje, aje, ahX fun z => hx (cE.mp z), ahX fun z => hy (cE.mp z), e2, aj5, aj5]
theorem zo (l : List α) : tR l (bZ l) /\ tR (bZ l) l := by
 have key : ∀ {i : Nat} {a : α} {c : Nat}, l[i]? = some a -> (bZ l)[i]? = some c -> c = (unq l).idxOf a := fun {i a c} ha hc => by
   unfold bZ at hc
   rw [ahU, ha] at hc
   exact (aie hc).symm
 have hl : l.length = (bZ l).length := by unfold bZ; rw [ahK]
 refine ⟨⟨hl, fun i j a b c d ha hb hc hd e => ?_⟩, ⟨hl.symm, fun i j a b c d ha hb hc hd e => ?_⟩⟩
 . rw [key ha hc, key hb hd, e]
 . rw [key hc ha, key hd hb] at e
   have Uj := cE.mpr (ah3 hc)
   have yr := cE.mpr (ah3 hd)
   have g1 : (unq l)[(unq l).idxOf c]? = some c := by rw [ahN (aiA.mpr Uj)]; exact congrArg some (ai8 _)
   have g2 : (unq l)[(unq l).idxOf d]? = some d := by rw [ahN (aiA.mpr yr)]; exact congrArg some (ai8 _)
   rw [e, g2] at g1
   exact (aie g1).symm
theorem LJ {l : List α} (h : c ∈ bZ l) : c < (unq l).length := by
 unfold bZ at h
 obtain ⟨d, hd, rfl⟩ := ahY.mp h
 exact aiA.mpr (cE.mpr hd)
theorem Fl {l : List α} (h : c < (unq l).length) : c ∈ bZ l := by
 unfold bZ
 refine ahY.mpr ⟨(unq l)[c], cE.mp (ajl h), ?_⟩
 exact (List.getElem_inj (LC l)).mp (ai8 (aiA.mpr (ajl h)))
theorem nR (l : List α) : bZ (bZ l) = bZ l /\ (unq (bZ l)).length = (unq l).length := (zo l).2.num (zo l).1
theorem um (l : List α) : (bZ l).length = l.length := by unfold bZ; rw [ahK]
end
variable {β : Type}
theorem zq {f : Nat -> α} {g : Nat -> β} (h : ∀ a, a < n -> ∀ b, b < n -> f a = f b -> g a = g b) : tR ((List.range n).map f) ((List.range n).map g) := by
 have at_ : ∀ {γ : Type} {k : Nat -> γ} {i : Nat} {c : γ}, ((List.range n).map k)[i]? = some c -> i < n /\ c = k i := fun {γ k i c} e => by
   have hi := (ahW.mp e).1
   rw [ahK, ah4] at hi
   rw [ahU, aiJ hi] at e
   exact ⟨hi, (aie e).symm⟩
 refine ⟨by rw [ahK, ahK], fun i j a b c d ha hb hc hd e => ?_⟩
 obtain ⟨i1, rfl⟩ := at_ ha
 obtain ⟨j1, rfl⟩ := at_ hb
 obtain ⟨_, rfl⟩ := at_ hc
 obtain ⟨_, rfl⟩ := at_ hd
 exact h i i1 j j1 e
variable {b : Nat}
theorem tR.map {f : Nat -> α} {g : Nat -> β} (h : tR ((List.range n).map f) ((List.range n).map g)) (ha : a < n) (hb : b < n) (e : f a = f b) : g a = g b := by
 have at_ : ∀ {γ : Type} (k : Nat -> γ) {i : Nat}, i < n -> ((List.range n).map k)[i]? = some (k i) := fun k i hi => by rw [ahU, aiJ hi]; rfl
 exact h.2 a b _ _ _ _ (at_ f ha) (at_ f hb) (at_ g ha) (at_ g hb) e
variable {F : List Nat}
theorem vH (h : F.length = n) : F = (List.range n).map fun a => F.getD a 0 := by
 apply ajH
 intro i
 by_cases hi : i < n
 . rw [ahU, aiJ hi]
   show F[i]? = some (F.getD i 0)
   rw [ahV, ahN Q.a]
   rfl
 . rw [aiI Q.a, aiI (by rw [ahK, ah4]; omega)]
def cn (F : List Nat) : Nat := (unq F).length
section
variable [DecidableEq α] [DecidableEq β] {f : Nat -> α} {g : Nat -> β}
theorem pZ (ha : a < n) (hb : b < n) : (bZ ((List.range n).map f)).getD a 0 = (bZ ((List.range n).map f)).getD b 0 ↔ f a = f b := by
 have h := zo ((List.range n).map f)
 have e := vH (F := bZ ((List.range n).map f)) (n := n) (by rw [um, ahK, ah4])
 have h1 := h.1
 have h2 := h.2
 rw [e] at h1 h2
 exact ⟨fun z => h2.map ha hb z, fun z => h1.map ha hb z⟩
theorem Hs (h : ∀ a, a < n -> ∀ b, b < n -> (f a = f b ↔ g a = g b)) : bZ ((List.range n).map f) = bZ ((List.range n).map g) :=
 ((zq fun a ha b hb => (h a ha b hb).mp).num (zq fun a ha b hb => (h a ha b hb).mpr)).1
theorem LK (hF : F.length = n) (hn : bZ F = F) (h : ∀ a, a < n -> ∀ b, b < n -> f a = f b -> F.getD a 0 = F.getD b 0) : cn F <= cn (bZ ((List.range n).map f)) /\ (cn F = cn (bZ ((List.range n).map f)) -> bZ ((List.range n).map f) = F) := by
 have p : tR ((List.range n).map f) F := by rw [vH hF]; exact zq h
 unfold cn
 rw [(nR _).2]
 refine ⟨p.cnt.1, fun e => ?_⟩
 rw [(p.num (p.cnt.2 e)).1, hn]
theorem x9 (l : List α) (h : l.length <= n) : cn (bZ l) <= n := by
 unfold cn
 rw [(nR l).2]
 exact aiD (Fi l) h
theorem LN {l : List α} (h : l ≠ []) : 0 < cn (bZ l) := by
 unfold cn
 rw [(nR l).2]
 exact Fj h
theorem zu {l : List α} (h : l ≠ []) : mC (bZ l) + 1 = cn (bZ l) := by
 have hp := Fj h
 unfold cn
 rw [(nR l).2]
 have h1 : mC (bZ l) ∈ bZ l := BF fun z => by
   have := um l
   rw [z] at this
   exact h (List.length_eq_zero_iff.mp this.symm)
 have h2 := LJ h1
 have h3 := E7 (Fl (l := l) (c := (unq l).length - 1) Q.a)
 omega
end
section
variable (R : Q.n) (hs : List Str)
def iM (a : Nat) (x : Str) : List R7 := (eZ R (mq a x)).getD []
def Ht (r : R7) : L3.D := .tup [.tup r.1, .tup ((r.2.1.filter It.told).map It.d)]
def lkS (a : Nat) (x : Str) : L3.D := .tup ((iM R a x).map Ht)
def mE (a : Nat) : List L3.D := hs.map (lkS R a)
def uo (F : List Nat) (a : Nat) : List Nat := hs.flatMap fun x => (iM R a x).map fun r => F.getD r.2.2 0
def AO (F : List Nat) (a : Nat) : List L3.D := [.int (F.getD a 0 : Nat), .tup ((cN (uo R hs F a)).map .int)]
def kLt (F : List Nat) (a : Nat) : List L3.D := [.int (F.getD a 0 : Nat), .tup (mE R hs a), .tup ((cN (uo R hs F a)).map .int)]
variable (n : Nat)
def d8 : Nat -> List Nat
 | 0 => bZ ((List.range n).map fun (a : Nat) => L3.D.tup (mE R hs a))
 | k + 1 => bZ ((List.range n).map fun (a : Nat) => L3.D.tup (AO R hs (d8 k) a))
def lit : Nat -> List Nat
 | 0 => List.replicate n 0
 | k + 1 => bZ ((List.range n).map fun (a : Nat) => L3.D.tup (kLt R hs (lit k) a))
variable {R hs n}
theorem iB (k : Nat) : (d8 R hs n k).length = n := by
 cases k with
 | zero => rw [d8, um, ahK, ah4]
 | succ k => rw [d8, um, ahK, ah4]
theorem ji (k : Nat) : bZ (d8 R hs n k) = d8 R hs n k := by
 cases k with
 | zero => rw [d8]; exact (nR _).1
 | succ k => rw [d8]; exact (nR _).1
theorem QB {a b : List Nat} (h : (cN a).map L3.D.int = (cN b).map L3.D.int) : a = b := by
 unfold cN at h
 rw [aia, aia] at h
 refine List.map_inj_right (fun x y e => ?_) |>.mp h
 have e : L3.D.int (x : Int) = .int (y : Int) := e
 injection e with e
 omega
theorem qM (h : L3.D.tup (AO R hs F a) = .tup (AO R hs F b)) : F.getD a 0 = F.getD b 0 /\ uo R hs F a = uo R hs F b := by
 unfold AO at h
 injection h with h
 injection h with h1 h
 injection h with h2 _
 injection h1 with h1
 injection h2 with h2
 exact ⟨by omega, QB h2⟩
theorem vI (k : Nat) (ha : a < n) (hb : b < n) (h : (d8 R hs n k).getD a 0 = (d8 R hs n k).getD b 0) : mE R hs a = mE R hs b := by
 induction k with
 | zero =>
   rw [d8] at h
   have := (pZ ha hb).mp h
   injection this
 | succ k ih =>
   rw [d8] at h
   exact ih (qM ((pZ ha hb).mp h)).1
theorem Fo (h : mE R hs a = mE R hs b) : ∀ x ∈ hs, (iM R a x).map Ht = (iM R b x).map Ht := fun x hx => by
 unfold mE at h
 have := List.map_inj_left.mp h x hx
 unfold lkS at this
 injection this
theorem vJ (k : Nat) : cn (d8 R hs n k) <= cn (d8 R hs n (k + 1)) /\ (cn (d8 R hs n k) = cn (d8 R hs n (k + 1)) -> d8 R hs n (k + 1) = d8 R hs n k) := by
 rw [d8]
 exact LK (iB k) (ji k) fun a _ b _ h => (qM h).1
theorem qN {k : Nat} (h : d8 R hs n (k + 1) = d8 R hs n k) (m : Nat) : d8 R hs n (k + m) = d8 R hs n k := by
 induction m with
 | zero => rfl
 | succ m ih => rw [show k + (m + 1) = (k + m) + 1 by omega, d8, ih, ← d8, h]
theorem LQ (hn : 1 <= n) (k : Nat) : 1 <= cn (d8 R hs n k) /\ cn (d8 R hs n k) <= n /\ mC (d8 R hs n k) + 1 = cn (d8 R hs n k) := by
 have ne : ∀ {γ : Type} (f : Nat -> γ), (List.range n).map f ≠ [] := fun f z => by
   have := congrArg List.length z
   rw [ahK, ah4] at this
   have : n = 0 := this
   omega
 cases k with
 | zero => rw [d8]; exact ⟨LN (ne _), x9 _ (by rw [ahK, ah4]; exact ah0 _), zu (ne _)⟩
 | succ k => rw [d8]; exact ⟨LN (ne _), x9 _ (by rw [ahK, ah4]; exact ah0 _), zu (ne _)⟩
def eV (R : Q.n) (hs : List Str) (n : Nat) : List Nat := d8 R hs n n
theorem Wn {k : Nat} (hk : k + 1 <= n) (h : cn (d8 R hs n (k + 1)) <= cn (d8 R hs n k)) : d8 R hs n (k + 1) = eV R hs n := by
 have h1 := vJ (R := R) (hs := hs) (n := n) k
 have e := h1.2 Q.a
 have h2 := qN e (n - k)
 unfold eV
 rw [e, ← h2, show k + (n - k) = n by omega]
theorem vK (hn : 1 <= n) : d8 R hs n (n + 1) = eV R hs n := by
 have key : ∀ j, (∃ k, k < j /\ cn (d8 R hs n (k + 1)) <= cn (d8 R hs n k)) \/ j + 1 <= cn (d8 R hs n j) := by
   intro j
   induction j with
   | zero => exact .inr (LQ hn 0).1
   | succ j ih =>
     rcases ih with ⟨k, h1, h2⟩ | h
     . exact .inl ⟨k, by omega, h2⟩
     . by_cases e : cn (d8 R hs n (j + 1)) <= cn (d8 R hs n j)
       . exact .inl ⟨j, by omega, e⟩
       . exact .inr Q.a
 rcases key n with ⟨k, h1, h2⟩ | h
 . have e := (vJ (R := R) (hs := hs) (n := n) k).2 (by have := (vJ (R := R) (hs := hs) (n := n) k).1; omega)
   unfold eV
   rw [← show k + (n + 1 - k) = n + 1 by omega, qN e, ← qN e (n - k), show k + (n - k) = n by omega]
 . have := (LQ (R := R) (hs := hs) hn n).2.1
   omega
theorem fin_same (hn : 1 <= n) (ha : a < n) (hb : b < n) (h : (eV R hs n).getD a 0 = (eV R hs n).getD b 0) : mE R hs a = mE R hs b /\ uo R hs (eV R hs n) a = uo R hs (eV R hs n) b := by
 refine ⟨vI n ha hb h, ?_⟩
 have e := vK (R := R) (hs := hs) hn
 rw [← e, d8] at h
 exact (qM ((pZ ha hb).mp h)).2
end
structure IQ (n : Nat) (r : R7) : Prop where
 a : r.2.2 < n
 b : D.bq r.1 = true
 c : ∀ d ∈ r.1, jb 2 d
 d : ∀ x ∈ r.2.1, jb 2 x.d
 e : r.2.1.length <= 1000
structure tS (R : Q.n) (hs : List Str) (n : Nat) : Prop where
 a : ∀ i, i < n -> ∀ x ∈ hs, ∃ l, eZ R (mq i x) = some l
 b : ∀ q ∈ R, q.2.length <= 100 /\ ∀ r ∈ q.2, IQ n r
 c : (R.map (·.1)).Nodup
 d : R.length <= 1000
 e : hs.length <= 3
 f : 1 <= n /\ n <= 100
 g : ∀ x ∈ hs, PyData.strOk x = true
theorem uq {R : List (bz × α)} {l : α} (h : eZ R k = some l) : (k, l) ∈ R := by
 induction R with
 | nil => cases h
 | cons p R ih =>
   by_cases e : p.1 = k
   . rw [fW e] at h
     cases h
     rw [← e]
     exact ahL
   . rw [fF e] at h
     exact ahP _ (ih h)
variable {R : Q.n} {hs : List Str}
theorem tS.row (h : tS R hs n) (hi : i < n) (hx : x ∈ hs) : eZ R (mq i x) = some (iM R i x) /\ (iM R i x).length <= 100 /\ ∀ r ∈ iM R i x, IQ n r := by
 obtain ⟨l, hl⟩ := h.a i hi x hx
 have e : iM R i x = l := by unfold iM; rw [hl]; rfl
 rw [e]
 exact ⟨hl, h.b _ (uq hl)⟩
variable {l : List R7}
theorem nS (h : eZ R k = some l) : eZ (cR (cg R)) k = some (.lst (l.map fM)) := by
 induction R with
 | nil => cases h
 | cons p R ih =>
   by_cases e : p.1 = k
   . rw [fW e] at h
     cases h
     exact fW (p := (p.1, L3.D.lst (p.2.map fM))) e
   . rw [fF e] at h
     exact (fF (p := (p.1, L3.D.lst (p.2.map fM))) e).trans (ih h)
variable {r : R7}
theorem QC (h : IQ n r) : jb 4 (Ht r) := by
 refine .tup fun d hd => ?_
 simp only [ahT, ah9, aiS] at hd
 rcases hd with rfl | rfl
 . exact .tup h.c
 . refine .tup fun d hd => ?_
   obtain ⟨x, hx, rfl⟩ := ahY.mp hd
   exact h.d x (ajr.mp hx).1
theorem QD (h : IQ n r) : (Ht r).iY = true := by
 show (D.bq r.1 && (D.bq ((r.2.1.filter It.told).map It.d) && true)) = true
 rw [h.b, bR]
 rfl
theorem ur (h : ∀ r ∈ l, IQ n r) : jb 5 (.tup (l.map Ht)) /\ D.bq (l.map Ht) = true := by
 refine ⟨.tup fun d hd => ?_, lq fun d hd => ?_⟩
 . obtain ⟨r, hr, rfl⟩ := ahY.mp hd
   exact QC (h r hr)
 . obtain ⟨r, hr, rfl⟩ := ahY.mp hd
   exact QD (h r hr)
theorem Dc {k : Nat} (h : jb k d) (hm : k <= m) : jb m d := by
 induction h generalizing m with
 | int _ i => exact .int _ i
 | str _ x hx => exact .str _ x hx
 | @tup j ds _ ih =>
   obtain ⟨m, rfl⟩ : ∃ m', m = m' + 1 := ⟨m - 1, by omega⟩
   exact .tup fun d hd => ih d hd Q.a
theorem tS.look (h : tS R hs n) (hi : i < n) : jb 6 (.tup (mE R hs i)) /\ D.bq (mE R hs i) = true := by
 refine ⟨.tup fun d hd => ?_, lq fun d hd => ?_⟩
 . obtain ⟨x, hx, rfl⟩ := ahY.mp hd
   exact (ur (h.row hi hx).2.2).1
 . obtain ⟨x, hx, rfl⟩ := ahY.mp hd
   exact (ur (h.row hi hx).2.2).2
theorem LR (l : List Nat) : jb 1 (.tup ((cN l).map .int)) := .tup fun d hd => by
 obtain ⟨i, _, rfl⟩ := ahY.mp hd
 exact .int 0 i
theorem QF (F : List Nat) (i : Nat) : jb 8 (.tup (AO R hs F i)) := .tup fun d hd => by
 unfold AO at hd
 simp only [ahT, ah9, aiS] at hd
 rcases hd with rfl | rfl
 . exact .int _ _
 . exact Dc (LR _) Q.c
def fcO : L3.D -> L3.D
 | .tup [a, .tup ds, _] => .tup [a, .tup (ds.filter fun d => !decide (d.N8.toS ∈ cM))]
 | d => d
theorem LV (r : R7) : fcO (fM r) = Ht r := by
 show L3.D.tup [.tup r.1, .tup ((r.2.1.map It.d).filter fun d => !decide (d.N8.toS ∈ cM))] = _
 have e : ((fun d : L3.D => !decide (d.N8.toS ∈ cM)) ∘ It.d) = It.told := by
   funext x
   show (!decide (x.sj.w ∈ cM)) = x.told
   rw [uc, Bool.not_not]
 rw [ajU, e]
 rfl
theorem Wo (h : tS R hs n) (hi : i < n) (hx : x ∈ hs) (hF : F.length = n) : ∀ r ∈ iM R i x, rN ((cN F).map L3.D.int) (r.2.2 : Nat) = some (.int (F.getD r.2.2 0 : Nat)) := fun r hr => ly (by rw [hF]; exact ((h.row hi hx).2.2 r hr).a)
theorem QG (a b : List Nat) : cN (a ++ b) = cN a ++ cN b := by unfold cN; rw [ah2]
theorem iC (a : List Nat) : (cN a).length = a.length := by unfold cN; rw [ahK]
theorem jY (l : List Nat) : D.bq ((cN l).map .int) = true := Bb _
theorem adT {ks : List L3.D} (h : ∀ d ∈ ks, jb 8 d) (hl : ks.length <= 1000) : Qi (unq (ks.take j)) where
 n := fun d hd => h d (ajb (cE.mp hd))
 d := LC _
 l := aiD (Fi _) (by rw [ail]; omega)
theorem qO (f : Nat -> Int) : ∀ k, PyProof.Rows.firstMet f k = unq ((List.range k).map f)
 | 0 => rfl
 | k + 1 => by
   rw [PyProof.Rows.firstMet_succ, qO f k, aiX, ah2, List.map_singleton, cW]
   unfold PyProof.Rows.step_dedup
   by_cases h : f k ∈ unq ((List.range k).map f)
   . rw [if_pos h, if_pos (by simpa using h)]
   . rw [if_neg h, if_neg (by simpa using h)]
theorem LW (F : List Nat) : (PyProof.Rows.firstMet (fun i => (cN F).getD i 0) (cN F).length).length = cn F := by
 rw [qO, iC]
 have e : (List.range F.length).map (fun i => (cN F).getD i 0) = cN F := by
   apply ajH
   intro i
   by_cases hi : i < F.length
   . rw [ahU, aiJ hi]
     show some ((cN F).getD i 0) = _
     rw [ahV, ahN (by rw [iC]; exact hi)]
     rfl
   . rw [aiI (by rw [ahK, ah4]; omega), aiI (by rw [iC]; omega)]
 rw [e]
 unfold cn
 have p : tR (cN F) F /\ tR F (cN F) := by
   have at_ : ∀ {i : Nat} {c : Int}, (cN F)[i]? = some c -> ∃ d, F[i]? = some d /\ c = (d : Int) := fun {i c} h => by
     unfold cN at h
     rw [ahU] at h
     obtain ⟨d, h1, h2⟩ := aib.mp h
     exact ⟨d, h1, h2.symm⟩
   refine ⟨⟨iC F, fun i j a b c d ha hb hc hd e => ?_⟩, ⟨(iC F).symm, fun i j a b c d ha hb hc hd e => ?_⟩⟩
   . obtain ⟨a', h1, rfl⟩ := at_ ha
     obtain ⟨b', h2, rfl⟩ := at_ hb
     rw [hc] at h1
     rw [hd] at h2
     cases h1
     cases h2
     omega
   . obtain ⟨c', h1, rfl⟩ := at_ hc
     obtain ⟨d', h2, rfl⟩ := at_ hd
     rw [ha] at h1
     rw [hb] at h2
     cases h1
     cases h2
     rw [e]
 exact (p.1.num p.2).2
theorem QH (R : Q.n) (hs : List Str) (F : List Nat) (a : Nat) : D.bq (AO R hs F a) = true := by
 show (true && (D.bq ((cN (uo R hs F a)).map L3.D.int) && true)) = true
 rw [jY]
 rfl
theorem zv (h : D.bq r.1 = true) : (fM r).iY = true := by
 show (D.bq r.1 && (D.bq (r.2.1.map It.d) && (true && true))) = true
 rw [h, bR]
 rfl
structure zx (bs : List (Str × Int)) (hs : List Str) (bg : List It) (pr : List L3.D) (R : Q.n) : Prop where
 t : tS R hs pr.length
 b : ∀ q ∈ bs, PyData.strOk q.1 = true
 g : ∀ x ∈ bg, jb 2 x.d
 p : ∀ d ∈ pr, jb 3 d
 i : D.bq pr = true
theorem Dd {k : Nat} (h : jb k d) (hk : k <= 59) : jv 59 d := (Dc h hk).dep
theorem LX (h : IQ n r) : jb 4 (fM r) := by
 refine .tup fun d hd => ?_
 simp only [ahT, ah9, aiS] at hd
 rcases hd with rfl | rfl | rfl
 . exact .tup h.c
 . refine .tup fun d hd => ?_
   obtain ⟨x, hx, rfl⟩ := ahY.mp hd
   exact h.d x hx
 . exact .int _ _
variable {bs : List (Str × Int)} {bg : List It}
theorem zx.d0 (h : zx bs hs bg pr R) : jv 60 (.lst (bs.map bJ)) := .lst fun d hd => by
 obtain ⟨q, hq, rfl⟩ := ahY.mp hd
 refine Dd (k := 1) (.tup fun d hd => ?_) Q.c
 simp only [ahT, ah9, aiS] at hd
 rcases hd with rfl | rfl
 . exact .str _ _ (h.b q hq)
 . exact .int _ _
theorem zx.d1 (h : zx bs hs bg pr R) : jv 60 (.lst (hs.map .str)) := .lst fun d hd => by
 obtain ⟨q, hq, rfl⟩ := ahY.mp hd
 exact .str _ _ (h.t.g q hq)
theorem zx.d2 (h : zx bs hs bg pr R) : jv 60 (.tup (bg.map It.d)) := .tup fun d hd => by
 obtain ⟨x, hx, rfl⟩ := ahY.mp hd
 exact Dd (h.g x hx) Q.c
theorem zx.d3 (h : zx bs hs bg pr R) : jv 60 (.lst pr) := .lst fun d hd => Dd (h.p d hd) Q.c
theorem zx.d4 (h : zx bs hs bg pr R) : ∀ q ∈ cR (cg R), jv 60 q.2 := fun q hq => by
 obtain ⟨p, hp, rfl⟩ := ahY.mp hq
 obtain ⟨z, hz, rfl⟩ := ahY.mp hp
 refine .lst fun d hd => ?_
 obtain ⟨r, hr, rfl⟩ := ahY.mp hd
 exact Dd (LX ((h.t.b z hz).2 r hr)) Q.c
theorem aas {a c : L3.D} (h : jv 60 a) (g : jv 60 c) (k : jv 60 d) : ¬ (!rW a a || (!rW c c || !rW d d)) = true := by rw [fV h, fV g, fV k]; decide
theorem aat {a : L3.D} (h : jv 60 a) : ¬ (!rW a a) = true := by rw [fV h]; decide
theorem QI (h : bZ F = F) (hc : F[j]? = some c) : c <= (unq (F.take j)).length /\ max (unq (F.take j)).length (c + 1) = (unq (F.take (j + 1))).length := by
 have e0 : (unq F).idxOf c = c := by
   have e := congrArg (·[j]?) h
   simp only [bZ, ahU, hc] at e
   exact aie e
 have e1 : F.take (j + 1) = F.take j ++ [c] := by rw [aiO, hc]; rfl
 have e2 : (unq (F.take (j + 1))).idxOf c = c := by
   rw [← LD (m := F.drop (j + 1)) (by rw [e1]; simp), aiT]
   exact e0
 rw [e1, cW] at e2 ⊢
 by_cases hm : c ∈ unq (F.take j)
 . rw [ah7 hm] at e2 ⊢
   have := aiA.mpr hm
   rw [e2] at this
   omega
 . rw [ahX hm] at e2 ⊢
   rw [aje, ahX hm, aj5] at e2
   rw [ah1]
   show c <= _ /\ max _ (c + 1) = _ + 1
   omega
theorem lz {α β : Type} {f g : α -> List β} : ∀ {l : List α}, (∀ x ∈ l, (f x).length = (g x).length) -> l.flatMap f = l.flatMap g -> ∀ x ∈ l, f x = g x
 | [], _, _, _, h => by cases h
 | y :: l, hl, e, x, hx => by
   rw [List.flatMap_cons, List.flatMap_cons] at e
   obtain ⟨e1, e2⟩ := List.append_inj e (hl y ahL)
   rcases ahT.mp hx with rfl | hx
   . exact e1
   . exact lz (fun z hz => hl z (ahP _ hz)) e2 x hx
theorem QJ (h : PyData.strOk x = true) (l k : Option Int) : PyData.strOk (Txt.slice x l k) = true := by
 unfold Txt.slice
 split
 . exact h
 . unfold PyData.strOk at *
   rw [List.all_toArray, ajI]
   intro c hc
   obtain ⟨i, _, hi⟩ := List.mem_filterMap.mp hc
   rw [← Array.all_toList, ajI] at h
   exact h c (by rw [← ajp] at hi; exact ah3 hi)
theorem LY {y : Str} (h : PyData.strOk x = true) (g : PyData.strOk y = true) : PyData.strOk (x ++ y) = true := by
 unfold PyData.strOk at *
 show (x.cps ++ y.cps).all _ = true
 rw [Array.all_append, h, g]
 rfl
theorem TV {l : List Str} (h : ∀ x ∈ l, PyData.strOk x = true) (k : Nat) : PyData.strOk (l.getD k Str.empty) = true := by
 rw [ahV]
 cases e : l[k]? with
 | none => show PyData.strOk Str.empty = true; decide +kernel
 | some x => exact h x (ah3 e)
theorem De (s : List Int) : ∀ x ∈ jh s, PyData.strOk x = true := fun x hx => by
 have hb : PyData.strOk (tP s) = true := QJ (zf _) _ _
 have h : x ∈ pW s := by
   unfold jh at hx
   rcases ahZ.mp (ajb hx) with z | z
   . exact List.mem_of_mem_drop z
   . exact ajb z
 unfold pW at h
 simp only [ahT, ah9, aiS] at h
 rcases h with rfl | rfl | rfl
 . exact LY hb Q.b
 . exact LY hb Q.b
 . exact LY hb Q.b
def DeS : pU -> Prop
 | .call x => PyData.strOk x = true
 | .say x _ _ => PyData.strOk x = true
 | .put _ _ _ => True
def ItS : It -> Prop
 | .fS q => DeS q
 | _ => True
theorem vN {a c : Int} : jb (n + 1) (.tup [.int a, .int c]) := .tup fun d hd => by
 simp only [ahT, ah9, aiS] at hd
 rcases hd with rfl | rfl
 . exact .int _ _
 . exact .int _ _
theorem vO {x : It} (h : ItS x) : jb 2 x.d := by
 cases x with
 | out m =>
   show jb 2 (.tup [.str "out", .int m])
   refine .tup fun d hd => ?_
   simp only [ahT, ah9, aiS] at hd
   rcases hd with rfl | rfl
   . exact .str _ _ Q.b
   . exact .int _ _
 | keep m p q =>
   show jb 2 (.tup [.str "keep", .int m, .int p, .int q])
   refine .tup fun d hd => ?_
   simp only [ahT, ah9, aiS] at hd
   rcases hd with rfl | rfl | rfl | rfl
   . exact .str _ _ Q.b
   . exact .int _ _
   . exact .int _ _
   . exact .int _ _
 | way i =>
   show jb 2 (.tup [.str "way", .int i])
   refine .tup fun d hd => ?_
   simp only [ahT, ah9, aiS] at hd
   rcases hd with rfl | rfl
   . exact .str _ _ Q.b
   . exact .int _ _
 | wI m =>
   show jb 2 (.tup [.str "in", .int m])
   refine .tup fun d hd => ?_
   simp only [ahT, ah9, aiS] at hd
   rcases hd with rfl | rfl
   . exact .str _ _ Q.b
   . exact .int _ _
 | fS q =>
   cases q with
   | put x c m =>
     show jb 2 (.tup [.str "put", .int x, .tup [.int c, .int m]])
     refine .tup fun d hd => ?_
     simp only [ahT, ah9, aiS] at hd
     rcases hd with rfl | rfl | rfl
     . exact .str _ _ Q.b
     . exact .int _ _
     . exact vN
   | call y =>
     show jb 2 (.tup [.str "call", .str y])
     refine .tup fun d hd => ?_
     simp only [ahT, ah9, aiS] at hd
     rcases hd with rfl | rfl
     . exact .str _ _ Q.b
     . exact .str _ _ h
   | say y c m =>
     show jb 2 (.tup [.str "say", .str y, .tup [.int c, .int m]])
     refine .tup fun d hd => ?_
     simp only [ahT, ah9, aiS] at hd
     rcases hd with rfl | rfl | rfl
     . exact .str _ _ Q.b
     . exact .str _ _ h
     . exact vN
theorem LZ {c : Int} (h : ∀ x ∈ hh, PyData.strOk x = true) : DeS (tO c m hh) := by
 unfold tO
 split
 . refine TV (fun x hx => ?_) _
   rcases ahZ.mp hx with z | z
   . exact h x z
   . rw [aiw.mp z]; exact zf _
 . split
   . exact zf _
   . exact trivial
theorem Fp {w : Str} {a c d e : Int} (h : PyData.strOk w = true) : jb 2 (.tup [.str w, .tup [.int a, .int c], .tup [.int d, .int e]]) := .tup fun x hx => by
 simp only [ahT, ah9, aiS] at hx
 rcases hx with rfl | rfl | rfl
 . exact .str _ _ h
 . exact vN
 . exact vN
theorem QK : ∀ x ∈ Qq, PyData.strOk x = true := Q.i
def Yq (r : F7) : Prop := (∀ d ∈ r.1, jb 2 d) /\ ∀ x ∈ r.2, ItS x
section
variable {cl : Bool}
theorem TX (h : ∀ x ∈ hh, PyData.strOk x = true) : ∀ r ∈ Hi s p t m hh cl, Yq r := fun r hr => by
 rcases ahZ.mp hr with z | z
 . obtain ⟨k, _, rfl⟩ := ahY.mp z
   refine ⟨fun d hd => ?_, fun x hx => ?_⟩
   . obtain ⟨a, _, rfl⟩ := ahY.mp hd
     exact Fp (TV QK _)
   . obtain ⟨a, _, rfl⟩ := ahY.mp hx
     exact LZ h
 . unfold Wh at z
   split at z
   . rw [aiw.mp z]
     refine ⟨(fun d hd => by cases hd), fun x hx => ?_⟩
     rw [aiw.mp (ajb hx)]
     exact LZ h
   . cases z
theorem L1 (h : ∀ x ∈ hh, PyData.strOk x = true) : ∀ r ∈ lu s p t m hh cl, Yq r := by
 unfold lu
 split
 . exact TX h
 . exact TX h
theorem Fq (h : ∀ x ∈ hh, PyData.strOk x = true) : ∀ r ∈ tu s p t m hh cl, Yq r := fun r hr => by
 unfold tu at hr
 split at hr
 . rename_i ha
   have ha := (aih _ _ ▸ ha).1
   rcases ai5 hr with z | z
   . exact L1 h r z
   . rw [z]
     have hp : 0 < (lu s p t m hh cl).length := by unfold lu; rw [ah7 ha]; exact ud ..
     obtain ⟨a, c⟩ : Yq ((lu s p t m hh cl).getD ((lu s p t m hh cl).length - 1) mD) := L1 h _ (m5 (l := lu s p t m hh cl) Q.a)
     refine ⟨a, fun x hx => ?_⟩
     rcases ahZ.mp hx with z | z
     . exact c x z
     . rw [aiw.mp z]
       show PyData.strOk "odd0" = true
       decide +kernel
 . exact L1 h r hr
theorem Ft : jb 2 (pY t) := Fp Q.b
theorem aau (h : ∀ x ∈ hh, PyData.strOk x = true) : ∀ r ∈ xZ s p t m hh cl, Yq r := fun r hr => by
 unfold xZ tQ at hr
 split at hr
 . split at hr
   . rename_i hl
     rcases ai5 hr with z | z
     . exact Fq h r z
     . rw [z]
       obtain ⟨a, c⟩ : Yq ((tu s p t m hh cl).getD 0 mD) := Fq h _ (m5 (l := tu s p t m hh cl) Q.a)
       refine ⟨fun d hd => ?_, c⟩
       rcases ahT.mp hd with rfl | hd
       . exact Ft
       . exact a d hd
   . rcases ahT.mp hr with z | z
     . rw [z]
       refine ⟨fun d hd => ?_, fun x hx => by cases hx⟩
       rw [aiw.mp hd]
       exact Ft
     . exact Fq h r z
 . exact Fq h r hr
end
theorem aav {l : List It} {to : Nat} (h : ∀ x ∈ l, ItS x) : ∀ x ∈ IL l f n to, ItS x := fun x hx => by
 unfold IL at hx
 split at hx
 . exact h x hx
 . simp only [ahZ, ahT, ah9, aiS] at hx
   rcases hx with ((((rfl | rfl) | z) | rfl) | z) | rfl
   . exact trivial
   . exact trivial
   . exact h x (ajb z)
   . exact trivial
   . exact h x (List.mem_of_mem_drop z)
   . exact trivial
theorem QL {l : List It} {to : Nat} (h : l.length <= 4) : (IL l f n to).length <= 1000 := by
 unfold IL
 split
 . omega
 . rw [ah1, ah1, ah1, ah1, ail, ajy]
   show 2 + _ + 1 + _ + 1 <= 1000
   omega
theorem Df {β : Type} {f : Nat -> β} : ∀ {n : Nat}, (∀ i, i < n -> ∀ j, j < n -> f i = f j -> i = j) -> ((List.range n).map f).Nodup
 | 0, _ => ajn
 | n + 1, h => by
   rw [aiX, ah2, ais]
   refine ⟨Df fun i hi j hj => h i Q.a j Q.a, akm _ _, fun x hx y hy e => ?_⟩
   obtain ⟨i, hi, rfl⟩ := ahY.mp hx
   have hi := aiu.mp hi
   have ey : y = f n := aiw.mp hy
   rw [ey] at e
   have := h i Q.a n Q.a e
   omega
theorem Fv {R : List (bz × α)} (h : k ∈ R.map (·.1)) : ∃ l, eZ R k = some l := by
 induction R with
 | nil => cases h
 | cons p R ih =>
   by_cases e : p.1 = k
   . exact ⟨_, fW e⟩
   . rw [fF e]
     rw [ah6] at h
     rcases ahT.mp h with z | z
     . exact absurd z.symm e
     . exact ih z
theorem aaw (s : List Int) {q : Nat} (h : q <= 100) : 1 <= n7 s q /\ n7 s q <= 100 := by unfold n7; omega
theorem Wq (s : List Int) {q : Nat} (hq : q <= 100) (cl : Bool) : tS (Hr s q cl) (jh s) (n7 s q) := by
 have hb := aaw s hq
 have hl := zm s
 have S9 := C9 s
 have hml : n7 s q * (jh s).length <= 100 * 3 := akj hb.2 hl
 have hbn := Lx s
 have dm : ∀ i, i < n7 s q * (jh s).length -> i / (jh s).length < n7 s q /\ i % (jh s).length < (jh s).length := fun i hi => by
   have hp : 0 < (jh s).length := by
     rcases Nat.eq_zero_or_pos (jh s).length with z | z
     . rw [z, Nat.mul_zero] at hi; omega
     . exact z
   exact ⟨(Nat.div_lt_iff_lt_mul hp).mpr hi, Nat.mod_lt _ hp⟩
 refine ⟨fun i hi x hx => ?_, fun z hz => ?_, ?_, ?_, hl, hb, De s⟩
 . obtain ⟨t, ht⟩ := ai1.mp hx
   have Yr := (ahW.mp ht).1
   have ex : (jh s).getD t Str.empty = x := by rw [ahV, ht]; rfl
   refine Fv ?_
   unfold Hr x6
   rw [aia]
   refine ahY.mpr ⟨i * (jh s).length + t, aiu.mpr ?_, ?_⟩
   . have : (i + 1) * (jh s).length <= n7 s q * (jh s).length := Nat.mul_le_mul_right _ hi
     rw [Nat.add_mul, Nat.one_mul] at this
     omega
   . show mq _ _ = _
     rw [(TJ Yr).1, (TJ Yr).2, ex]
 . unfold Hr x6 at hz
   obtain ⟨i, hi, rfl⟩ := ahY.mp hz
   obtain ⟨d1, d2⟩ := dm i (aiu.mp hi)
   generalize i / (jh s).length = f at d1 ⊢
   generalize i % (jh s).length = t at d2 ⊢
   have wK := Fe s q
   have hk : (rP s q).getD f 0 < wL s := Ly s q _ (m5 Q.a)
   have hix : (rP s q).getD f 0 * 3 + t < 3 * wL s := by omega
   have w4 := Lz (cl := cl) hix
   have eF : (AK s cl).getD ((rP s q).getD f 0 * 3 + t) [] = xZ s (((rP s q).getD f 0 * 3 + t) / 3) (((rP s q).getD f 0 * 3 + t) % 3) (vG s).length (jh s) cl := by rw [ahV, w4]; rfl
   show (IG s (rP s q) f t ((AK s cl).getD ((rP s q).getD f 0 * 3 + t) [])).length <= 100 /\ ∀ r ∈ IG s (rP s q) f t ((AK s cl).getD ((rP s q).getD f 0 * 3 + t) []), IQ (n7 s q) r
   rw [eF]
   have g1 := zk s (((rP s q).getD f 0 * 3 + t) / 3) (((rP s q).getD f 0 * 3 + t) % 3) (vG s).length (jh s) cl
   have g2 := aau (s := s) (p := ((rP s q).getD f 0 * 3 + t) / 3) (t := ((rP s q).getD f 0 * 3 + t) % 3) (m := (vG s).length) (hh := jh s) (cl := cl) (De s)
   have g3 := Lq (s := s) (p := ((rP s q).getD f 0 * 3 + t) / 3) (t := ((rP s q).getD f 0 * 3 + t) % 3) (m := (vG s).length) (hh := jh s) (cl := cl)
   have g4 := zl (s := s) (p := ((rP s q).getD f 0 * 3 + t) / 3) (t := ((rP s q).getD f 0 * 3 + t) % 3) (m := (vG s).length) (hh := jh s) (cl := cl)
   generalize xZ s (((rP s q).getD f 0 * 3 + t) / 3) (((rP s q).getD f 0 * 3 + t) % 3) (vG s).length (jh s) cl = fs at g1 g2 g3 g4 ⊢
   unfold IG Ls
   refine ⟨by rw [ahK, ah4]; omega, fun r hr => ?_⟩
   obtain ⟨i, hi, rfl⟩ := ahY.mp hr
   have hm : fs.getD i mD ∈ fs := m5 (aiu.mp hi)
   exact ⟨by rw [← wK]; exact Wm _ _ _ _ _ Q.a, g4 _ hm, (g2 _ hm).1, fun x hx => vO (aav (g2 _ hm).2 x hx), QL (g3 _ hm).2⟩
 . unfold Hr x6
   rw [aia]
   refine Df fun i hi j hj e => ?_
   have hi := dm i hi
   have hj := dm j hj
   obtain ⟨e1, e2⟩ := uh e
   have e3 := getD_inj S9 hi.2 hj.2 e2
   rw [← ajT i (jh s).length, ← ajT j (jh s).length, e1, e3]
 . unfold Hr x6
   rw [ahK, ah4]
   omega
theorem QM (s : List Int) (a m : Nat) : jb 3 (Lr s a m) := by
 unfold Lr
 refine .tup fun d hd => ?_
 simp only [ahT, ah9, aiS] at hd
 rcases hd with rfl | rfl
 . split
   . refine .tup fun d hd => ?_
     simp only [ahT, ah9, aiS] at hd
     rcases hd with rfl | rfl | rfl
     . exact .int _ _
     . exact .int _ _
     . exact .int _ _
   . exact vN
 . refine .tup fun d hd => ?_
   rcases ahT.mp hd with rfl | hd
   . exact .int _ _
   . rw [akg hd]; exact .int _ _
theorem Fw (s : List Int) (q : Nat) : (TN s q).length = n7 s q := by unfold TN; rw [ahK, ah4]
theorem Wr (s : List Int) {q : Nat} (hq : q <= 100) (cl : Bool) : zx (vG s) (jh s) (TQ s) (TN s q) (Hr s q cl) where
 t := by rw [Fw]; exact Wq s hq cl
 b := fun z hz => by
   obtain ⟨k, hk, rfl⟩ := ahY.mp hz
   have hk := aiu.mp hk
   exact (Fd k Q.a).1.2
 g := fun x hx => by
   unfold TQ at hx
   simp only [ahT, ah9, aiS] at hx
   rcases hx with rfl | rfl | rfl
   . exact vO trivial
   . exact vO trivial
   . exact vO (LZ (De s))
 p := fun d hd => by
   obtain ⟨k, _, rfl⟩ := ahY.mp hd
   exact QM _ _ _
 i := qL fun k _ => Fg _ _ _
theorem nT {α : Type} {t : α} : ∀ (R : List (bz × α)), (i6 k t R).map (·.1) = R.map (·.1)
 | [] => rfl
 | (x, u) :: R => by
   rw [i6]
   split
   . rfl
   . rw [ah6, ah6, nT R]
theorem BH {α : Type} {t : α} : ∀ {R : List (bz × α)}, ∀ q ∈ i6 k t R, q ∈ R \/ q = (k, t)
 | [], q, h => by cases h
 | (x, u) :: R, q, h => by
   rw [i6] at h
   split at h
   . rename_i e
     rcases ahT.mp h with rfl | h
     . exact .inr (by rw [e])
     . exact .inl (ahP _ h)
   . rcases ahT.mp h with rfl | h
     . exact .inl ahL
     . exact (BH q h).imp (ahP _) id
theorem yb : ∀ (R : Q.n), i6 k (T.lst ((l.map fM).map T.sh)) (aJ (cg R)) = aJ (cg (i6 k l R))
 | [] => rfl
 | (x, u) :: R => by
   show i6 k _ ((x, T.lst ((u.map fM).map T.sh)) :: aJ (cg R)) = _
   rw [i6, i6, yb R]
   split
   . rfl
   . rfl
theorem BI : ∀ (R : Q.n), (R.map (·.1)).Nodup -> (aJ (cg R)).map (fun kv => if kv.1 = k then (kv.1, T.lst ((l.map fM).map T.sh)) else kv) = aJ (cg (i6 k l R))
 | [], _ => rfl
 | (x, u) :: R, nd => by
   rw [ah6, aiE] at nd
   show (if x = k then (x, T.lst ((l.map fM).map T.sh)) else (x, T.lst ((u.map fM).map T.sh))) :: (aJ (cg R)).map _ = _
   rw [i6]
   split
   . rename_i e
     have hid : ∀ W : List (bz × List R7), k ∉ W.map (·.1) -> (aJ (cg W)).map (fun kv => if kv.1 = k then (kv.1, T.lst ((l.map fM).map T.sh)) else kv) = aJ (cg W) := by
       intro W
       induction W with
       | nil => intro _; rfl
       | cons p W ih =>
         intro h
         rw [ah6] at h
         show (if p.1 = k then _ else (p.1, T.lst ((p.2.map fM).map T.sh))) :: (aJ (cg W)).map _ = (p.1, T.lst ((p.2.map fM).map T.sh)) :: aJ (cg W)
         rw [ahX fun z => h (by rw [z]; exact ahL), ih fun z => h (ahP _ z)]
     rw [hid R (by rw [← e]; exact nd.1)]
     rfl
   . rw [BI R nd.2]
     rfl
theorem BJ {k : bz} : ∀ {R : Q.n}, eZ R k = some l -> eZ (aJ (cg R)) k = some (.lst ((l.map fM).map T.sh))
 | [], h => by cases h
 | p :: R, h => by
   by_cases e : p.1 = k
   . rw [fW e] at h
     cases h
     exact fW (p := (p.1, T.lst ((p.2.map fM).map T.sh))) e
   . rw [fF e] at h
     exact (fF (p := (p.1, T.lst ((p.2.map fM).map T.sh))) e).trans (BJ h)
theorem tS.more (h : tS R hs n) (hl : l.length <= 100) (hr : ∀ r ∈ l, IQ n r) : tS (i6 k l R) hs n := by
 refine ⟨fun i hi x hx => ?_, fun q hq => ?_, by rw [nT]; exact h.c, ?_, h.e, h.f, h.g⟩
 . obtain ⟨m, hm⟩ := h.a i hi x hx
   exact Fv (by rw [nT]; exact ahY.mpr ⟨_, uq hm, rfl⟩)
 . rcases BH q hq with z | rfl
   . exact h.b q z
   . exact ⟨hl, hr⟩
 . have := congrArg List.length (nT (k := k) (t := l) R)
   rw [ahK, ahK] at this
   rw [this]
   exact h.d
variable {kv : List (bz × T)}
theorem iw (h : tS R hs n) : ∀ q ∈ cg R, D.bq q.2 = true := fun q hq => by
 obtain ⟨p, hp, rfl⟩ := ahY.mp hq
 exact qL fun r hr => zv ((h.b p hp).2 r hr).b
theorem Hu (h : zx bs hs bg pr R) : (BG bs hs bg pr R).clean = true := by
 unfold BG
 rw [T.clean, T.eX, T.eX, T.eX, T.eX, T.eX, T.eX, bB (iL (fun _ => rfl) _), bB (cL _), bB h.i, T.clean, T.clean, sZ (iw h.t), D.iY, bR]
 rfl
theorem Hv (h : zx bs hs bg pr R) : (T.ins "Table" (fG (bs.map bJ) (hs.map .str) (bg.map It.d) pr (cg R))).clean = true := by
 rw [T.clean]
 exact jJ (iL (fun _ => rfl) _) (cL _) (bR _) h.i (iw h.t)
theorem aax (s : List Int) (q : Nat) (cl : Bool) : ∀ z ∈ Hr s q cl, z.2.length <= 5 := fun z hz => by
 have key : ∀ k : Nat, ((AK s cl).getD k []).length <= 5 := fun k => by
   rw [ahV]
   cases e : (AK s cl)[k]? with
   | none => exact aiB _
   | some r =>
     obtain ⟨i, _, rfl⟩ := ahY.mp (ah3 e)
     exact zk ..
 unfold Hr x6 at hz
 obtain ⟨i, _, rfl⟩ := ahY.mp hz
 show (IG _ _ _ _ _).length <= 5
 unfold IG Ls
 rw [ahK, ah4]
 exact key _
theorem yc {F : List Nat} (h : bZ F = F) : ∀ j, j <= F.length -> (List.range j).filter (fun i => decide (F.idxOf (F.getD i 0) = i)) = (List.range (unq (F.take j)).length).map fun c => F.idxOf c
 | 0, _ => rfl
 | j + 1, hj => by
   have hc : F[j]? = some (F.getD j 0) := by rw [ahV, ahN Q.a]; rfl
   obtain ⟨r1, r2⟩ := QI h hc
   have ih := yc h j Q.a
   rw [aiX, List.filter_append, ih]
   have e1 : F.take (j + 1) = F.take j ++ [F.getD j 0] := by rw [aiO, hc]; rfl
   by_cases hm : F.getD j 0 ∈ F.take j
   . have hl : F.idxOf (F.getD j 0) < j := by
       have : F.idxOf (F.getD j 0) = (F.take j).idxOf (F.getD j 0) := by
         conv => lhs; rw [← aiT j F]
         rw [aje, ah7 (by rw [aiT]; exact hm), aiT]
       rw [this]
       have := aiA.mpr hm
       rw [ail] at this
       omega
     rw [e1, cW, ah7 (cE.mpr hm), List.filter_cons_of_neg (by rw [decide_eq_true_iff]; omega), List.filter_nil, aip]
   . have hx : F.idxOf (F.getD j 0) = j := by
       have h1 : (F.take (j + 1)).idxOf (F.getD j 0) = j := by
         rw [e1, aje, ahX hm, aj5, ail]
         omega
       conv => lhs; rw [← aiT (j + 1) F]
       rw [aje, ah7 (by rw [aiT, e1]; simp), aiT]
       exact h1
     have hu : F.getD j 0 ∉ unq (F.take j) := fun z => hm (cE.mp z)
     have hv : F.getD j 0 = (unq (F.take j)).length := by
       rw [e1, cW, ahX hu, ah1] at r2
       have r2 : max (unq (F.take j)).length (F.getD j 0 + 1) = (unq (F.take j)).length + 1 := r2
       omega
     rw [e1, cW, ahX hu, ah1]
     show _ = (List.range ((unq (F.take j)).length + 1)).map _
     rw [aiX, ah2, ← hv, List.filter_cons_of_pos (by rw [decide_eq_true_iff]; exact hx), List.filter_nil]
     show _ = _ ++ [F.idxOf (F.getD j 0)]
     rw [hx]
section
variable (h : bZ F = F)
include h
theorem Dg : (List.range F.length).filter (fun i => decide (F.idxOf (F.getD i 0) = i)) = (List.range (cn F)).map fun c => F.idxOf c := by
 rw [yc h F.length (ah0 _), ai7]
 rfl
theorem su (ha : a < F.length) : F.getD a 0 < cn F := by
 have hm : F.getD a 0 ∈ F := m5 ha
 have hm : F.getD a 0 ∈ bZ F := h.symm ▸ hm
 exact LJ hm
theorem kh (hc : c < cn F) : F.idxOf c < F.length /\ F.getD (F.idxOf c) 0 = c := by
 have hm : c ∈ F := by
   rw [← h]
   exact Fl hc
 have hl := aiA.mpr hm
 refine ⟨hl, ?_⟩
 rw [ahV, ahN hl]
 exact ai8 hl
end
def nU (F : List Nat) (l : List R7) : List R7 := l.map fun r => (r.1, r.2.1.filter It.told, F.getD r.2.2 0)
def eW (R : Q.n) (hs : List Str) (F : List Nat) (n : Nat) : List (bz × List R7) := (List.range n).map fun (i : Nat) => (mq (i / hs.length) (hs.getD (i % hs.length) Str.empty), nU F (iM R (F.idxOf (i / hs.length)) (hs.getD (i % hs.length) Str.empty)))
def jZ (pr : List L3.D) (F : List Nat) : List L3.D := (List.range (cn F)).map fun (c : Nat) => pr.getD (F.idxOf c) .non
theorem L4 (R : Q.n) (hs : List Str) (F : List Nat) (h : t < hs.length) : eW R hs F (j * hs.length + t + 1) = eW R hs F (j * hs.length + t) ++ [(mq j (hs.getD t Str.empty), nU F (iM R (F.idxOf j) (hs.getD t Str.empty)))] := by
 unfold eW
 rw [aiX, ah2, List.map_singleton, (TJ h).1, (TJ h).2]
theorem QN (R : Q.n) (F : List Nat) (nd : hs.Nodup) (h : t < hs.length) : mq j (hs.getD t Str.empty) ∉ (eW R hs F (j * hs.length + t)).map (·.1) := fun hm => by
 unfold eW at hm
 rw [aia] at hm
 obtain ⟨i, hi, e⟩ := ahY.mp hm
 have hi := aiu.mp hi
 obtain ⟨e1, e2⟩ := uh e
 have e3 := getD_inj nd (Nat.mod_lt i Q.a) h e2
 have e1 : i / hs.length = j := e1
 have e3 : i % hs.length = t := e3
 have := ajT i hs.length
 rw [e1, e3, Nat.mul_comm] at this
 omega
theorem dm7 {k H : Nat} : ∀ i, i < k * H -> i / H < k /\ i % H < H := fun i hi => by
 have hp : 0 < H := by
   rcases Nat.eq_zero_or_pos H with z | z
   . rw [z, Nat.mul_zero] at hi; omega
   . exact z
 exact ⟨(Nat.div_lt_iff_lt_mul hp).mpr hi, Nat.mod_lt _ hp⟩
theorem L5 (nd : hs.Nodup) (k : Nat) : ((eW R hs F (k * hs.length)).map (·.1)).Nodup := by
 unfold eW
 rw [aia]
 refine Df fun i hi j hj e => ?_
 have hi := dm7 i hi
 have hj := dm7 j hj
 obtain ⟨e1, e2⟩ := uh e
 have e3 := getD_inj nd hi.2 hj.2 e2
 rw [← ajT i hs.length, ← ajT j hs.length, e1, e3]
theorem zy (nd : hs.Nodup) {k : Nat} (hc : c < k) (ht : t < hs.length) : eZ (eW R hs F (k * hs.length)) (mq c (hs.getD t Str.empty)) = some (nU F (iM R (F.idxOf c) (hs.getD t Str.empty))) := by
 refine E2 (L5 nd k) (j := c * hs.length + t) ?_
 have hi : c * hs.length + t < k * hs.length := by
   have : (c + 1) * hs.length <= k * hs.length := Nat.mul_le_mul_right _ hc
   rw [Nat.add_mul, Nat.one_mul] at this
   omega
 unfold eW
 rw [ahU, aiJ hi]
 show some (mq ((c * hs.length + t) / hs.length) _, nU F (iM R (F.idxOf ((c * hs.length + t) / hs.length)) _)) = _
 rw [(TJ ht).1, (TJ ht).2]
theorem L6 (hx : x ∈ hs) : ∃ t, t < hs.length /\ hs.getD t Str.empty = x := by
 obtain ⟨t, ht⟩ := ai1.mp hx
 exact ⟨t, (ahW.mp ht).1, by rw [ahV, ht]; rfl⟩
theorem zA (nd : hs.Nodup) {k : Nat} (hc : c < k) (hx : x ∈ hs) : iM (eW R hs F (k * hs.length)) c x = nU F (iM R (F.idxOf c) x) := by
 obtain ⟨t, ht, rfl⟩ := L6 hx
 unfold iM
 rw [zy nd hc ht]
 rfl
theorem vP (l : List It) : (l.filter It.told).filter It.told = l.filter It.told := by
 rw [List.filter_filter]
 congr 1
 funext x
 exact Bool.and_self _
theorem tS.least (h : tS R hs n) (nd : hs.Nodup) (hF : bZ F = F) (hl : F.length = n) : tS Q.s hs (cn F) := by
 have f1 := h.f
 have c1 : 1 <= cn F := by
   have := su hF (a := 0) Q.a
   omega
 have c2 : cn F <= n := by
   have := x9 (n := n) F Q.a
   rw [hF] at this
   exact this
 refine ⟨fun i hi x hx => ?_, fun q hq => ?_, L5 nd _, ?_, h.e, ⟨c1, by omega⟩, h.g⟩
 . obtain ⟨t, ht, rfl⟩ := L6 hx
   exact ⟨_, zy nd hi ht⟩
 . unfold eW at hq
   obtain ⟨i, hi, rfl⟩ := ahY.mp hq
   obtain ⟨d1, d2⟩ := dm7 i (aiu.mp hi)
   obtain ⟨a1, _⟩ := kh hF d1
   have hx : hs.getD (i % hs.length) Str.empty ∈ hs := m5 d2
   obtain ⟨_, q2, q3⟩ := h.row (by rw [← hl]; exact a1) hx
   refine ⟨by show (nU _ _).length <= 100; unfold nU; rw [ahK]; exact q2, fun r hr => ?_⟩
   obtain ⟨r0, hr0, rfl⟩ := ahY.mp hr
   have w := q3 r0 hr0
   exact ⟨su hF (by rw [hl]; exact w.a), w.b, w.c, fun x hx => w.d x (ajr.mp hx).1, aiD (aj2 _ _) w.e⟩
 . unfold eW
   rw [ahK, ah4]
   have : cn F * hs.length <= 100 * 3 := akj Q.a h.e
   omega
theorem L7 (nd : hs.Nodup) {k : Nat} (hc : c < k) : mE (eW R hs F (k * hs.length)) hs c = mE R hs (F.idxOf c) := by
 unfold mE
 refine aik fun x hx => ?_
 unfold lkS
 rw [zA nd hc hx]
 unfold nU
 rw [aia]
 congr 1
 refine aik fun r _ => ?_
 show L3.D.tup [.tup r.1, .tup (((r.2.1.filter It.told).filter It.told).map It.d)] = _
 rw [vP]
 rfl
theorem Hw (h : tS R hs n) (nd : hs.Nodup) (hF : F = eV R hs n) (j : Nat) : ∀ {a c : Nat}, a < n -> c < n -> ((d8 Q.s hs (cn F) j).getD (F.getD a 0) 0 = (d8 Q.s hs (cn F) j).getD (F.getD c 0) 0 ↔ (d8 R hs n j).getD a 0 = (d8 R hs n j).getD c 0) := by
 have hn := h.f.1
 have hl : F.length = n := by rw [hF]; exact iB n
 have hN : bZ F = F := by rw [hF]; exact ji n
 have cl : ∀ {a : Nat}, a < n -> F.getD a 0 < cn F := fun ha => su hN (by rw [hl]; exact ha)
 have same : ∀ {a c : Nat}, a < n -> c < n -> F.getD a 0 = F.getD c 0 -> mE R hs a = mE R hs c /\ uo R hs F a = uo R hs F c := fun ha hc e => by
   rw [hF] at e ⊢
   exact fin_same hn ha hc e
 have rep : ∀ {a : Nat}, a < n -> F.idxOf (F.getD a 0) < n /\ F.getD (F.idxOf (F.getD a 0)) 0 = F.getD a 0 := fun ha => by
   have := kh hN (cl ha)
   exact ⟨by rw [← hl]; exact this.1, this.2⟩
 have lkA : ∀ {a : Nat}, a < n -> mE Q.s hs (F.getD a 0) = mE R hs a := fun ha => by
   rw [L7 nd (cl ha)]
   exact (same (rep ha).1 ha (rep ha).2).1
 induction j with
 | zero =>
   intro a c ha hc
   rw [d8, d8, pZ (cl ha) (cl hc), pZ ha hc, lkA ha, lkA hc]
 | succ j ih =>
   intro a c ha hc
   rw [d8, d8, pZ (cl ha) (cl hc), pZ ha hc]
   generalize hG : d8 Q.s hs (cn F) j = G at ih ⊢
   generalize hP : d8 R hs n j = P at ih ⊢
   have led : ∀ {a : Nat}, a < n -> uo Q.s hs G (F.getD a 0) = hs.flatMap fun x => (iM R (F.idxOf (F.getD a 0)) x).map fun r => G.getD (F.getD r.2.2 0) 0 := fun ha => by
     unfold uo
     rw [ajm, ajm]
     congr 1
     refine aik fun x hx => ?_
     rw [zA nd (cl ha) hx]
     unfold nU
     rw [aia]
     rfl
   have cmp : ∀ {a c : Nat}, a < n -> c < n -> mE R hs a = mE R hs c -> ((hs.flatMap fun x => (iM R a x).map fun r => G.getD (F.getD r.2.2 0) 0) = (hs.flatMap fun x => (iM R c x).map fun r => G.getD (F.getD r.2.2 0) 0) ↔ uo R hs P a = uo R hs P c) := fun {a c} ha hc Ys => by
     have aaz := Fo Ys
     have hlen : ∀ x ∈ hs, (iM R a x).length = (iM R c x).length := fun x hx => by
       have := congrArg List.length (aaz x hx)
       simpa using this
     have wM : ∀ x ∈ hs, (((iM R a x).map fun r => G.getD (F.getD r.2.2 0) 0) = ((iM R c x).map fun r => G.getD (F.getD r.2.2 0) 0) ↔ ((iM R a x).map fun r => P.getD r.2.2 0) = (iM R c x).map fun r => P.getD r.2.2 0) := fun x hx => by
       have ra := (h.row ha hx).2.2
       have rc := (h.row hc hx).2.2
       have Ws := hlen x hx
       generalize iM R a x = la at ra Ws ⊢
       generalize iM R c x = lc at rc Ws ⊢
       clear aaz hlen Ys
       induction la generalizing lc with
       | nil => cases lc with
         | nil => exact ⟨fun _ => rfl, fun _ => rfl⟩
         | cons _ _ => cases Ws
       | cons r la ih2 => cases lc with
         | nil => cases Ws
         | cons q lc =>
           have e := ih (ra r ahL).a (rc q ahL).a
           have e2 := ih2 (fun z hz => ra z (List.mem_cons_of_mem _ hz)) lc (fun z hz => rc z (List.mem_cons_of_mem _ hz)) (by simpa using Ws)
           rw [ah6, ah6, ah6, ah6, List.cons.injEq, List.cons.injEq]
           exact ⟨fun ⟨x, y⟩ => ⟨e.mp x, e2.mp y⟩, fun ⟨x, y⟩ => ⟨e.mpr x, e2.mpr y⟩⟩
     constructor
     . intro e
       have := lz (fun x hx => by rw [ahK, ahK]; exact hlen x hx) e
       unfold uo
       rw [ajm, ajm]
       congr 1
       exact aik fun x hx => (wM x hx).mp (this x hx)
     . intro e
       have := lz (fun x hx => by rw [ahK, ahK]; exact hlen x hx) e
       rw [ajm, ajm]
       congr 1
       exact aik fun x hx => (wM x hx).mpr (this x hx)
   have own : ∀ {a : Nat}, a < n -> uo Q.s hs G (F.getD a 0) = hs.flatMap fun x => (iM R a x).map fun r => G.getD (F.getD r.2.2 0) 0 := fun {a} ha => by
     rw [led ha]
     obtain ⟨s1, s2⟩ := same (rep ha).1 ha (rep ha).2
     have hlen : ∀ x ∈ hs, (iM R (F.idxOf (F.getD a 0)) x).length = (iM R a x).length := fun x hx => by
       have := congrArg List.length (Fo s1 x hx)
       simpa using this
     rw [ajm, ajm]
     congr 1
     refine aik fun x hx => ?_
     have e := lz (fun x hx => by rw [ahK, ahK]; exact hlen x hx) s2 x hx
     have := congrArg (List.map fun v => G.getD v 0) e
     rw [aia, aia] at this
     exact this
   constructor
   . intro e
     obtain ⟨e1, e2⟩ := qM e
     have e3 := (ih ha hc).mp e1
     have Ys : mE R hs a = mE R hs c := by rw [← hP] at e3; exact vI j ha hc e3
     rw [own ha, own hc] at e2
     unfold AO
     rw [e3, (cmp ha hc Ys).mp e2]
   . intro e
     obtain ⟨e1, e2⟩ := qM e
     have Ys : mE R hs a = mE R hs c := by rw [← hP] at e1; exact vI j ha hc e1
     have e3 := (ih ha hc).mpr e1
     unfold AO
     rw [e3, own ha, own hc, (cmp ha hc Ys).mpr e2]
theorem Hx (h : tS R hs n) (nd : hs.Nodup) (hF : F = eV R hs n) : eV Q.s hs (cn F) = List.range (cn F) := by
 have hn := h.f.1
 have hl : F.length = n := by rw [hF]; exact iB n
 have hN : bZ F = F := by rw [hF]; exact ji n
 have c2 : cn F <= n := by
   have := x9 (n := n) F Q.a
   rw [hN] at this
   exact this
 have c1 : 1 <= cn F := by
   have := su hN (a := 0) Q.a
   omega
 have st : d8 Q.s hs (cn F) n = eV Q.s hs (cn F) := by
   have e := vK (R := eW R hs F (cn F * hs.length)) (hs := hs) c1
   have := qN (k := cn F) e (n - cn F)
   rw [show cn F + (n - cn F) = n by omega] at this
   exact this
 have inj : ∀ a, a < cn F -> ∀ c, c < cn F -> (eV Q.s hs (cn F)).getD a 0 = (eV Q.s hs (cn F)).getD c 0 -> a = c := fun a ha c hc e => by
   obtain ⟨a1, a2⟩ := kh hN ha
   obtain ⟨b1, b2⟩ := kh hN hc
   have := (Hw h nd hF n (a := F.idxOf a) (c := F.idxOf c) Q.a Q.a).mp (by rw [a2, b2, st]; exact e)
   rw [show d8 R hs n n = F from hF.symm, a2, b2] at this
   exact this
 have hfl := iB (R := eW R hs F (cn F * hs.length)) (hs := hs) (n := cn F) (cn F)
 have Yb := ji (R := eW R hs F (cn F * hs.length)) (hs := hs) (n := cn F) (cn F)
 show d8 _ _ _ _ = _
 generalize hG : d8 Q.s hs (cn F) (cn F) = G at hfl Yb ⊢
 have inj : ∀ a, a < cn F -> ∀ c, c < cn F -> G.getD a 0 = G.getD c 0 -> a = c := fun a ha c hc e => inj a ha c hc (by show (d8 _ _ _ _).getD a 0 = (d8 _ _ _ _).getD c 0; rw [hG]; exact e)
 rw [← Yb, vH hfl]
 have e1 : bZ ((List.range (cn F)).map fun a => G.getD a 0) = bZ ((List.range (cn F)).map fun (a : Nat) => a) := Hs fun a ha c hc => ⟨inj a ha c hc, fun e => by rw [e]⟩
 rw [e1, List.map_id']
 have idn : ∀ m, unq (List.range m) = List.range m := by
   intro m
   induction m with
   | zero => rfl
   | succ m ih =>
     rw [aiX, cW, ih, ahX (by simp)]
 unfold bZ
 rw [idn]
 apply ajH
 intro i
 by_cases hi : i < cn F
 . rw [ahU, aiJ hi]
   show some ((List.range (cn F)).idxOf i) = some i
   congr 1
   have hm : i ∈ List.range (cn F) := aiu.mpr hi
   have := ai8 (aiA.mpr hm)
   rw [akf] at this
   exact this
 . rw [aiI (by rw [ahK, ah4]; omega), aiI (by rw [ah4]; omega)]
theorem BK {k : Nat} (h : c < k) : (List.range k).idxOf c = c := by
 have hm : c ∈ List.range k := aiu.mpr h
 have := ai8 (aiA.mpr hm)
 rw [akf] at this
 exact this
theorem BL (k : Nat) : cn (List.range k) = k := by
 have idn : ∀ m, unq (List.range m) = List.range m := by
   intro m
   induction m with
   | zero => rfl
   | succ m ih =>
     rw [aiX, cW, ih, ahX (by simp)]
 unfold cn
 rw [idn, ah4]
theorem BO (h : tS R hs n) (nd : hs.Nodup) (hF : F = eV R hs n) : eW Q.s hs (List.range (cn F)) (cn F * hs.length) = eW R hs F (cn F * hs.length) := by
 have hl : F.length = n := by rw [hF]; exact iB n
 have hN : bZ F = F := by rw [hF]; exact ji n
 conv => lhs; unfold eW
 conv => rhs; unfold eW
 refine aik fun i hi => ?_
 obtain ⟨d1, d2⟩ := dm7 i (aiu.mp hi)
 have hx : hs.getD (i % hs.length) Str.empty ∈ hs := m5 d2
 have hr := zA (R := R) (F := F) nd d1 hx
 unfold eW at hr
 rw [BK d1, hr]
 congr 1
 unfold nU
 rw [aia]
 refine aik fun r hr0 => ?_
 obtain ⟨a1, _⟩ := kh hN d1
 have w := (h.row (by rw [← hl]; exact a1) hx).2.2 r hr0
 have wl := su hN (a := r.2.2) (by rw [hl]; exact w.a)
 show (r.1, (r.2.1.filter It.told).filter It.told, (List.range (cn F)).getD (F.getD r.2.2 0) 0) = _
 rw [vP, ahV, aiJ wl]
 rfl
theorem Hy (pr : List L3.D) (F : List Nat) : jZ (jZ pr F) (List.range (cn F)) = jZ pr F := by
 unfold jZ
 rw [BL]
 refine aik fun c hc => ?_
 have hc := aiu.mp hc
 rw [BK hc, ahV, ahU, aiJ hc]
 rfl
theorem vQ {y : Nat} (h : y ∈ F) : (cN F)[F.idxOf y]? = some (y : Int) /\ ∀ i, i < F.idxOf y -> (cN F)[i]? ≠ some (y : Int) := by
 have hz : ∀ k, (cN F)[k]? = (F[k]?).map fun (x : Nat) => (x : Int) := fun k => by unfold cN; rw [ahU]
 have hl := aiA.mpr h
 refine ⟨by rw [hz, ahN hl, ai8 hl]; rfl, fun i hi e => ?_⟩
 rw [hz] at e
 obtain ⟨x, h1, h2⟩ := aib.mp e
 have h2 : (x : Int) = (y : Int) := h2
 have hx : x = y := by omega
 rw [hx] at h1
 have : F.idxOf y <= i := by
   have Ko := (ahW.mp h1).1
   have hy := (ahW.mp h1).2
   rcases Nat.lt_or_ge i (F.idxOf y) with z | z
   . exfalso
     have hm : y ∈ F.take (i + 1) := by rw [aiO, h1]; simp
     have e2 : F.idxOf y = (F.take (i + 1)).idxOf y := by
       conv => lhs; rw [← aiT (i + 1) F]
       rw [aje, ah7 hm]
     have h3 := aiA.mpr hm
     rw [ail] at h3
     omega
   . exact z
 omega
theorem uv (h : D.bq pr = true) (F : List Nat) : D.bq (jZ pr F) = true := qL fun c _ => by
 rw [ahV]
 cases e : pr[F.idxOf c]? with
 | none => rfl
 | some d => exact qy h d (ah3 e)
theorem Wt (h : ∀ r ∈ l, IQ n r) : D.bq ((nU F l).map fM) = true := qL fun r hr => by
 obtain ⟨q, hq, rfl⟩ := ahY.mp hr
 exact zv (h q hq).b
theorem Fx {α : Type} {k : bz} {x : α} {l2 : List (bz × α)} : ∀ {l1 : List (bz × α)}, k ∉ l1.map (·.1) -> eZ (l1 ++ (k, x) :: l2) k = some x
 | [], _ => fW rfl
 | p :: l1, h => by
   rw [ah6, ahT, not_or] at h
   rw [aiz, fF fun e => h.1 e.symm, Fx h.2]
theorem Fy {α : Type} {k : bz} {x y : α} {l2 : List (bz × α)} : ∀ {l1 : List (bz × α)}, k ∉ l1.map (·.1) -> i6 k y (l1 ++ (k, x) :: l2) = l1 ++ (k, y) :: l2
 | [], _ => by rw [ajf, i6, ah7 rfl]; rfl
 | p :: l1, h => by
   rw [ah6, ahT, not_or] at h
   obtain ⟨a, u⟩ := p
   rw [aiz, i6, ahX fun e => h.1 e.symm, Fy h.2]
   rfl
def rw0 : L3.D := .tup [.tup [], .tup [], .int 0]
def Dh (q : bz × List L3.D) : bz × List L3.D := (q.1, q.2 ++ [rw0])
variable {z : Addr} {c f : Str} {fs : List (Str × T)} {l : List T} {u : T} {bs hs bg : List L3.D}
theorem sy (h : List.lookup f fs = some (.lst l)) : T.jR [.fld f] (.pin z (.ins c fs)) = some (.lst l) := by
 show (List.lookup f fs).bind (T.jR []) = _
 rw [h]
 rfl
theorem Di (h : List.lookup f fs = some (.lst l)) : T.g6 [.fld f] u (.pin z (.ins c fs)) = .pin z (.ins c (jF f u fs)) := by
 rw [T.g6, show (T.core (.pin z (.ins c fs))).GZ (.fld f) = some (.lst l) from h]
 rfl
theorem lA : List.lookup ("boxes" : Str) (dI bs hs bg pr TR) = some (.lst (bs.map T.sh)) := by
 unfold dI
 rw [je]
theorem lB : List.lookup ("signs" : Str) (dI bs hs bg pr TR) = some (.lst (hs.map T.sh)) := by
 unfold dI
 rw [dR Q.b, je]
theorem lC : List.lookup ("flats" : Str) (dI bs hs bg pr TR) = some (.lst (pr.map T.sh)) := by
 unfold dI
 rw [dR Q.b, dR Q.b, dR Q.b, je]
theorem Hz {x : L3.D} : jF "boxes" (.lst (bs.map T.sh ++ [.sh x])) (dI bs hs bg pr TR) = dI (bs ++ [x]) hs bg pr TR := by
 unfold dI
 rw [nO, ah2]
 rfl
theorem HB {x : L3.D} : jF "signs" (.lst (hs.map T.sh ++ [.sh x])) (dI bs hs bg pr TR) = dI bs (hs ++ [x]) bg pr TR := by
 unfold dI
 rw [bW Q.b, nO, ah2]
 rfl
theorem HC {x : L3.D} : jF "flats" (.lst (pr.map T.sh ++ [.sh x])) (dI bs hs bg pr TR) = dI bs hs bg (pr ++ [x]) TR := by
 unfold dI
 rw [bW Q.b, bW Q.b, bW Q.b, nO, ah2]
 rfl
theorem Dj : T.jR [.fld "rows"] (.pin z (.ins "Table" (dI bs hs bg pr (.dct kv)))) = some (.dct kv) := by
 show (List.lookup ("rows" : Str) (dI bs hs bg pr (.dct kv))).bind (T.jR []) = _
 rw [fL]
 rfl
theorem uw (h : eZ kv k = some (.lst l)) : T.jR [.fld "rows", .key k] (.pin z (.ins "Table" (dI bs hs bg pr (.dct kv)))) = some (.lst l) := by
 show (List.lookup ("rows" : Str) (dI bs hs bg pr (.dct kv))).bind _ = _
 rw [fL]
 show (eZ kv k).bind (T.jR []) = _
 rw [h]
 rfl
theorem Fz (h : eZ kv k = some (.lst l)) : T.g6 [.fld "rows", .key k] u (.pin z (.ins "Table" (dI bs hs bg pr (.dct kv)))) = .pin z (.ins "Table" (dI bs hs bg pr (.dct (i6 k u kv)))) := by
 have e : T.g6 [.key k] u (.dct kv) = .dct (i6 k u kv) := by
   rw [T.g6, show (T.core (.dct kv)).GZ (.key k) = some (.lst l) from h]
   rfl
 have hk : (T.core (.pin z (.ins "Table" (dI bs hs bg pr (.dct kv))))).GZ (.fld "rows") = some (.dct kv) := fL (bs := bs) (hs := hs) (bg := bg) (pr := pr)
 rw [T.g6, hk]
 show T.pin z (.ins "Table" (jF "rows" (T.g6 [.key k] u (.dct kv)) (dI bs hs bg pr (.dct kv)))) = _
 rw [e, BD]
def sA (R : Q.n) (hs : List Str) (a : Nat) : List (bz × List R7) := match hs with
 | [] => R
 | x :: _ => i6 (mq a x) (iM R a x ++ [([], [It.fS (.say "more0" (-1) 5)], a)]) R
theorem QO {p q : T} {ρ : Q.e} : L3.Keeps (some p :: some q :: ρ) [p, q] := fun j y t h => by
 match j, h with
 | 0, h => have e : p = T.pin y t := by simpa using h
           subst e; rfl
 | 1, h => have e : q = T.pin y t := by simpa using h
           subst e; rfl
 | j + 2, h => simp at h
theorem QS {bs : List (Str × Int)} {hs : List Str} {bg : List It} (h : zx bs hs bg pr R) (ha : a < pr.length) (h5 : ∀ q ∈ R, q.2.length <= 5) : zx bs hs bg pr (sA R hs a) := by
 refine ⟨?_, h.b, h.g, h.p, h.i⟩
 have tb := h.t
 unfold sA
 split
 . exact tb
 . rename_i x wU
   obtain ⟨q1, q2, q3⟩ := tb.row ha (ahL (a := x) (l := wU))
   have hl5 : (iM R a x).length <= 5 := h5 _ (uq q1)
   refine tb.more (by rw [ah1]; show _ + 1 <= 100; omega) fun y hy => ?_
   rcases ahZ.mp hy with z | z
   . exact q3 y z
   . rw [aiw.mp z]
     refine ⟨ha, rfl, (fun d hd => by cases hd), fun y hy => ?_, by show 1 <= 1000; decide⟩
     rw [aiw.mp hy]
     exact vO (by show PyData.strOk "more0" = true; decide +kernel)
seal L3.dh L3.N7 L3.bI L3.cU L3.sU L3.Ex L3.JD
abbrev zB : Stmt := top 17
abbrev Dl : Type := Int
def m7 : Dl -> List L3.D := fun c => [.int c]
def m8 : Dl -> Prop := fun c => True
def m9 : Dl -> T := fun c => (.sh (.str (fX c)) : T)
structure Wu (X : Cx) (CL : Q.d) : Prop extends cV X where
 cT : Ln X 0 "cell"
 sC : Ln X 1 "letters"
 b5 : Ln X 2 "mixed"
 ki : Ln X 3 "name"
 TY : Ln X 4 "k"
 bT : Gl X "range"
 bU : X.mg "range" = none
variable {X : Cx} {CL : Q.d}
theorem Wv {b : Bx} (E : Wu X CL) {c} (h : m8 c) :
   aH X CL b zB ["cell", "letters", "mixed", "name", "k"] (m7 c) (m9 c) := by
 dsimp only [aH, m8, m7, m9] at h ⊢
 refine bw E.g E.sC cJ ?_
 refine bw E.g E.b5 (bF (ah (d7 (aS E.cT) (ah aj) ⟨by decide, by decide⟩)) (ah (JF (ah aj) (ah aj) ⟨by decide, by decide, by decide⟩)) Q.c) ?_
 generalize hm0 : c / 12 % 10 ^ (9 : Int).toNat = m0
 have e0 : nm0 c = (m0, tM (m0 % 26)) := by rw [← hm0]; rfl
 have aaB : G9.length = 36 := Q.i
 have m26 := fun m : Int => ait m (show (26 : Int) ≠ 0 by decide)
 have l26 := fun m : Int => aiy m (show (0 : Int) < 26 by decide)
 have m36 := fun m : Int => ait m (show (36 : Int) ≠ 0 by decide)
 have l36 := fun m : Int => aiy m (show (0 : Int) < 36 by decide)
 refine bw E.g E.ki (JN (aS E.sC) (ah (bF (aS E.b5) (ah aj) Q.c)) (by rw [aic]; decide +kernel) (by rw [K9]; exact J2 0 (m26 _) (by have := l26 m0; rw [aaB]; omega))) ?_
 have c0 := ait c (show (12 : Int) ≠ 0 by decide)
 have c1 := aiy c (show (0 : Int) < 12 by decide)
 refine ja E.g E.TY (fun j δ => ∃ o, δ = [some (.sh (.int c)), some (.sh (.str "abcdefghijklmnopqrstuvwxyz0123456789")), some (.sh (.int (jI (m0, tM (m0 % 26)) j).1)), some (.sh (.str (jI (m0, tM (m0 % 26)) j).2)), o])
   (cK E.bU (ah (bF (aS E.cT) (ah aj) Q.c)) Q.a E.bT) ⟨_, rfl⟩ (fun j δ ⟨_, e⟩ => by subst e; exact ahS rfl) ?turn ?fin
 case turn =>
   rintro j d δ hj ⟨o, rfl⟩
   obtain ⟨rfl, CP⟩ := jE hj
   have hnl := Lb (m0, tM (m0 % 26)) j
   have hn0 : (tM (m0 % 26)).length = 1 := rfl
   refine bw E.g E.b5 (bF (ah (bH (ah (jB (aS E.b5) (ah aj) (.inr ⟨by decide, by decide⟩))) (ah aj))) (ah aj) Q.c) ?_
   refine bw E.g E.ki (pN (aS E.ki) (ah (JN (aS E.sC) (ah (bF (aS E.b5) (ah aj) Q.c)) (by rw [aic]; decide +kernel) (by rw [K9]; exact J2 0 (m36 _) (by have := l36 (Qn (jI (m0, tM (m0 % 26)) j).1); unfold Qn at this; rw [aaB]; omega)))) (by rw [aic, hnl, hn0]; show 1 + j + 1 <= _; omega)) (aE ⟨_, rfl⟩)
 case fin =>
   rintro δ ⟨o, rfl⟩
   have hn : (b9 0 (c % 12).toNat).length = (c % 12).toNat := by simp [b9]
   rw [hn]
   have hb : (jI (m0, tM (m0 % 26)) (c % 12).toNat).2 = Ob c := by unfold Ob; rw [e0]
   rw [hb]
   have Yl := EZ c
   refine jQ (J1 (l := w13) (aS E.ki) (qA rfl)).1 (fun hp => ?_) (fun hp => aE ?_)
   . refine cj (pN (aS E.ki) (ah cJ) (by rw [aic]; show _ + 1 <= _; omega)) ?_
     show T.sh _ = T.sh (.str (fX c))
     rw [fX, ah7 (aix hp)]
   refine jQ (J1 (l := w6) (aS E.ki) (qA rfl)).1 (fun hq => ?_) (fun hq => aE ?_)
   . refine cj (pN (aS E.ki) (ah cJ) (by rw [aic]; show _ + 1 <= _; omega)) ?_
     show T.sh _ = T.sh (.str (fX c))
     rw [fX, ahX (aiL hp), ah7 (aix hq)]
   . refine cj (v_ E.ki.1) ?_
     show T.sh _ = T.sh (.str (fX c))
     rw [fX, ahX (aiL hp), ahX (aiL hq)]
theorem nV : mw (au zB) ([("cell", av), ("letters", av), ("mixed", av), ("name", av), ("k", av), ("range", az)]) = true := Q.i
theorem QT : aQ ["cell", "letters", "mixed", "name", "k"] ["cell"] (au zB) := bD
abbrev nW : Stmt := top 15
abbrev nX : Type := List Int × Int
def dw : nX -> List L3.D := fun (ns, j) => [.lst (ns.map .int), .int j]
def dz : nX -> Prop := fun (ns, j) => 0 <= j
def dB : nX -> T := fun (ns, j) => (.sh (.int (bf ns j)) : T)
structure HD (X : Cx) (CL : Q.d) : Prop extends cV X where
 aN : Ln X 0 "script"
 TY : Ln X 1 "k"
 cX : Gl X "len"
 cY : X.mg "len" = none
theorem HF {b : Bx} (E : HD X CL) {cS : nX} (h : dz cS) :
   aH X CL b nW ["script", "k"] (dw cS) (dB cS) := by
 obtain ⟨ns, j⟩ := cS
 dsimp only [aH, dz, dw, dB] at h ⊢
 refine jQ (Zq (aS E.TY) (ah (EA E.cY (aS E.aN) E.cX))).1 (fun hp => ?_) (fun hp => ?_)
 . have e : j < ns.length := by simpa using of_decide_eq_true hp
   refine cj (jA (cu (aS E.aN) (aS E.TY) (Vq h e)) rfl) ?_
   show T.sh _ = T.sh (.int (bf ns j))
   rw [bf, ah7 e]
 . have e : ¬ j < ns.length := by simpa using of_decide_eq_false hp
   refine aE (cj aj ?_)
   show T.sh _ = T.sh (.int (bf ns j))
   rw [bf, ahX e]
theorem qa : mw (au nW) ([("script", av), ("k", av), ("len", az)]) = true := Q.i
theorem Dm : aQ ["script", "k"] ["script", "k"] (au nW) := bD
abbrev ux : Stmt := top 18
abbrev uy : Type := Int × Int
def e9 : uy -> List L3.D := fun (c, s) => [.int c, .int s]
def fc : uy -> Prop := fun (c, s) => True
def fh : uy -> T := fun (c, s) => (.sh (.int (pV c s)) : T)
structure QV (X : Cx) (CL : Q.d) : Prop extends cV X where
 cT : Ln X 0 "cell"
 Ww : Ln X 1 "salt"
 b5 : Ln X 2 "mixed"
theorem QW {b : Bx} (E : QV X CL) {cS : uy} (h : fc cS) :
   aH X CL b ux ["cell", "salt", "mixed"] (e9 cS) (fh cS) := by
 obtain ⟨c, s⟩ := cS
 dsimp only [aH, fc, e9, fh] at h ⊢
 refine bw E.g E.b5 (aC (bF (ah (jB (ah (bH (ah (bF (aS E.cT) (ah aj) Q.c)) (aS E.Ww))) (ah aj) (.inr ⟨by decide, by decide⟩))) (ah aj) Q.c) (t2 := .sh (.int (mx1 c s))) rfl) ?_
 obtain ⟨m0, m1⟩ := aao c s
 refine cj (bF (ah (jB (aS E.b5) (aS E.b5) (.inl ⟨by omega, by omega⟩))) (ah aj) Q.c) rfl
theorem vR : mw (au ux) ([("cell", av), ("salt", av), ("mixed", av)]) = true := Q.i
theorem L8 : aQ ["cell", "salt", "mixed"] ["cell", "salt"] (au ux) := bD
abbrev uz : Stmt := top 22
abbrev zC : Type := List Int
def nY : zC -> List L3.D := fun s => [.lst (s.map .int)]
def n5 : zC -> Prop := fun s => s.length <= 1000
def n6 : zC -> T := fun s => (.lst (((jh s).map .str).map T.sh) : T)
structure QX (X : Cx) (CL : Q.d) : Prop extends cV X where
 aN : Ln X 0 "script"
 gP : Ln X 1 "base"
 b5 : Ln X 2 "mixed"
 bP : Ln X 3 "many"
 dW : Ln X 4 "turn"
 c6 : Ln X 5 "three"
 j3 : Gl X "_law_name"
 aM : Gl X "_law_cell_at"
 bA : Gl X "_law_mixed"
 zE : Fc X CL "_law_name" 1 1 m7 m8 m9
 bK : Fc X CL "_law_cell_at" 1 2 dw dz dB
 d9 : Fc X CL "_law_mixed" 1 2 e9 fc fh
theorem QY {b : Bx} (E : QX X CL) {s} (h : n5 s) :
   aH X CL b uz ["script", "base", "mixed", "many", "turn", "three"] (nY s) (n6 s) := by
 dsimp only [aH, n5, nY, n6] at h ⊢
 have hb : (tP s).length <= 13 := aiD (Txt.slice_le _ _ _) (aap _)
 refine bw E.g E.gP (aC (GO (ah (c_ (bf s 0 / 2) E.zE E.j3 (ai (ah (d7 Q.B (ah aj) ⟨by decide, by decide⟩)) aD) (trivial) rfl)) ((by rw [aic]; have := aap (bf s 0 / 2); omega)) jU (jV (ah aj))) (t2 := .sh (.str (tP s))) rfl) ?_
 refine bw E.g E.b5 (aC (c_ ((bf s 0, 37)) E.d9 E.bA (ai Q.B (ai (ah aj) aD)) (trivial) rfl) (t2 := .sh (.int (TF s))) rfl) ?_
 have l0 := ait (TF s) (b := 8) Q.c
 have l1 := aiy (TF s) (b := 8) Q.c
 refine bw E.g E.bP (aC (jA (cu (cD (jf (yT (l := [2, 3, 1, 3, 2, 3, 1, 0]) rfl) (aq rfl))) (ah (bF (aS E.b5) (ah aj) Q.c)) (rY (0 : Int) (l := [2, 3, 1, 3, 2, 3, 1, 0]) l0 (by show _ < (8 : Int); exact l1))) rfl) (t2 := .sh (.int (nn7 s : Nat))) ?n1) ?_
 case n1 =>
   unfold nn7
   obtain ⟨k, hk⟩ : ∃ k : Nat, TF s % 8 = k := ⟨(TF s % 8).toNat, by omega⟩
   rw [hk] at l1 ⊢
   have : k < 8 := by omega
   rw [aij]
   match k, this with
   | 0, _ => rfl
   | 1, _ => rfl
   | 2, _ => rfl
   | 3, _ => rfl
   | 4, _ => rfl
   | 5, _ => rfl
   | 6, _ => rfl
   | 7, _ => rfl
 have t0 := ait (TF s / 8) (b := 3) Q.c
 refine bw E.g E.dW (aC (bF (ah (d7 (aS E.b5) (ah aj) ⟨by decide, by decide⟩)) (ah aj) Q.c) (t2 := .sh (.int (Lh s : Nat))) (by unfold Lh; rw [ajK t0])) ?_
 refine bw E.g E.c6 (aC (jf (ak (pN (aS E.gP) (ah cJ) ((by rw [aic]; show _ + 1 <= _; omega))) (ak (pN (aS E.gP) (ah cJ) ((by rw [aic]; show _ + 2 <= _; omega))) (ak (pN (aS E.gP) (ah cJ) ((by rw [aic]; show _ + 1 <= _; omega))) aK))) (aq rfl)) (t2 := .lst (((pW s).map .str).map T.sh)) rfl) ?_
 have e1 : cutD ((pW s).map L3.D.str) (some (Lh s : Int)) none ++ cutD ((pW s).map L3.D.str) none (some (Lh s : Int)) = ((pW s).drop (Lh s) ++ (pW s).take (Lh s)).map L3.D.str := by
   rw [qJ rfl, pX rfl, ah2, List.map_drop, ajG]
 refine cj (aC (mP (ds := ((pW s).drop (Lh s) ++ (pW s).take (Lh s)).map L3.D.str) (e1 ▸ cD (t7 (cD (mP (vL E.c6.1) (cL _) (jV (aS E.dW)) jU)) (cD (mP (vL E.c6.1) (cL _) jU (jV (aS E.dW)))) ?i1 ?i2 ?z)) (cL _) jU (jV (aS E.bP))) (t2 := .lst (((jh s).map .str).map T.sh)) ?fin) rfl
 case i1 => rw [qJ rfl, ← List.map_drop]; exact cL _
 case i2 => rw [pX rfl, ← ajG]; exact cL _
 case z =>
   rw [qJ rfl, pX rfl, ajy, ail, ahK, aic]
   show 3 - _ + min _ 3 <= _
   omega
 case fin =>
   rw [pX rfl, ← ajG]
   rfl
theorem gQ : mw (au uz) ([("script", av), ("base", av), ("mixed", av), ("many", av), ("turn", av), ("three", av), ("_law_name", az), ("_law_cell_at", az), ("_law_mixed", az)]) = true := Q.i
theorem Ma : aQ ["script", "base", "mixed", "many", "turn", "three"] ["script"] (au uz) := bD
abbrev uA : Stmt := top 16
abbrev zF : Type := Int
def kO : zF -> List L3.D := fun a => [.int a]
def kP : zF -> Prop := fun a => True
def kQ : zF -> T := fun a => (.sh (.int (gO a)) : T)
structure QZ (X : Cx) (CL : Q.d) : Prop extends cV X where
 cT : Ln X 0 "cell"
 Dn : Ln X 1 "size"
theorem Q0 {b : Bx} (E : QZ X CL) {a} (h : kP a) :
   aH X CL b uA ["cell", "size"] (kO a) (kQ a) := by
 dsimp only [aH, kP, kO, kQ] at h ⊢
 refine jQ (fQ (ah (bF (aS E.cT) (ah aj) Q.c)) (ah aj)).1 (fun hp => ?_) (fun hp => aE ?_)
 . refine cj (yM (ah (bF (ah (d7 (aS E.cT) (ah aj) ⟨by decide, by decide⟩)) (ah aj) Q.c)) (ah aj)) ?_
   show T.sh _ = T.sh (.int (gO a))
   rw [gO, ah7 (aix hp)]
 . have e : ¬ a % 2 = 0 := aiL hp
   refine bw E.g E.Dn (aC (bF (ah (jB (ah (d7 (aS E.cT) (ah aj) ⟨by decide, by decide⟩)) (ah aj) (.inr ⟨by decide, by decide⟩))) (ah (yM (ah (JF (ah aj) (ah aj) ⟨by decide, by decide, by decide⟩)) (ah aj))) Q.c) (t2 := .sh (.int (a / 4 * 48271 % (10 ^ 30 - 1)))) rfl) ?_
   refine jQ (fQ (ah (bF (aS E.cT) (ah aj) Q.c)) (ah aj)).1 (fun hp => ?_) (fun hp => aE ?_)
   . refine cj (v_ E.Dn.1) ?_
     show T.sh _ = T.sh (.int (gO a))
     rw [gO, ahX e, ah7 (aix hp)]
   . refine cj (iZ (aS E.Dn)) ?_
     show T.sh _ = T.sh (.int (gO a))
     rw [gO, ahX e, ahX (aiL hp)]
theorem BP : mw (au uA) ([("cell", av), ("size", av)]) = true := Q.i
theorem Mb : aQ ["cell", "size"] ["cell"] (au uA) := bD
abbrev zG : Stmt := top 19
abbrev zH : Type := Int × Nat
def ng : zH -> List L3.D := fun (c, m) => [.int c, .int (m : Nat)]
def nh : zH -> Prop := fun (c, m) => m <= 1000
def ni : zH -> T := fun (c, m) => (.sh (.tup [.int (Wb c m), .int (Wc c m)]) : T)
structure Wx (X : Cx) (CL : Q.d) : Prop extends cV X where
 cT : Ln X 0 "cell"
 bP : Ln X 1 "many"
 zI : Gl X "_law_small"
 zJ : Fc X CL "_law_small" 1 1 kO kP kQ
theorem Wy {b : Bx} (E : Wx X CL) {cS : zH} (h : nh cS) :
   aH X CL b zG ["cell", "many"] (ng cS) (ni cS) := by
 obtain ⟨c, m⟩ := cS
 dsimp only [aH, nh, ng, ni] at h ⊢
 have h : m <= 1000 := h
 exact cj (aF (ak (yM (ah (bF (aS E.cT) (ah (bH (aS E.bP) (ah aj))) Q.a)) (ah aj)) (ak (c_ (c / ((m : Int) + 1)) E.zJ E.zI (ai (ah (d7 (aS E.cT) (ah (bH (aS E.bP) (ah aj))) (⟨by omega, by omega⟩))) aD) (trivial) rfl) aK)) (aq rfl)) rfl
theorem zK : mw (au zG) ([("cell", av), ("many", av), ("_law_small", az)]) = true := Q.i
theorem Q5 : aQ ["cell", "many"] ["cell", "many"] (au zG) := bD
abbrev zL : Stmt := top 21
abbrev zM : Type := Int × Nat × List Str
def nj : zM -> List L3.D := fun (c, m, hh) => [.int c, .int (m : Nat), .lst (hh.map .str)]
def jK : zM -> Prop := fun (c, m, hh) => m <= 1000 /\ hh.length <= 1000
def nk : zM -> T := fun (c, m, hh) => (.sh (tO c m hh).d : T)
structure Wz (X : Cx) (CL : Q.d) : Prop extends cV X where
 cT : Ln X 0 "cell"
 bP : Ln X 1 "many"
 c6 : Ln X 2 "three"
 Mf : Ln X 3 "way"
 qb : Ln X 4 "rest"
 j3 : Gl X "_law_name"
 cX : Gl X "len"
 iN : Gl X "_law_term"
 zE : Fc X CL "_law_name" 1 1 m7 m8 m9
 cY : X.mg "len" = none
 vS : Fc X CL "_law_term" 2 2 ng nh ni
theorem WB {b : Bx} (E : Wz X CL) {cS : zM} (h : jK cS) :
   aH X CL b zL ["cell", "many", "three", "way", "rest"] (nj cS) (nk cS) := by
 obtain ⟨c, m, hh⟩ := cS
 dsimp only [aH, jK, nj, nk] at h ⊢
 obtain ⟨h, hl⟩ := h
 refine bw E.g E.Mf (bF (aS E.cT) (ah aj) Q.c) ?_
 refine bw E.g E.qb (d7 (aS E.cT) (ah aj) ⟨by decide, by decide⟩) ?_
 show dh X CL b _ _ { nx := _, rt := fun wZ _ => wZ = T.sh (tO c m hh).d, bk := _, ct := _ }
 refine jQ (fQ (aS E.Mf) (ah aj)).1 (fun hp => ?_) (fun hp => aE ?_)
 . rw [show tO c m hh = .call ((hh ++ [fX (c / 5)]).getD (c / 5 % ((hh.length : Int) + 1)).toNat Str.empty) by unfold tO; rw [ah7 (aix hp)]]
   have l0 := ait (c / 5) (b := (hh.length : Int) + 1) Q.a
   have l1 := aiy (c / 5) (b := (hh.length : Int) + 1) Q.a
   have e1 : hh.map L3.D.str ++ [.str (fX (c / 5))] = (hh ++ [fX (c / 5)]).map L3.D.str := by rw [ah2]; rfl
   refine cj (aF (ds := [.str "call", .str ((hh ++ [fX (c / 5)]).getD (c / 5 % ((hh.length : Int) + 1)).toNat Str.empty)]) (ak cJ (ak (jA (cu (ds := (hh ++ [fX (c / 5)]).map L3.D.str) (e1 ▸ cD (t7 (aS E.c6) (cD (jf (ds := [.str (fX (c / 5))]) (ak (c_ (c / 5) E.zE E.j3 (ai (aS E.qb) aD) (trivial) rfl) aK) (aq rfl))) (cL _) rfl (by rw [aic]; simp; omega))) (ah (bF (aS E.qb) (ah (bH (ah (dQ (ahK ..) E.cY (aS E.c6) E.cX)) (ah aj))) Q.a)) (rY Str.empty l0 (by rw [ah1]; exact l1))) rfl) aK)) (aq rfl)) rfl
 have e1 : ¬ c % 5 = 1 := aiL hp
 refine jQ (yO (pB (fQ (aS E.Mf) (ah aj)).1 (fun hb => (pP (fQ (aS E.bP) (ah aj)).1)))) (fun hq => ?_) (fun hq => aE ?_)
 . have e2 : c % 5 = 2 \/ m = 0 := by
     simp at hq
     omega
   rw [show tO c m hh = .say (fX (c / 5)) (Wb (c / 5 / 7) m) (Wc (c / 5 / 7) m) by unfold tO; rw [ahX e1, ah7 e2]]
   exact cj (aF (ak cJ (ak (c_ (c / 5) E.zE E.j3 (ai (aS E.qb) aD) (trivial) rfl) (ak (c_ ((c / 5 / 7, m)) E.vS E.iN (ai (ah (d7 (aS E.qb) (ah aj) ⟨by decide, by decide⟩)) (ai (aS E.bP) aD)) (h) rfl) aK))) (aq rfl)) rfl
 . have e2 : ¬ (c % 5 = 2 \/ m = 0) := by
     simp at hq
     omega
   rw [show tO c m hh = .put (c / 5 % m) (Wb (c / 5 / m) m) (Wc (c / 5 / m) m) by unfold tO; rw [ahX e1, ahX e2]]
   exact cj (aF (ak cJ (ak (bF (aS E.qb) (aS E.bP) Q.a) (ak (c_ ((c / 5 / m, m)) E.vS E.iN (ai (ah (d7 (aS E.qb) (aS E.bP) (⟨by omega, by omega⟩))) (ai (aS E.bP) aD)) (h) rfl) aK))) (aq rfl)) rfl
theorem j4 : mw (au zL) ([("cell", av), ("many", av), ("three", av), ("way", av), ("rest", av), ("_law_name", az), ("len", az), ("_law_term", az)]) = true := Q.i
theorem Q6 : aQ ["cell", "many", "three", "way", "rest"] ["cell", "many", "three"] (au zL) := bD
abbrev FD : Stmt := top 20
abbrev FE : Type := Int × Nat
def uB : FE -> List L3.D := fun (c, m) => [.int c, .int (m : Nat)]
def uC : FE -> Prop := fun (c, m) => m <= 1000
def uD : FE -> T := fun (c, m) => (.sh (akG c m) : T)
structure aaD (X : Cx) (CL : Q.d) : Prop extends cV X where
 cT : Ln X 0 "cell"
 bP : Ln X 1 "many"
 vU : Ln X 2 "mark"
 bA : Gl X "_law_mixed"
 iN : Gl X "_law_term"
 d9 : Fc X CL "_law_mixed" 1 2 e9 fc fh
 vS : Fc X CL "_law_term" 2 2 ng nh ni
theorem aaE {b : Bx} (E : aaD X CL) {cS : FE} (h : uC cS) :
   aH X CL b FD ["cell", "many", "mark"] (uB cS) (uD cS) := by
 obtain ⟨c, m⟩ := cS
 dsimp only [aH, uC, uB, uD] at h ⊢
 have h : m <= 1000 := h
 have l0 := ait (pV c 31) (b := 4) Q.c
 have l1 := aiy (pV c 31) (b := 4) Q.c
 refine bw E.g E.vU (jA (cu (cD (jf (qA (l := Qq) rfl) (aq rfl))) (ah (bF (ah (c_ ((c, 31)) E.d9 E.bA (ai (aS E.cT) (ai (ah aj) aD)) (trivial) rfl)) (ah aj) Q.c)) (rY Str.empty (l := Qq) l0 (by show _ < (4 : Int); exact l1))) rfl) ?_
 exact cj (aF (ak (v_ E.vU.1) (ak (c_ ((c / 3, m)) E.vS E.iN (ai (ah (d7 (aS E.cT) (ah aj) ⟨by decide, by decide⟩)) (ai (aS E.bP) aD)) (h) rfl) (ak (c_ ((c / 7 + 2, m)) E.vS E.iN (ai (ah (bH (ah (d7 (aS E.cT) (ah aj) ⟨by decide, by decide⟩)) (ah aj))) (ai (aS E.bP) aD)) (h) rfl) aK))) (aq rfl)) rfl
theorem vV : mw (au FD) ([("cell", av), ("many", av), ("mark", av), ("_law_mixed", az), ("_law_term", az)]) = true := Q.i
theorem WC : aQ ["cell", "many", "mark"] ["cell", "many"] (au FD) := bD
abbrev zN : Stmt := top 23
abbrev zO : Type := List Int × Nat × Nat × Nat × List Str × Bool
def qP : zO -> List L3.D := fun (s, p, t, m, hh, cl) => [.lst (s.map .int), .int (p : Nat), .int (t : Nat), .int (m : Nat), .lst (hh.map .str), .bl cl]
def kR : zO -> Prop := fun (s, p, t, m, hh, cl) => s.length <= 1000 /\ p <= 100 /\ t <= 100 /\ m <= 1000 /\ hh.length <= 1000
def qQ : zO -> T := fun (s, p, t, m, hh, cl) => (.lst (((Hi s p t m hh cl).map sq).map T.sh) : T)
structure WD (X : Cx) (CL : Q.d) : Prop extends cV X where
 aN : Ln X 0 "script"
 gP : Ln X 1 "base"
 WG : X.env.kindOf "base" = some .cell
 dW : Ln X 2 "turn"
 bP : Ln X 3 "many"
 zP : X.env.kindOf "many" = some .cell
 c6 : Ln X 4 "three"
 Q7 : X.env.kindOf "three" = some .cell
 nq : Ln X 5 "closed"
 cT : Ln X 6 "cell"
 Mg : X.env.kindOf "cell" = some .cell
 b5 : Ln X 7 "mixed"
 bC : Ln X 8 "rows"
 TY : Ln X 9 "k"
 k_k : X.env.kindOf "k" = some .cell
 vW : Ln X 10 "asks"
 gR : Ln X 11 "deeds"
 aM : Gl X "_law_cell_at"
 pG : Gl X "max"
 cX : Gl X "len"
 bA : Gl X "_law_mixed"
 bT : Gl X "range"
 cF : Gl X "tuple"
 nu : Gl X "_law_deed"
 bK : Fc X CL "_law_cell_at" 1 2 dw dz dB
 pH : X.mg "max" = none
 cY : X.mg "len" = none
 d9 : Fc X CL "_law_mixed" 1 2 e9 fc fh
 bU : X.mg "range" = none
 bV : X.mg "tuple" = none
 zQ : Fc X CL "_law_deed" 3 3 nj jK nk
 aaF : Fc X CL "_law_ask" 3 2 uB uC uD
theorem WH {b : Bx} (E : WD X CL) {cS : zO} (h : kR cS) :
   aH X CL b zN ["script", "base", "turn", "many", "three", "closed", "cell", "mixed", "rows", "k", "asks", "deeds"] (qP cS) (qQ cS) := by
 obtain ⟨s, p, t, m, hh, cl⟩ := cS
 dsimp only [aH, kR, qP, qQ] at h ⊢
 obtain ⟨T3, hp0, ht0, hm, hl⟩ := h
 have hg := Wd s
 have i0 := ait ((p : Int) * 3 + (t : Int)) (b := Hh s) Q.a
 refine bw E.g E.cT (aC (c_ (s, ((p : Int) * 3 + (t : Int)) % Hh s) E.bK E.aM (ai (aS E.aN) (ai (ah (bF (ah (bH (ah (jB (aS E.gP) (ah aj) (.inr ⟨by decide, by decide⟩))) (aS E.dW))) (ah (ED E.g E.pH E.pG (ai (ah aj) (ai (ah (dQ (ahK ..) E.cY (aS E.aN) E.cX)) aD)))) (show 0 < Hh s by omega))) aD)) i0 rfl) (t2 := .sh (.int (Od s p t))) rfl) ?_
 refine bw E.g E.b5 (aC (c_ ((Od s p t, 41 + (p : Int) * 7 + (t : Int))) E.d9 E.bA (ai (aS E.cT) (ai (ah (bH (ah (bH (ah aj) (ah (jB (aS E.gP) (ah aj) (.inr ⟨by decide, by decide⟩))))) (aS E.dW))) aD)) (trivial) rfl) (t2 := .sh (.int (BE s p t))) rfl) ?_
 show dh X CL b _ _ { nx := _, rt := fun wZ _ => wZ = T.lst (((Hi s p t m hh cl).map sq).map T.sh), bk := _, ct := _ }
 unfold Hi
 have e1 : ∀ n, Yo s p t m hh n = (List.range n).map fun (k : Nat) => (Wf (Od s p t) (BE s p t) m k, Wg (Od s p t) (BE s p t) p m hh k) := fun n => rfl
 have e2 : Wh s p t m hh cl = if (cl || decide (BE s p t / 24 % 2 = 0)) = true then [([], [It.fS (tO (Od s p t + (p : Int)) m hh)].take (BE s p t / 48 % 2).toNat)] else [] := rfl
 generalize Od s p t = c at e1 e2 ⊢
 generalize BE s p t = x at e1 e2 ⊢
 have k0 := ait x (b := 4) Q.c
 have k1 := aiy x (b := 4) Q.c
 have a0 := ait (x / 4) (b := 2) Q.c
 have a1 := aiy (x / 4) (b := 2) Q.c
 have d0 := ait (x / 8) (b := 3) Q.c
 have d1 := aiy (x / 8) (b := 3) Q.c
 have q0 := ait (x / 48) (b := 2) Q.c
 refine bw E.g E.bC (mK fB (aiB _)) ?_
 refine ja E.g E.TY (fun j δ => ∃ (o9 yd Mh : Option T), δ = [some (.sh (.lst (s.map .int))), some (.sh (.int (p : Nat))), some (.sh (.int (t : Nat))), some (.sh (.int (m : Nat))), some (.sh (.lst (hh.map .str))), some (.sh (.bl cl)), some (.sh (.int c)), some (.sh (.int x)), some (.lst (((Yo s p t m hh j).map sq).map T.sh)), o9, yd, Mh]) (cK E.bU (ah (bF (aS E.b5) (ah aj) Q.c)) Q.a E.bT) ⟨_, _, _, by rw [e1]; rfl⟩ (fun j δ ⟨_, _, _, e⟩ => by subst e; exact ahS rfl) ?turn ?fin
 case turn =>
   rintro j d δ hj ⟨o9, yd, Mh, rfl⟩
   obtain ⟨rfl, CP⟩ := jE hj
   rw [aiK]
   have hjn : j < 4 := by omega
   refine mU (p := fun _ => true) (gg := fun d => T.sh (akG (c / (d.rO + 2) + 5 * (j : Int)) m)) E.g E.vW (bO (.cons E.cT.1 (.inl E.Mg) (.cons E.TY.1 (.inl E.k_k) (.cons E.bP.1 (.inl E.zP) .nil))) Q.b) (cK E.bU (ah (bH (ah aj) (ah (bF (ah (d7 (aS E.b5) (ah aj) ⟨by decide, by decide⟩)) (ah aj) Q.c)))) Q.a E.bT) (.inr rfl) (fun C s0 H0 f0 b' d hd => ?WK) (ajh (gD (by simp [b9]; omega))) ?Mi (by exact ahS rfl) (iK ⟨_, rfl⟩)
   case WK =>
     obtain ⟨a, ha, rfl⟩ := fZ hd
     exact ⟨rfl, fun _ => (c_ ((c / ((a : Int) + 2) + 5 * (j : Int), m)) (f7 E.aaF) (dO Q.b) (ai (ah (bH (ah (d7 (ah (v_ (cz (i := 1) rfl Q.b))) (ah (bH Q.u (ah aj))) (⟨by omega, by omega⟩))) (ah (jB (ah aj) (ah (v_ (cz (i := 2) rfl Q.b))) (.inl ⟨by decide, by decide⟩))))) (ai (ah (v_ (cz (i := 3) rfl Q.b))) aD)) (hm) rfl)⟩
   case Mi =>
   rw [gG (f := fun (a : Nat) => akG (c / ((a : Int) + 2) + 5 * (j : Int)) m) (1 + x / 4 % 2) (fun a => by rw [aiK]; rfl)]
   refine mU (p := fun _ => true) (gg := fun d => T.sh (It.fS (tO (c / (d.rO + 1) + 3 * (j : Int) + (p : Int)) m hh)).d) E.g E.gR (bO (.cons E.gP.1 (.inl E.WG) (.cons E.cT.1 (.inl E.Mg) (.cons E.TY.1 (.inl E.k_k) (.cons E.bP.1 (.inl E.zP) (.cons E.c6.1 (.inl E.Q7) .nil))))) Q.b) (cK E.bU (ah (bF (ah (d7 (aS E.b5) (ah aj) ⟨by decide, by decide⟩)) (ah aj) Q.c)) Q.a E.bT) (.inr rfl) (fun C s0 H0 f0 b' d hd => ?Mj) (ajh (gD (by simp [b9]; omega))) ?Ml (by exact ahS rfl) (iK ⟨_, rfl⟩)
   case Mj =>
     obtain ⟨a, ha, rfl⟩ := fZ hd
     exact ⟨rfl, fun _ => aC (c_ ((c / ((a : Int) + 1) + 3 * (j : Int) + (p : Int), m, hh)) (f7 E.zQ) (dO Q.b) (ai (ah (bH (ah (bH (ah (d7 (ah (v_ (cz (i := 2) rfl Q.b))) (ah (bH Q.u (ah aj))) (⟨by omega, by omega⟩))) (ah (jB (ah aj) (ah (v_ (cz (i := 3) rfl Q.b))) (.inl ⟨by decide, by decide⟩))))) (ah (v_ (cz (i := 1) rfl Q.b))))) (ai (ah (v_ (cz (i := 4) rfl Q.b))) (ai (ah (v_ (cz (i := 5) rfl Q.b))) aD))) (by dsimp only [jK]; exact (⟨hm, hl⟩)) (qI _)) rfl⟩
   case Ml =>
   rw [gG (f := fun (a : Nat) => (It.fS (tO (c / ((a : Int) + 1) + 3 * (j : Int) + (p : Int)) m hh)).d) (x / 8 % 3) (fun a => by rw [aiK]; rfl)]
   have hA : ((List.range (1 + x / 4 % 2).toNat).map fun (a : Nat) => akG (c / ((a : Int) + 2) + 5 * (j : Int)) m) = Wf c x m j := rfl
   have hD : ((List.range (x / 8 % 3).toNat).map fun (a : Nat) => (It.fS (tO (c / ((a : Int) + 1) + 3 * (j : Int) + (p : Int)) m hh)).d) = (Wg c x p m hh j).map It.d := by unfold Wg; rw [aia]; rfl
   rw [hA, hD]
   have hlen : (((Yo s p t m hh j).map sq).map T.sh).length <= 1000000 := by rw [ahK, ahK, e1, ahK, ah4]; omega
   refine xP E.bC.1 rfl (aF (ds := [.tup (Wf c x m j), .tup ((Wg c x p m hh j).map It.d)]) (ak (dF E.bV (vL E.vW.1) (E4 c x m j) E.cF) (ak (dF E.bV (vL E.gR.1) (bR _) E.cF) aK)) (aq rfl)) rfl hlen (aE ?_)
   rw [e1 (j + 1), Qs, ← e1 j]
   exact ⟨_, _, _, rfl⟩
 case fin =>
   rintro δ ⟨o9, yd, Mh, rfl⟩
   rw [show (b9 0 (x % 4).toNat).length = (x % 4).toNat by simp [b9]]
   obtain ⟨R, hR⟩ : ∃ R, R = Yo s p t m hh (x % 4).toNat := ⟨_, rfl⟩
   have hRl : R.length <= 4 := by rw [hR, e1, ahK, ah4]; omega
   rw [← hR]
   refine jQ (yO (pB (jT (v_ E.nq.1)) (fun _ => pP ((fQ (ah (bF (ah (d7 (aS E.b5) (ah aj) ⟨by decide, by decide⟩)) (ah aj) Q.c)) (ah aj)).1)))) (fun hp => ?_) (fun hp => aE ?_)
   . rw [ah7 hp] at e2
     refine bw E.g E.gR (aC (jf (ds := [(It.fS (tO (c + (p : Int)) m hh)).d]) (ak (aC (c_ ((c + (p : Int), m, hh)) E.zQ E.nu (ai (ah (bH (aS E.cT) (aS E.gP))) (ai (aS E.bP) (ai (aS E.c6) aD))) (by dsimp only [jK]; exact (⟨hm, hl⟩)) (qI _)) (t2 := .sh (It.fS (tO (c + (p : Int)) m hh)).d) rfl) aK) (aq rfl)) (t2 := .lst (([It.fS (tO (c + (p : Int)) m hh)].map It.d).map T.sh)) rfl) ?_
     have e3 : cutD ([It.fS (tO (c + (p : Int)) m hh)].map It.d) none (some (x / 48 % 2)) = ([It.fS (tO (c + (p : Int)) m hh)].take (x / 48 % 2).toNat).map It.d := by rw [pX (ajK q0).symm, ajG]
     refine xP E.bC.1 rfl (aF (ds := [.tup [], .tup (([It.fS (tO (c + (p : Int)) m hh)].take (x / 48 % 2).toNat).map It.d)]) (ak (aF (ds := []) aK (aq rfl)) (ak (dF E.bV (pF (cD (mP (vL E.gR.1) (bR _) jU (jV (ah (bF (ah (d7 (aS E.b5) (ah aj) ⟨by decide, by decide⟩)) (ah aj) Q.c))))) (congrArg L3.D.lst e3)) (bR _) E.cF) aK)) (aq rfl)) rfl (by rw [ahK, ahK]; omega) (aE ?_)
     refine cj (vM E.bC.1) ?_
     show T.lst _ = T.lst _
     rw [e2, ah2, ah2]
     rfl
   . rw [ahX (by rw [hp]; exact ah8)] at e2
     refine cj (vM E.bC.1) ?_
     show T.lst _ = T.lst _
     rw [e2, aip]
theorem b7 : mw (au zN) ([("script", av), ("base", .cell), ("turn", av), ("many", .cell), ("three", .cell), ("closed", av), ("cell", .cell), ("mixed", av), ("rows", av), ("k", .cell), ("asks", av), ("deeds", av), ("_law_cell_at", az), ("max", az), ("len", az), ("_law_mixed", az), ("range", az), ("tuple", az), ("_law_deed", az)]) = true := Q.i
theorem Q8 : aQ ["script", "base", "turn", "many", "three", "closed", "cell", "mixed", "rows", "k", "asks", "deeds"] ["script", "base", "turn", "many", "three", "closed"] (au zN) := bD
abbrev uE : Stmt := top 24
abbrev uF : Type := List Int × Nat × Nat × List Str × Bool
def n9 : uF -> List L3.D := fun (s, n, m, hh, cl) => [.lst (s.map .int), .int (n : Nat), .int (m : Nat), .lst (hh.map .str), .bl cl]
def oh : uF -> Prop := fun (s, n, m, hh, cl) => s.length <= 1000 /\ n <= 100 /\ m <= 1000 /\ hh.length <= 1000
def oi : uF -> T := fun (s, n, m, hh, cl) => (.lst ((B8 s m hh cl (3 * n)).map tD) : T)
structure Q9 (X : Cx) (CL : Q.d) : Prop extends cV X where
 aN : Ln X 0 "script"
 jj : Ln X 1 "bases"
 bP : Ln X 2 "many"
 c6 : Ln X 3 "three"
 nq : Ln X 4 "closed"
 uG : Ln X 5 "alike"
 j5 : Ln X 6 "faces"
 gP : Ln X 7 "base"
 dW : Ln X 8 "turn"
 bC : Ln X 9 "rows"
 zR : Ln X 10 "never"
 bA : Gl X "_law_mixed"
 aM : Gl X "_law_cell_at"
 bT : Gl X "range"
 tE : Gl X "_law_face"
 cX : Gl X "len"
 d9 : Fc X CL "_law_mixed" 1 2 e9 fc fh
 bK : Fc X CL "_law_cell_at" 1 2 dw dz dB
 bU : X.mg "range" = none
 Mm : Fc X CL "_law_face" 4 6 qP kR qQ
 cY : X.mg "len" = none
theorem Ra {b : Bx} (E : Q9 X CL) {cS : uF} (h : oh cS) :
   aH X CL b uE ["script", "bases", "many", "three", "closed", "alike", "faces", "base", "turn", "rows", "never"] (n9 cS) (oi cS) := by
 obtain ⟨s, n, m, hh, cl⟩ := cS
 dsimp only [aH, oh, n9, oi] at h ⊢
 obtain ⟨T3, hn, hm, hl⟩ := h
 have iT : ∀ (x : L3.D) (l : List It), x.iY = true -> (L3.D.tup (l.map It.d)).iY = true := fun _ l _ => bR l
 refine bw E.g E.uG (aC (fQ (ah (bF (ah (c_ ((bf s 0, 47)) E.d9 E.bA (ai Q.B (ai (ah aj) aD)) (trivial) rfl)) (ah aj) Q.c)) (ah aj)).2 (t2 := .sh (.bl (zg s))) rfl) ?_
 refine bw E.g E.j5 (aC (mK fB (aiB _)) (t2 := .lst ((B8 s m hh cl 0).map tD)) rfl) ?_
 refine ja E.g E.gP (fun p δ => ∃ (o7 o8 o9 yd : Option T), δ = [some (.sh (.lst (s.map .int))), some (.sh (.int (n : Nat))), some (.sh (.int (m : Nat))), some (.sh (.lst (hh.map .str))), some (.sh (.bl cl)), some (.sh (.bl (zg s))), some (.lst ((B8 s m hh cl (3 * p)).map tD)), o7, o8, o9, yd]) (cK E.bU (aS E.jj) Q.a E.bT) ⟨_, _, _, _, rfl⟩ (fun j δ ⟨_, _, _, _, e⟩ => by subst e; exact ahS rfl) ?turn ?fin
 case fin =>
   rintro δ ⟨o7, o8, o9, yd, rfl⟩
   rw [show (b9 0 (n : Int).toNat).length = n by simp [b9]]
   exact cj (vM E.j5.1) rfl
 case turn =>
 rintro p d δ hj ⟨o7, o8, o9, yd, rfl⟩
 obtain ⟨rfl, CP⟩ := jE hj
 rw [aiK]
 have hpn : p < n := by omega
 refine ja E.g E.dW (fun t δ => ∃ (o8 o9 yd : Option T), δ = [some (.sh (.lst (s.map .int))), some (.sh (.int (n : Nat))), some (.sh (.int (m : Nat))), some (.sh (.lst (hh.map .str))), some (.sh (.bl cl)), some (.sh (.bl (zg s))), some (.lst ((B8 s m hh cl (3 * p + t)).map tD)), some (.sh (.int (p : Nat))), o8, o9, yd]) (cK E.bU (ah aj) Q.a E.bT) ⟨_, _, _, rfl⟩ (fun j δ ⟨_, _, _, e⟩ => by subst e; exact ahS rfl) ?qR ?fin2
 case fin2 =>
   rintro δ ⟨o8, o9, yd, rfl⟩
   exact aE ⟨_, _, _, _, rfl⟩
 case qR =>
 rintro t d δ hj ⟨o8, o9, yd, rfl⟩
 obtain ⟨rfl, ag5⟩ := jE hj
 rw [aiK]
 have ht3 : t < 3 := by
   have : (3 : Int).toNat = 3 := rfl
   omega
 refine bw E.g E.bC (aC (c_ ((s, p, t, m, hh, cl)) E.Mm E.tE (ai (aS E.aN) (ai (aS E.gP) (ai (aS E.dW) (ai (aS E.bP) (ai (aS E.c6) (ai (aS E.nq) aD)))))) (by dsimp only [kR]; exact (⟨T3, by omega, by omega, hm, hl⟩)) (sr uf)) (t2 := tD (Hi s p t m hh cl)) rfl) ?_
 refine xO (fun δ => δ = [some (.sh (.lst (s.map .int))), some (.sh (.int (n : Nat))), some (.sh (.int (m : Nat))), some (.sh (.lst (hh.map .str))), some (.sh (.bl cl)), some (.sh (.bl (zg s))), some (.lst ((B8 s m hh cl (3 * p + t)).map tD)), some (.sh (.int (p : Nat))), some (.sh (.int (t : Nat))), some (tD (lu s p t m hh cl)), yd]) (jT (v_ E.uG.1)) (fun hp => ?_) (fun hp => ?_) ?_
 . refine bw E.g E.bC (aC (c_ ((s, 0, t, m, hh, true)) E.Mm E.tE (ai (aS E.aN) (ai (ah aj) (ai (aS E.dW) (ai (aS E.bP) (ai (aS E.c6) (ai (ah SY) aD)))))) (by dsimp only [kR]; exact (⟨T3, by omega, by omega, hm, hl⟩)) (sr uf)) (t2 := tD (lu s p t m hh cl)) (by unfold lu; rw [if_pos hp]; rfl)) (aE rfl)
 . exact aE (by unfold lu; rw [ahX (by rw [hp]; exact ah8)]; rfl)
 rintro δ rfl
 have i1 := ug (s := s) (p := p) (t := t) (m := m) (hh := hh) (cl := cl)
 have n1 := zj s p t m hh cl
 have q1 := C7 (s := s) (p := p) (t := t) (m := m) (hh := hh) (cl := cl)
 have p1 : zg s = true -> 0 < (lu s p t m hh cl).length := fun ha => by unfold lu; rw [ah7 ha]; exact ud ..
 refine xO (fun δ => δ = [some (.sh (.lst (s.map .int))), some (.sh (.int (n : Nat))), some (.sh (.int (m : Nat))), some (.sh (.lst (hh.map .str))), some (.sh (.bl cl)), some (.sh (.bl (zg s))), some (.lst ((B8 s m hh cl (3 * p + t)).map tD)), some (.sh (.int (p : Nat))), some (.sh (.int (t : Nat))), some (tD (tu s p t m hh cl)), yd]) (yO (JK (jT (v_ E.uG.1)) (fun _ => Ez (fQ (aS E.gP) (ah aj)).1))) (fun hp => ?_) (fun hp => ?_) ?_
 . have AI : (zg s && decide (p = 0)) = true := by
     rw [aih] at hp ⊢
     exact ⟨hp.1, ai0 (by have := aix hp.2; omega)⟩
   rw [show tu s p t m hh cl = Hl t (lu s p t m hh cl) by unfold tu; rw [ah7 AI]]
   have Bu := p1 (aih _ _ ▸ AI).1
   generalize lu s p t m hh cl = R at i1 n1 q1 Bu ⊢
   have w4 : rN (R.map sq) (-1) = some (sq (R.getD (R.length - 1) mD)) := by
     rw [Wi (by rw [ahK]; exact Bu), ahU, ahK, ahV, ahN Q.a]
     rfl
   have him : D.bq (R.getD (R.length - 1) mD).1 = true := by
     rw [ahV, ahN Q.a]
     exact i1 _ (ajl _)
   have e1 : (Hl t R).map sq = (R.map sq).set (R.length - 1) (.tup [.tup (R.getD (R.length - 1) mD).1, .tup ((R.getD (R.length - 1) mD).2.map It.d ++ [(Hj t).d])]) := by
     unfold Hl
     rw [List.map_set]
     show _ = (R.map sq).set (R.length - 1) _
     congr 1
     show L3.D.tup [_, .tup (((R.getD (R.length - 1) mD).2 ++ [Hj t]).map It.d)] = _
     rw [ah2]
     rfl
   have hsm := q1 _ (m5 (l := R) (k := R.length - 1) (z := mD) Q.a)
   generalize hq : R.getD (R.length - 1) mD = q at w4 him e1 hsm
   refine JZ E.bC.1 (aF (ds := [.tup q.1, .tup (q.2.map It.d ++ [(Hj t).d])]) (ak (jA (gJ (cu (vL E.bC.1) (ah (iZ (ah aj))) w4) (ah aj) (aO (j := 0) rfl)) him) (ak (kM (ds := q.2.map It.d) (pD := [(Hj t).d]) (jA (gJ (cu (vL E.bC.1) (ah (iZ (ah aj))) w4) (ah aj) (aO (j := 1) rfl)) (bR _)) (aC (aF (ak (aF (ak cJ (ak cJ (ak (aF (ak (iZ (ah aj)) (ak (v_ E.dW.1) aK)) (aq rfl)) aK))) (aq rfl)) aK) (aq rfl)) rfl) ?z) aK)) (aq rfl)) (ah (iZ (ah aj))) rfl (j := R.length - 1) ?ix (aE ?eq)
   case z => rw [aic, ahK]; have := hsm.2; show _ + 1 <= _; omega
   case ix => rw [ahK, ahK]; exact E6 Bu
   case eq =>
     show _ = [_, _, _, _, _, _, _, _, _, some (T.lst (((Hl t R).map sq).map T.sh)), _]
     rw [e1, List.map_set]
     rfl
 . have AI : ¬ (zg s && decide (p = 0)) = true := by
     intro h
     rw [aih] at h
     have : (zg s && decide ((p : Int) = 0)) = true := by rw [aih]; exact ⟨h.1, ai0 (by have := aix h.2; omega)⟩
     rw [this] at hp
     cases hp
   rw [show tu s p t m hh cl = lu s p t m hh cl by unfold tu; rw [ahX AI]]
   exact aE rfl
 rintro δ rfl
 have i3 := qK (s := s) (p := p) (t := t) (m := m) (hh := hh) (cl := cl)
 have n3 := E5 s p t m hh cl
 have q3 := C8 (s := s) (p := p) (t := t) (m := m) (hh := hh) (cl := cl)
 refine xO (fun δ => ∃ yd, δ = [some (.sh (.lst (s.map .int))), some (.sh (.int (n : Nat))), some (.sh (.int (m : Nat))), some (.sh (.lst (hh.map .str))), some (.sh (.bl cl)), some (.sh (.bl (zg s))), some (.lst ((B8 s m hh cl (3 * p + t)).map tD)), some (.sh (.int (p : Nat))), some (.sh (.int (t : Nat))), some (tD (xZ s p t m hh cl)), yd]) (yO (JK (jT (v_ E.uG.1)) (fun _ => Ez (fQ (aS E.gP) (ah aj)).1))) (fun hp => ?_) (fun hp => ?_) ?_
 . have AI : (zg s && decide (p = 1)) = true := by
     rw [aih] at hp ⊢
     exact ⟨hp.1, ai0 (by have := aix hp.2; omega)⟩
   rw [show xZ s p t m hh cl = tQ t (tu s p t m hh cl) by unfold xZ; rw [ah7 AI]]
   generalize tu s p t m hh cl = R at i3 n3 q3 ⊢
   refine bw E.g E.zR (aC (aF (ak cJ (ak (aF (ak (iZ (ah aj)) (ak (v_ E.dW.1) aK)) (aq rfl)) (ak (aF (ak (iZ (ah aj)) (ak (v_ E.dW.1) aK)) (aq rfl)) aK))) (aq rfl)) (t2 := .sh (pY t)) rfl) ?_
   refine jQ (S6 (ah (dQ (ahK ..) E.cY (vE E.bC.1 rfl (Lk R)) E.cX)) (ah aj)).1 (fun hq => ?_) (fun hq => ?_)
   . have hq : 1 < R.length := by have := aix hq; omega
     have w4 : rN (R.map sq) 0 = some (sq (R.getD 0 mD)) := rY mD Q.a Q.a
     have him : D.bq (R.getD 0 mD).1 = true := by
       rw [ahV, ahN Q.a]
       exact i3 _ (ajl _)
     have e1 : (tQ t R).map sq = (R.map sq).set 0 (.tup [.tup ([pY t] ++ (R.getD 0 mD).1), .tup ((R.getD 0 mD).2.map It.d)]) := by
       unfold tQ
       rw [ah7 hq, List.map_set]
       rfl
     have hsm := q3 _ (m5 (l := R) (k := 0) (z := mD) Q.a)
     generalize hq : R.getD 0 mD = q at w4 him e1 hsm
     refine JZ E.bC.1 (aF (ds := [.tup ([pY t] ++ q.1), .tup (q.2.map It.d)]) (ak (kM (ds := [pY t]) (pD := q.1) (aC (aF (ds := [pY t]) (ak (v_ E.zR.1) aK) (aq rfl)) rfl) (jA (gJ (cu (vE E.bC.1 rfl (Lk R)) (ah aj) w4) (ah aj) (aO (j := 0) rfl)) him) ?z) (ak (jA (gJ (cu (vE E.bC.1 rfl (Lk R)) (ah aj) w4) (ah aj) (aO (j := 1) rfl)) (bR _)) aK)) (aq rfl)) (ah aj) rfl (j := 0) ?ix (aE (aE ⟨some (.sh (pY t)), ?eq⟩))
     case z => rw [aic]; have := hsm.1; show 1 + _ <= _; omega
     case ix => rw [ahK, ahK]; exact J3 Q.a Q.a
     case eq =>
       show _ = [_, _, _, _, _, _, _, _, _, some (T.lst (((tQ t R).map sq).map T.sh)), _]
       rw [e1, List.map_set]
       rfl
   . have hq : ¬ 1 < R.length := by have := aiL hq; omega
     have e1 : (tQ t R).map sq = [.tup [.tup [pY t], .tup []]] ++ R.map sq := by unfold tQ; rw [ahX hq]; rfl
     refine bw E.g E.bC (aC (t7 (ds := [.tup [.tup [pY t], .tup []]]) (pD := R.map sq) (cD (jf (ds := [.tup [.tup [pY t], .tup []]]) (ak (aF (ds := [.tup [pY t], .tup []]) (ak (aF (ds := [pY t]) (ak (v_ E.zR.1) aK) (aq rfl)) (ak (aF (ds := []) aK (aq rfl)) aK)) (aq rfl)) aK) (aq rfl))) (vE E.bC.1 rfl (Lk R)) rfl (qL fun q hq => Li q (i3 q hq)) (by rw [aic, ahK]; show 1 + _ <= _; omega)) (t2 := tD (tQ t R)) (by unfold tD; rw [e1])) (aE (aE ⟨_, rfl⟩))
 . have AI : ¬ (zg s && decide (p = 1)) = true := by
     intro h
     rw [aih] at h
     have : (zg s && decide ((p : Int) = 1)) = true := by rw [aih]; exact ⟨h.1, ai0 (by have := aix h.2; omega)⟩
     rw [this] at hp
     cases hp
   rw [show xZ s p t m hh cl = tu s p t m hh cl by unfold xZ; rw [ahX AI]]
   exact aE ⟨_, rfl⟩
 rintro δ ⟨yd, rfl⟩
 have hlen : ((B8 s m hh cl (3 * p + t)).map tD).length <= 1000000 := by unfold B8; rw [ahK, ahK, ah4]; omega
 refine xP E.j5.1 rfl (vM E.bC.1) rfl hlen (aE ?_)
 rw [show 3 * p + (t + 1) = 3 * p + t + 1 by omega, Lj s m hh cl p t ht3]
 exact ⟨_, _, _, rfl⟩
theorem cZ : mw (au uE) ([("script", av), ("bases", av), ("many", av), ("three", av), ("closed", av), ("alike", av), ("faces", av), ("base", av), ("turn", av), ("rows", av), ("never", av), ("_law_mixed", az), ("_law_cell_at", az), ("range", az), ("_law_face", az), ("len", az)]) = true := Q.i
theorem Mp : aQ ["script", "bases", "many", "three", "closed", "alike", "faces", "base", "turn", "rows", "never"] ["script", "bases", "many", "three", "closed"] (au uE) := bD
abbrev zS : Stmt := top 25
abbrev zT : Type := List Int × List Nat × Nat × Nat × Nat
def qS : zT -> List L3.D := fun (s, ks, f, t, r) => [.lst (s.map .int), .lst ((cN ks).map .int), .int (f : Nat), .int (t : Nat), .int (r : Nat)]
def qT : zT -> Prop := fun (s, ks, f, t, r) => s.length <= 1000 /\ f < ks.length /\ ks.length <= 1000 /\ t <= 100 /\ r <= 100
def qU : zT -> T := fun (s, ks, f, t, r) => (.sh (.int (Hq s ks f t r : Nat)) : T)
structure WL (X : Cx) (CL : Q.d) : Prop extends cV X where
 aN : Ln X 0 "script"
 iD : Ln X 1 "kinds"
 Rb : X.env.kindOf "kinds" = some .cell
 gy : Ln X 2 "flat"
 dW : Ln X 3 "turn"
 ny : Ln X 4 "row"
 jj : Ln X 5 "bases"
 b5 : Ln X 6 "mixed"
 vX : Ln X 7 "wanted"
 Mq : X.env.kindOf "wanted" = some .cell
 aT : Ln X 8 "found"
 pG : Gl X "max"
 bA : Gl X "_law_mixed"
 aM : Gl X "_law_cell_at"
 bT : Gl X "range"
 cX : Gl X "len"
 gA : Gl X "list"
 pH : X.mg "max" = none
 d9 : Fc X CL "_law_mixed" 1 2 e9 fc fh
 bK : Fc X CL "_law_cell_at" 1 2 dw dz dB
 bU : X.mg "range" = none
 cY : X.mg "len" = none
 gB : X.mg "list" = none
theorem WM {b : Bx} (E : WL X CL) {cS : zT} (h : qT cS) :
   aH X CL b zS ["script", "kinds", "flat", "turn", "row", "bases", "mixed", "wanted", "found"] (qS cS) (qU cS) := by
 obtain ⟨s, ks, f, t, r⟩ := cS
 dsimp only [aH, qT, qS, qU] at h ⊢
 obtain ⟨T3, hf, hk, ht, hr⟩ := h
 have Ke : ks ≠ [] := fun z => by subst z; cases hf
 obtain ⟨m1, m2⟩ := Wj Ke
 have w4 := ly hf
 have lk : ((cN ks).map L3.D.int).length = ks.length := by unfold cN; rw [ahK, ahK]
 refine bw E.g E.jj (bH (ah (ua E.g E.pH (aS E.iD) m1 m2 E.pG)) (ah aj)) ?_
 have j0 : (0 : Int) <= ((ks.getD f 0 : Nat) : Int) + (t : Int) + (r : Int) := by omega
 have nb : 0 < ((mC ks : Nat) : Int) + 1 := by omega
 refine bw E.g E.b5 (c_ ((bf s (((ks.getD f 0 : Nat) : Int) + (t : Int) + (r : Int)), 53)) E.d9 E.bA (ai (ah (c_ ((s, ((ks.getD f 0 : Nat) : Int) + (t : Int) + (r : Int))) E.bK E.aM (ai (aS E.aN) (ai (ah (bH (ah (bH (cu (aS E.iD) (aS E.gy) (w4)) (aS E.dW))) (aS E.ny))) aD)) (j0) rfl)) (ai (ah aj) aD)) (trivial) rfl) ?_
 refine bw E.g E.vX (bF (aS E.b5) (aS E.jj) (nb)) ?_
 refine xO (fun δ => δ = [some (.sh (.lst (s.map .int))), some (.sh (.lst ((cN ks).map .int))), some (.sh (.int (f : Nat))), some (.sh (.int (t : Nat))), some (.sh (.int (r : Nat))), some (.sh (.int (((mC ks : Nat) : Int) + 1))), some (.sh (.int (pV (bf s (((ks.getD f 0 : Nat) : Int) + (t : Int) + (r : Int))) 53))), some (.sh (.int (TH s ks f t r))), none]) (fQ (ah (bF (ah (c_ ((bf s 0, 47)) E.d9 E.bA (ai Q.B (ai (ah aj) aD)) (trivial) rfl)) (ah aj) Q.c)) (ah aj)).1 (fun hp => ?_) (fun hp => ?_) ?_
 . have t0 := ait ((t : Int) + (r : Int)) (b := 3) Q.c
   have t1 := aiy ((t : Int) + (r : Int)) (b := 3) Q.c
   refine bw E.g E.vX (aC (bF (ah (bH (ah (ic (v_ E.iD.1) (aS E.gy) w4)) (cu (cD (jf (yT (l := [1, 0, 2]) rfl) (aq rfl))) (ah (bF (ah (bH (aS E.dW) (aS E.ny))) (ah aj) Q.c)) (rY (0 : Int) (l := [1, 0, 2]) t0 (by show _ < (3 : Int); exact t1))))) (aS E.jj) nb) (t2 := .sh (.int (TH s ks f t r))) ?_) (aE rfl)
   unfold TH
   rw [ah7 (show zg s = true from hp)]
 . refine aE ?_
   unfold TH
   rw [ahX (by rw [show zg s = false from hp]; exact ah8)]
   rfl
 rintro δ rfl
 unfold Hq
 generalize TH s ks f t r = w
 have ef : (((b9 0 (ks.length : Int).toNat).filter fun d => decide (((ks.getD d.rO.toNat 0 : Nat) : Int) = w)).map fun d => T.sh (.int d.rO)) = ((cN (Oe ks w)).map L3.D.int).map T.sh := by
   unfold Oe cN b9
   rw [aij, ajU, aia, aia, aia]
   have e1 : ((fun d : L3.D => decide (((ks.getD d.rO.toNat 0 : Nat) : Int) = w)) ∘ fun (k : Nat) => L3.D.int (0 + (k : Int))) = fun (k : Nat) => decide (((ks.getD k 0 : Nat) : Int) = w) := by
     funext k
     show decide (((ks.getD (0 + (k : Int)).toNat 0 : Nat) : Int) = w) = _
     rw [aiK, aij]
   rw [e1]
   exact aik fun k _ => by show T.sh (.int (0 + (k : Int))) = _; rw [aiK]; rfl
 refine mU (p := fun d => decide (((ks.getD d.rO.toNat 0 : Nat) : Int) = w)) (gg := fun d => T.sh (.int d.rO)) E.g E.aT (bO (.cons E.iD.1 (.inl E.Rb) (.cons E.vX.1 (.inl E.Mq) .nil)) Q.b) (cK E.bU (ah (dQ lk E.cY (aS E.iD) E.cX)) Q.a E.bT) (.inr rfl) (fun C s0 H0 f0 b' d hd => ?wM) (by simp [b9, aic]; omega) ?rest (by exact ahS rfl) (iK ⟨_, rfl⟩)
 case wM =>
   obtain ⟨a, ha, rfl⟩ := fZ hd
   have ha : a < ks.length := by omega
   exact ⟨(fQ (cu (ah (v_ (cz (i := 1) rfl Q.b))) Q.u (ly ha)) (ah (v_ (cz (i := 2) rfl Q.b)))).1, fun _ => aC (v_ (cy (i := 0) rfl Q.b)) rfl⟩
 case rest =>
 rw [ef]
 have lf : (cN (Oe ks w)).length <= 1000 := by unfold cN Oe; rw [ahK]; refine aiD (aj2 _ _) ?_; rw [ah4]; exact hk
 refine xO (fun δ => δ = [some (.sh (.lst (s.map .int))), some (.sh (.lst ((cN ks).map .int))), some (.sh (.int (f : Nat))), some (.sh (.int (t : Nat))), some (.sh (.int (r : Nat))), some (.sh (.int (((mC ks : Nat) : Int) + 1))), some (.sh (.int (pV (bf s (((ks.getD f 0 : Nat) : Int) + (t : Int) + (r : Int))) 53))), some (.sh (.int w)), some (.lst (((cN (Ho ks w)).map .int).map T.sh))]) (JY E.u (d1 := .lst ((cN (Oe ks w)).map .int)) (d2 := .lst (([] : List Int).map .int)) (vL E.aT.1) (cD (mK fB (aiB _))) (.lst fun d hd => by obtain ⟨i, _, rfl⟩ := ahY.mp hd; exact .int 59 i) (.lst fun d hd => by cases hd)).1 (fun hp => ?_) (fun hp => ?_) ?_
 . rw [Bj] at hp
   have hp : cN (Oe ks w) = [] := aix hp
   have hp : Oe ks w = [] := by unfold cN at hp; exact List.map_eq_nil_iff.mp hp
   refine bw E.g E.aT (aC (Kq E.g E.gB E.bU (ah (dQ lk E.cY (aS E.iD) E.cX)) hk E.gA E.bT) (t2 := .lst (((cN (Ho ks w)).map .int).map T.sh)) (by unfold Ho; rw [ah7 hp]; rfl)) (aE rfl)
 . rw [Bj] at hp
   have hp : ¬ cN (Oe ks w) = [] := aiL hp
   refine aE ?_
   unfold Ho
   rw [ahX fun z => hp (by rw [z]; rfl)]
   rfl
 rintro δ rfl
 have Bu := E8 ks w Q.a
 have hl7 : ((cN (Ho ks w)).map L3.D.int).length = (Ho ks w).length := by unfold cN; rw [ahK, ahK]
 generalize Ho ks w = F at Bu hl7 ⊢
 obtain ⟨z0, z1⟩ := E9 (x := pV (bf s (f : Nat)) (59 + (t : Int) * 5 + (r : Int))) Bu
 have hx := ly z1
 rw [ajK z0] at hx
 have f0 : (0 : Int) <= (f : Int) := by omega
 exact cj (jA (cu (vL E.aT.1) (ah (bF (ah (c_ ((bf s (f : Nat), 59 + (t : Int) * 5 + (r : Int))) E.d9 E.bA (ai (ah (c_ ((s, (f : Int))) E.bK E.aM (ai (aS E.aN) (ai (aS E.gy) aD)) (f0) rfl)) (ai (ah (bH (ah (bH (ah aj) (ah (jB (aS E.dW) (ah aj) (.inr ⟨by decide, by decide⟩))))) (aS E.ny))) aD)) (trivial) rfl)) (ah (dQ hl7 E.cY (vL E.aT.1) E.cX)) Q.a)) hx) rfl) rfl
theorem eo : mw (au zS) ([("script", av), ("kinds", .cell), ("flat", av), ("turn", av), ("row", av), ("bases", av), ("mixed", av), ("wanted", .cell), ("found", av), ("max", az), ("_law_mixed", az), ("_law_cell_at", az), ("range", az), ("len", az), ("list", az)]) = true := Q.i
theorem Rc : aQ ["script", "kinds", "flat", "turn", "row", "bases", "mixed", "wanted", "found"] ["script", "kinds", "flat", "turn", "row"] (au zS) := bD
abbrev qV : Stmt := top 26
abbrev qW : Type := List It × Nat × Nat × Nat
def lD : qW -> List L3.D := fun (l, f, n, to) => [.tup (l.map It.d), .int (f : Nat), .int (n : Nat), .int (to : Nat)]
def lE : qW -> Prop := fun (l, f, n, to) => l.length <= 1000
def lF : qW -> T := fun (l, f, n, to) => (.sh (.tup ((IL l f n to).map It.d)) : T)
structure Mr (X : Cx) (CL : Q.d) : Prop extends cV X where
 gR : Ln X 0 "deeds"
 gy : Ln X 1 "flat"
 ez : Ln X 2 "number"
 Ms : Ln X 3 "to"
 FG : Ln X 4 "ahead"
theorem Mt {b : Bx} (E : Mr X CL) {cS : qW} (h : lE cS) :
   aH X CL b qV ["deeds", "flat", "number", "to", "ahead"] (lD cS) (lF cS) := by
 obtain ⟨l, f, n, to⟩ := cS
 dsimp only [aH, lE, lD, lF] at h ⊢
 have hl : l.length <= 1000 := h
 show dh X CL b _ _ { nx := _, rt := fun wZ _ => wZ = T.sh (.tup ((IL l f n to).map It.d)), bk := _, ct := _ }
 refine jQ (fQ (ah (bF (aS E.gy) (ah aj) Q.c)) (ah aj)).1 (fun hp => ?_) (fun hp => aE ?_)
 . have hp : f % 3 = 0 := by have := aix hp; omega
   unfold IL
   rw [ah7 hp]
   exact cj (v_ E.gR.1) rfl
 . have hp : ¬ f % 3 = 0 := by have := aiL hp; omega
   unfold IL
   rw [ahX hp]
   have c1 : cutD (l.map It.d) none (some 1) = (l.take 1).map It.d := by rw [pX (z := 1) (k := 1) rfl, ajG]
   have c2 : cutD (l.map It.d) (some 1) none = (l.drop 1).map It.d := by rw [qJ (z := 1) (k := 1) rfl, List.map_drop]
   have n1 : ((l.take 1).map It.d).length <= 1 := by rw [ahK, ail]; omega
   have n2 : ((l.drop 1).map It.d).length <= 1000 := by rw [ahK, ajy]; omega
   refine bw E.g E.FG (kM (ds := [(It.out ((f : Int) + 1)).d, (It.keep 0 (-1) ((f : Int) + 1)).d]) (pD := (l.take 1).map It.d) (aC (aF (ak (aF (ak cJ (ak (bH (aS E.gy) (ah aj)) aK)) (aq rfl)) (ak (aF (ak cJ (ak aj (ak (iZ (ah aj)) (ak (bH (aS E.gy) (ah aj)) aK)))) (aq rfl)) aK)) (aq rfl)) rfl) (c1 ▸ vA (v_ E.gR.1) jU (jV (ah aj))) (by rw [aic]; show 2 + _ <= _; omega)) ?_
   refine cj (aC (kM (pD := [(It.wI ((to : Int) + 1)).d]) (kM (pD := (l.drop 1).map It.d) (kM (pD := [(It.way (n : Nat)).d]) (v_ E.FG.1) (aC (aF (ak (aF (ak cJ (ak (v_ E.ez.1) aK)) (aq rfl)) aK) (aq rfl)) rfl) ?z1) (c2 ▸ vA (v_ E.gR.1) (jV (ah aj)) jU) ?z2) (aC (aF (ak (aF (ak cJ (ak (bH (aS E.Ms) (ah aj)) aK)) (aq rfl)) aK) (aq rfl)) rfl) ?z3) ?e) rfl
   case z1 => rw [aic, ah1]; show 2 + _ + 1 <= _; omega
   case z2 => rw [aic, ah1, ah1]; show 2 + _ + 1 + _ <= _; omega
   case z3 => rw [aic, ah1, ah1, ah1]; show 2 + _ + 1 + _ + 1 <= _; omega
   case e => simp only [ah2]; rfl
theorem kT : mw (au qV) ([("deeds", av), ("flat", av), ("number", av), ("to", av), ("ahead", av)]) = true := Q.i
theorem HG : aQ ["deeds", "flat", "number", "to", "ahead"] ["deeds", "flat", "number", "to"] (au qV) := bD
abbrev zU : Stmt := top 27
abbrev zV : Type := List Int × Nat × Nat
def qX : zV -> List L3.D := fun (s, a, m) => [.lst (s.map .int), .int (a : Nat), .int (m : Nat)]
def nA : zV -> Prop := fun (s, a, m) => m <= 1000 /\ a <= 1000
def qY : zV -> T := fun (s, a, m) => (.sh (Lr s a m) : T)
structure WN (X : Cx) (CL : Q.d) : Prop extends cV X where
 aN : Ln X 0 "script"
 sE : Ln X 1 "at"
 bP : Ln X 2 "many"
 qZ : Ln X 3 "memory"
 bA : Gl X "_law_mixed"
 aM : Gl X "_law_cell_at"
 cF : Gl X "tuple"
 d9 : Fc X CL "_law_mixed" 1 2 e9 fc fh
 bK : Fc X CL "_law_cell_at" 1 2 dw dz dB
 bV : X.mg "tuple" = none
theorem WO {b : Bx} (E : WN X CL) {cS : zV} (h : nA cS) :
   aH X CL b zU ["script", "at", "many", "memory"] (qX cS) (qY cS) := by
 obtain ⟨s, a, m⟩ := cS
 dsimp only [aH, nA, qX, qY] at h ⊢
 obtain ⟨hm, ha⟩ := h
 refine xO (fun δ => δ = [some (.sh (.lst (s.map .int))), some (.sh (.int (Qu s a : Nat))), some (.sh (.int (m : Nat))), none]) (fQ (ah (bF (ah (c_ ((bf s 0, 71)) E.d9 E.bA (ai Q.B (ai (ah aj) aD)) (trivial) rfl)) (ah aj) Q.c)) (ah aj)).1 (fun hp => ?_) (fun hp => ?_) ?_
 . have hp : pV (bf s 0) 71 % 4 = 0 := aix hp
   exact bw E.g E.sE (aC (bF (aS E.sE) (ah aj) Q.c) (t2 := .sh (.int (Qu s a : Nat))) (by unfold Qu; rw [ah7 hp]; rfl)) (aE rfl)
 . have hp : ¬ pV (bf s 0) 71 % 4 = 0 := aiL hp
   exact aE (by unfold Qu; rw [ahX hp]; rfl)
 rintro δ rfl
 unfold Lr mm7
 generalize Qu s a = q
 refine bw E.g E.qZ (aC (PL (ds := [.int (-1)]) (k := (m : Int) + 1) (cD (jf (ak (iZ (ah aj)) aK) (aq rfl))) (ah (bH (aS E.bP) (ah aj))) rfl Q.a Q.a (by rw [aic]; show 1 * _ <= _; omega)) (t2 := .lst ((List.replicate (m + 1) (L3.D.int (-1))).map T.sh)) ?r) ?_
 case r =>
   rw [show ((m : Int) + 1).toNat = m + 1 by omega]
   refine congrArg (fun z => T.lst (List.map T.sh z)) ?_
   generalize m + 1 = k
   induction k with
   | zero => rfl
   | succ k ih => rw [aiZ, ajv, ih]; rfl
 have q0 : (0 : Int) <= (q : Int) := by omega
 have nb : 0 < ((m : Int) + 1) := by omega
 refine JZ E.qZ.1 (yM (ah (bF (ah (c_ ((bf s (q : Nat), 73)) E.d9 E.bA (ai (ah (c_ ((s, (q : Int))) E.bK E.aM (ai (aS E.aN) (ai (aS E.sE) aD)) (q0) rfl)) (ai (ah aj) aD)) (trivial) rfl)) (ah (bH (aS E.bP) (ah aj))) (nb))) (ah aj)) (ah aj) rfl (j := 0) (by rw [ahK, ai6]; exact J3 Q.a Q.a) ?_
 have em : ((List.replicate (m + 1) (L3.D.int (-1))).map T.sh).set 0 (.sh (.int (pV (bf s (q : Nat)) 73 % ((m : Int) + 1) - 1))) = (L3.D.int (pV (bf s (q : Nat)) 73 % ((m : Int) + 1) - 1) :: List.replicate m (.int (-1))).map T.sh := by rw [aiZ]; rfl
 have im : D.bq (L3.D.int (pV (bf s (q : Nat)) 73 % ((m : Int) + 1) - 1) :: List.replicate m (.int (-1))) = true := by
   refine lq fun d hd => ?_
   rcases ahT.mp hd with rfl | hd
   . rfl
   . rw [akg hd]; rfl
 show dh X CL b _ [some (.sh (.lst (s.map .int))), some (.sh (.int (q : Nat))), some (.sh (.int (m : Nat))), some (.lst (((List.replicate (m + 1) (L3.D.int (-1))).map T.sh).set 0 (.sh (.int (pV (bf s (q : Nat)) 73 % ((m : Int) + 1) - 1)))))] _
 rw [em]
 refine jQ (fQ (ah (bF (aS E.sE) (ah aj) Q.c)) (ah aj)).1 (fun hp => ?_) (fun hp => aE ?_)
 . have hp : q % 3 = 1 := by have := aix hp; omega
   rw [ah7 hp]
   exact cj (aF (ds := [.tup [.int 0, .int ((q : Int) + 1), .int ((m : Int) + 1)], .tup (L3.D.int (pV (bf s (q : Nat)) 73 % ((m : Int) + 1) - 1) :: List.replicate m (.int (-1)))]) (ak (aC (aF (ak aj (ak (bH (aS E.sE) (ah aj)) (ak (bH (aS E.bP) (ah aj)) aK))) (aq rfl)) rfl) (ak (dF E.bV (vL E.qZ.1) im E.cF) aK)) (aq rfl)) rfl
 . have hp : ¬ q % 3 = 1 := by have := aiL hp; omega
   rw [ahX hp]
   exact cj (aF (ds := [.tup [.int 0, .int ((q : Int) + 1)], .tup (L3.D.int (pV (bf s (q : Nat)) 73 % ((m : Int) + 1) - 1) :: List.replicate m (.int (-1)))]) (ak (aC (aF (ak aj (ak (bH (aS E.sE) (ah aj)) aK)) (aq rfl)) rfl) (ak (dF E.bV (vL E.qZ.1) im E.cF) aK)) (aq rfl)) rfl
theorem lG : mw (au zU) ([("script", av), ("at", av), ("many", av), ("memory", av), ("_law_mixed", az), ("_law_cell_at", az), ("tuple", az)]) = true := Q.i
theorem Rf : aQ ["script", "at", "many", "memory"] ["script", "at", "many"] (au zU) := bD
abbrev uH : Stmt := top 28
abbrev uI : Type := List Int × Nat × Bool
def oj : uI -> List L3.D := fun (s, q, cl) => [.lst (s.map .int), .int (q : Nat), .bl cl]
def om : uI -> Prop := fun (s, q, cl) => s.length <= 1000 /\ q <= 100
def oq : uI -> T := fun (s, q, cl) => (BG (vG s) (jh s) (TQ s) (TN s q) (Hr s q cl) : T)
structure Rg (X : Cx) (CL : Q.d) : Prop extends cV X where
 aN : Ln X 0 "script"
 vY : X.env.kindOf "script" = some .cell
 WQ : Ln X 1 "most"
 nq : Ln X 2 "closed"
 bP : Ln X 3 "many"
 zP : X.env.kindOf "many" = some .cell
 c6 : Ln X 4 "three"
 ou : Ln X 5 "boxes"
 jj : Ln X 6 "bases"
 Rh : X.env.kindOf "bases" = some .cell
 iD : Ln X 7 "kinds"
 j5 : Ln X 8 "faces"
 bC : Ln X 9 "rows"
 gy : Ln X 10 "flat"
 dW : Ln X 11 "turn"
 fN : Ln X 12 "steps"
 vW : Ln X 13 "asks"
 gR : Ln X 14 "deeds"
 Ms : Ln X 15 "to"
 lH : Ln X 16 "flats"
 uJ : Ln X 17 "begin"
 pG : Gl X "max"
 aaI : Gl X "min"
 cX : Gl X "len"
 zW : Gl X "_law_signs"
 bT : Gl X "range"
 bA : Gl X "_law_mixed"
 aM : Gl X "_law_cell_at"
 zX : Gl X "_law_faces"
 BQ : Gl X "_law_next"
 xg : Gl X "_law_marked"
 nu : Gl X "_law_deed"
 pH : X.mg "max" = none
 aaJ : X.mg "min" = none
 cY : X.mg "len" = none
 Ri : Fc X CL "_law_signs" 2 1 nY n5 n6
 bU : X.mg "range" = none
 d9 : Fc X CL "_law_mixed" 1 2 e9 fc fh
 bK : Fc X CL "_law_cell_at" 1 2 dw dz dB
 Rj : Fc X CL "_law_faces" 5 5 n9 oh oi
 WR : Fc X CL "_law_next" 2 5 qS qT qU
 Mu : Fc X CL "_law_marked" 1 4 lD lE lF
 zQ : Fc X CL "_law_deed" 3 3 nj jK nk
 aaK : X.mg "str" = none
 zJ : Fc X CL "_law_small" 1 1 kO kP kQ
 WT : Fc X CL "_law_flat" 2 3 qX nA qY
theorem Rk {b : Bx} (E : Rg X CL) {cS : uI} (h : om cS) :
   aH X CL b uH ["script", "most", "closed", "many", "three", "boxes", "bases", "kinds", "faces", "rows", "flat", "turn", "steps", "asks", "deeds", "to", "flats", "begin"] (oj cS) (oq cS) := by
 obtain ⟨s, q, cl⟩ := cS
 dsimp only [aH, om, oj, oq] at h ⊢
 obtain ⟨T3, hq⟩ := h
 have hn1 : 1 <= n7 s q := by unfold n7; omega
 have SK : n7 s q <= 100 := by unfold n7; omega
 obtain ⟨b1, b2, b3⟩ := Lx s
 have S9 := C9 s
 have hsl := zm s
 have ml : s.length % 4 < 4 := Nat.mod_lt _ Q.c
 refine bw E.g E.bP (aC (ED E.g E.pH E.pG (ai (ah aj) (ai (ah (Pw E.g E.aaJ E.aaI (ai (ah (dQ (ahK ..) E.cY (aS E.aN) E.cX)) (ai (aS E.WQ) aD)))) aD))) (t2 := .sh (.int (n7 s q : Nat))) ?n) ?_
 case n =>
   refine congrArg (fun z => T.sh (.int z)) ?_
   unfold n7
   repeat' split
   all_goals omega
 refine bw E.g E.c6 (aC (c_ (s) E.Ri E.zW (ai (aS E.aN) aD) (T3) ((bB (cL _)))) (t2 := .lst (((jh s).map .str).map T.sh)) rfl) ?_
 refine mU (p := fun _ => true) (gg := fun d => T.sh (bJ (TL d.rO.toNat, gO (bf s (d.rO + 2))))) E.g E.ou (bO (.cons E.aN.1 (.inl E.vY) .nil) Q.b) (cK E.bU (ah (bF (ah (dQ (ahK ..) E.cY (aS E.aN) E.cX)) (ah aj) Q.c)) Q.a E.bT) (.inr rfl) (fun C s0 H0 f0 b' d hd => ?WK) (by simp [b9, aic]; omega) ?Mi (by exact ahS rfl) (iK ⟨_, rfl⟩)
 case WK =>
   obtain ⟨a, ha, rfl⟩ := fZ hd
   have ha : a < 4 := by omega
   obtain ⟨⟨q1, q2⟩, q3, q4⟩ := Fd a ha
   have a0 : (0 : Int) <= (a : Int) + 2 := by omega
   refine ⟨rfl, fun _ => aC (aF (ds := [.str (TL a), .int (gO (bf s ((a : Int) + 2)))]) (ak (aC (pN (ah cJ) (ah (Px E.aaK (dO Q.b) Q.u (q4))) ((by rw [aic, q3]; show 3 + 1 <= _; omega))) rfl) (ak (c_ (bf s ((a : Int) + 2)) (f7 E.zJ) (dO Q.b) (ai (ah (c_ ((s, (a : Int) + 2)) (f7 E.bK) (dO Q.b) (ai (ah (v_ (cz (i := 1) rfl Q.b))) (ai (ah (bH Q.u (ah aj))) aD)) (a0) rfl)) aD) (trivial) rfl) aK)) (aq rfl)) rfl⟩
 case Mi =>
 have eB : ((b9 0 ((s.length : Int) % 4).toNat).filter fun _ => true).map (fun d => T.sh (bJ (TL d.rO.toNat, gO (bf s (d.rO + 2))))) = ((vG s).map bJ).map T.sh := by
   rw [gG (f := fun (k : Nat) => bJ (TL k, gO (bf s ((k : Int) + 2)))) _ (fun k => by show T.sh (bJ (TL (0 + (k : Int)).toNat, gO (bf s ((0 + (k : Int)) + 2)))) = _; rw [aiK, aij])]
   unfold vG
   rw [show ((s.length : Int) % 4).toNat = s.length % 4 by omega]
   simp only [aia]
   rfl
 rw [eB]
 refine bw E.g E.jj (aC (bH (ah aj) (ah (bF (ah (c_ ((bf s 0, 43)) E.d9 E.bA (ai Q.B (ai (ah aj) aD)) (trivial) rfl)) (ah aj) Q.c))) (t2 := .sh (.int (wL s : Nat))) (by rw [b3])) ?_
 have bp : 0 < ((wL s : Nat) : Int) := by omega
 refine mU (p := fun _ => true) (gg := fun d => T.sh (.int (pV (bf s d.rO) 61 % ((wL s : Nat) : Int)))) E.g E.iD (bO (.cons E.jj.1 (.inl E.Rh) (.cons E.aN.1 (.inl E.vY) .nil)) Q.b) (cK E.bU (aS E.bP) Q.a E.bT) (.inr rfl) (fun C s0 H0 f0 b' d hd => ?Mj) (by simp [b9, aic]; omega) ?Ml (by exact ahS rfl) (iK ⟨_, rfl⟩)
 case Mj =>
   obtain ⟨a, ha, rfl⟩ := fZ hd
   have a0 : (0 : Int) <= (a : Int) := by omega
   exact ⟨rfl, fun _ => (bF (ah (c_ ((bf s (a : Int), 61)) (f7 E.d9) (dO Q.b) (ai (ah (c_ ((s, (a : Int))) (f7 E.bK) (dO Q.b) (ai (ah (v_ (cz (i := 2) rfl Q.b))) (ai Q.u aD)) (a0) rfl)) (ai (ah aj) aD)) (trivial) rfl)) (ah (v_ (cz (i := 1) rfl Q.b))) (bp))⟩
 case Ml =>
 have eK : ((b9 0 ((n7 s q : Nat) : Int).toNat).filter fun _ => true).map (fun d => T.sh (.int (pV (bf s d.rO) 61 % ((wL s : Nat) : Int)))) = ((cN (rP s q)).map L3.D.int).map T.sh := by
   rw [gG (f := fun (k : Nat) => .int (pV (bf s (k : Nat)) 61 % ((wL s : Nat) : Int))) _ (fun k => by rw [show (L3.D.int (0 + (k : Int))).rO = (k : Int) from aiK _])]
   unfold cN rP
   rw [aia, aia, aia, aia, aij]
   refine aik fun k _ => ?_
   show T.sh (.int _) = T.sh (.int (((pV (bf s (k : Nat)) 61 % ((wL s : Nat) : Int)).toNat : Nat) : Int))
   rw [ajK (ait _ Q.a)]
 rw [eK]
 have bl := Fb s
 refine bw E.g E.j5 (EG (d := .lst (Qx (AK s cl))) (aC (c_ (s, wL s, (vG s).length, jh s, cl) E.Rj E.zX (ai (aS E.aN) (ai (aS E.jj) (ai (ah (dQ (ahK ..) E.cY (vL E.ou.1) E.cX)) (ai (vL E.c6.1) (ai (aS E.nq) aD))))) ⟨T3, by omega, by omega, by omega⟩ ?cl) (t2 := .lst ((AK s cl).map tD)) rfl) (Qy _)) ?_
 case cl =>
   show (T.lst ((B8 s (vG s).length (jh s) cl (3 * wL s)).map tD)).clean = true
   rw [T.clean]
   refine Ff fun t ht => ?_
   obtain ⟨r, hr, rfl⟩ := ahY.mp ht
   unfold B8 at hr
   obtain ⟨i, _, rfl⟩ := ahY.mp hr
   exact sr zl
 refine bw E.g E.bC (aC qD (t2 := .dct (aJ (cg (x6 s (rP s q) (jh s) (AK s cl) 0)))) rfl) ?_
 have wK := Fe s q
 have hkt := Ly s q
 show dh X CL b _ _ { nx := _, rt := fun wZ _ => wZ = BG (vG s) (jh s) (TQ s) (TN s q) (Hr s q cl), bk := _, ct := _ }
 have eR : Hr s q cl = x6 s (rP s q) (jh s) (AK s cl) (n7 s q * (jh s).length) := rfl
 rw [eR]
 have eP : TN s q = (List.range (n7 s q)).map fun (k : Nat) => Lr s k (n7 s q) := rfl
 have eG : TQ s = [.wI 0, .wI 1, .fS (tO (bf s 1) (vG s).length (jh s))] := rfl
 have hFF : ∀ {k : Nat}, k < 3 * wL s -> (AK s cl)[k]? = some (xZ s (k / 3) (k % 3) (vG s).length (jh s) cl) := Lz (s := s) (cl := cl)
 have hF2 : ∀ k : Nat, k < 3 * wL s -> ∀ r ∈ (AK s cl).getD k [], D.bq r.1 = true /\ Qt 4 r := fun k hk r hr => by
   rw [ahV, hFF hk] at hr
   exact ⟨zl r hr, Lq r hr⟩
 have hF3 : ∀ k : Nat, k < 3 * wL s -> ((AK s cl).getD k []).length <= 5 /\ (AK s cl)[k]? = some ((AK s cl).getD k []) := fun k hk => by
   rw [ahV, hFF hk]
   exact ⟨zk .., rfl⟩
 rw [eP, eG]
 clear eP eG eR hFF
 generalize AK s cl = FF at hF2 hF3 ⊢
 generalize rP s q = ks at wK hkt ⊢
 generalize jh s = hs at S9 hsl ⊢
 generalize vG s = bs at bl ⊢
 generalize n7 s q = n at hn1 SK wK ⊢
 generalize wL s = bn at b1 b2 hkt hF2 hF3 ⊢
 refine ja E.g E.gy (fun j δ => ∃ (yd Mh WU IU IV HJ : Option T), δ = [some (.sh (.lst (s.map .int))), some (.sh (.int (q : Nat))), some (.sh (.bl cl)), some (.sh (.int (n : Nat))), some (.lst ((hs.map .str).map T.sh)), some (.lst ((bs.map bJ).map T.sh)), some (.sh (.int (bn : Nat))), some (.lst (((cN ks).map .int).map T.sh)), some (.sh (.lst (Qx FF))), some (.dct (aJ (cg (x6 s ks hs FF (j * hs.length))))), yd, Mh, WU, IU, IV, HJ, none, none]) (cK E.bU (aS E.bP) Q.a E.bT) ⟨_, _, _, _, _, _, by rw [Nat.zero_mul]; rfl⟩ (fun j δ ⟨_, _, _, _, _, _, e⟩ => by subst e; exact ahS rfl) ?turn ?fin
 case turn =>
   rintro j d δ hj ⟨yd, Mh, WU, IU, IV, HJ, rfl⟩
   obtain ⟨rfl, CP⟩ := jE hj
   rw [aiK]
   have hjn : j < n := by omega
   refine ja E.g E.dW (fun t δ => ∃ (Mh WU IU IV HJ : Option T), δ = [some (.sh (.lst (s.map .int))), some (.sh (.int (q : Nat))), some (.sh (.bl cl)), some (.sh (.int (n : Nat))), some (.lst ((hs.map .str).map T.sh)), some (.lst ((bs.map bJ).map T.sh)), some (.sh (.int (bn : Nat))), some (.lst (((cN ks).map .int).map T.sh)), some (.sh (.lst (Qx FF))), some (.dct (aJ (cg (x6 s ks hs FF (j * hs.length + t))))), some (.sh (.int (j : Nat))), Mh, WU, IU, IV, HJ, none, none]) (cK E.bU (ah (dQ (ahK ..) E.cY (vL E.c6.1) E.cX)) Q.a E.bT) ⟨_, _, _, _, _, rfl⟩ (fun j δ ⟨_, _, _, _, _, e⟩ => by subst e; exact ahS rfl) ?qR ?fin2
   case fin2 =>
     rintro δ ⟨Mh, WU, IU, IV, HJ, rfl⟩
     rw [show (b9 0 ((hs.length : Nat) : Int).toNat).length = hs.length by simp [b9]]
     rw [show j * hs.length + hs.length = (j + 1) * hs.length by rw [Nat.add_mul, Nat.one_mul]]
     exact aE ⟨_, _, _, _, _, _, rfl⟩
   case qR =>
   rintro t d δ hj ⟨Mh, WU, IU, IV, HJ, rfl⟩
   obtain ⟨rfl, Yr⟩ := jE hj
   rw [aiK]
   have htn : t < hs.length := by omega
   have hkj : ks.getD j 0 < bn := hkt _ (m5 Q.a)
   have hix : ks.getD j 0 * 3 + t < 3 * bn := by omega
   obtain ⟨f5, fat⟩ := hF3 _ hix
   have fim := hF2 _ hix
   have w4 := ly (ks := ks) (f := j) Q.a
   obtain ⟨F, hF⟩ : ∃ F, F = FF.getD (ks.getD j 0 * 3 + t) [] := ⟨_, rfl⟩
   rw [← hF] at f5 fat fim
   have ad0 : rN (Qx FF) (((ks.getD j 0 : Nat) : Int) * 3 + (t : Int)) = some (.lst (F.map sq)) := by
     rw [show ((ks.getD j 0 : Nat) : Int) * 3 + (t : Int) = ((ks.getD j 0 * 3 + t : Nat) : Int) by omega]
     refine aO ?_
     unfold Qx
     rw [ahU, fat]
     rfl
   refine bw E.g E.fN (mK fB (aiB _)) ?_
   refine J8 E.g (EI E.g.nd E.g.calm E.vW E.gR) (fun i δ => ∃ (IU IV HJ : Option T), δ = [some (.sh (.lst (s.map .int))), some (.sh (.int (q : Nat))), some (.sh (.bl cl)), some (.sh (.int (n : Nat))), some (.lst ((hs.map .str).map T.sh)), some (.lst ((bs.map bJ).map T.sh)), some (.sh (.int (bn : Nat))), some (.lst (((cN ks).map .int).map T.sh)), some (.sh (.lst (Qx FF))), some (.dct (aJ (cg (x6 s ks hs FF (j * hs.length + t))))), some (.sh (.int (j : Nat))), some (.sh (.int (t : Nat))), some (.lst (((Ls s ks j t F i).map fM).map T.sh)), IU, IV, HJ, none, none]) (J6 (gu (ic (v_ E.j5.1) (ah (bH (ah (jB (cu (vL E.iD.1) (aS E.gy) w4) (ah aj) (.inr ⟨by decide, by decide⟩))) (aS E.dW))) ad0))) ⟨_, _, _, rfl⟩ (fun j δ ⟨_, _, _, e⟩ => by subst e; intro i hi; simp only [ahT, ah9, aiS] at hi; rcases hi with rfl | rfl <;> exact ahS rfl) ?Mv ?WV
   case Mv =>
     rintro i d δ hi ⟨IU, IV, HJ, rfl⟩
     rw [ahU] at hi
     obtain ⟨r, hr, rfl⟩ := aib.mp hi
     have Ko : i < F.length := (ahW.mp hr).1
     have er : F.getD i mD = r := by rw [ahV, hr]; rfl
     obtain ⟨im, sm1, sm2⟩ := fim r (ah3 hr)
     refine ⟨[.tup r.1, .tup (r.2.map It.d)], rfl, ?_⟩
     have hln : (((Ls s ks j t F i).map fM)).length = i := by unfold Ls; rw [ahK, ahK, ah4]
     show dh X CL b _ [some (.sh (.lst (s.map .int))), some (.sh (.int (q : Nat))), some (.sh (.bl cl)), some (.sh (.int (n : Nat))), some (.lst ((hs.map .str).map T.sh)), some (.lst ((bs.map bJ).map T.sh)), some (.sh (.int (bn : Nat))), some (.lst (((cN ks).map .int).map T.sh)), some (.sh (.lst (Qx FF))), some (.dct (aJ (cg (x6 s ks hs FF (j * hs.length + t))))), some (.sh (.int (j : Nat))), some (.sh (.int (t : Nat))), some (.lst (((Ls s ks j t F i).map fM).map T.sh)), some (.sh (.tup r.1)), some (.sh (.tup (r.2.map It.d))), HJ, none, none] _
     refine bw E.g E.Ms (c_ (s, ks, j, t, i) E.WR E.BQ (ai (aS E.aN) (ai (vL E.iD.1) (ai (aS E.gy) (ai (aS E.dW) (ai (ah (dQ hln E.cY (vL E.fN.1) E.cX)) aD))))) ⟨T3, by omega, by omega, by omega, by omega⟩ rfl) ?_
     refine xP E.fN.1 rfl (aC (aF (ds := [.tup r.1, .tup ((IL r.2 j i (Hq s ks j t i)).map It.d), .int (Hq s ks j t i : Nat)]) (ak (v_ E.vW.1) (ak (c_ (r.2, j, i, Hq s ks j t i) E.Mu E.xg (ai (aS E.gR) (ai (aS E.gy) (ai (ah (dQ hln E.cY (vL E.fN.1) E.cX)) (ai (aS E.Ms) aD)))) (show r.2.length <= 1000 by omega) (bR _)) (ak (v_ E.Ms.1) aK))) (aq rfl)) (t2 := .sh (fM (r.1, IL r.2 j i (Hq s ks j t i), Hq s ks j t i))) rfl) rfl (by rw [ahK, hln]; omega) (aE ⟨some (.sh (.tup r.1)), some (.sh (.tup (r.2.map It.d))), some (.sh (.int (Hq s ks j t i : Nat))), ?_⟩)
     show _ = [_, _, _, _, _, _, _, _, _, _, _, _, some (T.lst (((Ls s ks j t F (i + 1)).map fM).map T.sh)), _, _, _, _, _]
     rw [Lv, er]
     rfl
   case WV =>
     rintro δ ⟨IU, IV, HJ, rfl⟩
     rw [ahK]
     have GN := Qw s ks FF S9 (j := j) htn
     have tH : rN (hs.map L3.D.str) (t : Int) = some (.str (hs.getD t Str.empty)) := rY Str.empty Q.a Q.a
     refine yW (kvs := aJ (cg (x6 s ks hs FF (j * hs.length + t)))) (mq j (hs.getD t Str.empty)) E.u E.bC.1 (vM E.fN.1) (aC (mJ (cB (v_ E.gy.1) (cB (jA (cu (vL E.c6.1) (aS E.dW) tH) rfl) fB)) (aq rfl)) (t2 := fP (mq j (hs.getD t Str.empty))) rfl) rfl (by rw [iu, kN]; exact GN) ?z (aE ⟨some (.sh (.int (t : Nat))), none, IU, IV, HJ, ?e⟩)
     case z =>
       unfold aJ cg x6
       rw [ahK, ahK, ahK, ah4]
       have : j * hs.length <= 100 * 3 := akj Q.a hsl
       omega
     case e =>
       show _ = [_, _, _, _, _, _, _, _, _, some (T.dct (aJ (cg (x6 s ks hs FF (j * hs.length + t + 1))))), _, _, _, _, _, _, _, _]
       rw [Lw s ks hs FF htn, ← hF]
       unfold cg aJ IG
       rw [ah2, ah2]
       rfl
 case fin =>
   rintro δ ⟨yd, Mh, WU, IU, IV, HJ, rfl⟩
   rw [show (b9 0 ((n : Nat) : Int).toNat).length = n by simp [b9]]
   refine mU (p := fun _ => true) (gg := fun d => T.sh (Lr s d.rO.toNat n)) E.g E.lH (bO (.cons E.bP.1 (.inl E.zP) (.cons E.aN.1 (.inl E.vY) .nil)) Q.b) (cK E.bU (aS E.bP) Q.a E.bT) (.inr rfl) (fun C s0 H0 f0 b' d hd => ?WW) (by simp [b9, aic]; omega) ?Mw (by exact ahS rfl) (iK ⟨_, rfl⟩)
   case WW =>
     obtain ⟨a, ha, rfl⟩ := fZ hd
     exact ⟨rfl, fun _ => (c_ ((s, a, n)) (f7 E.WT) (dO Q.b) (ai (ah (v_ (cz (i := 2) rfl Q.b))) (ai Q.u (ai (ah (v_ (cz (i := 1) rfl Q.b))) aD))) (by dsimp only [nA]; exact (⟨by omega, by omega⟩)) (Fg s a n))⟩
   case Mw =>
   rw [gG (f := fun (k : Nat) => Lr s k n) _ (fun k => by show T.sh (Lr s (0 + (k : Int)).toNat n) = _; rw [aiK, aij]), aij]
   refine bw E.g E.uJ (aF (ds := [It.wI 0, .wI 1, .fS (tO (bf s 1) bs.length hs)].map It.d) (ak (aC (aF (ak cJ (ak aj aK)) (aq rfl)) rfl) (ak (aC (aF (ak cJ (ak aj aK)) (aq rfl)) rfl) (ak (aC (c_ (bf s 1, bs.length, hs) E.zQ E.nu (ai (ah (c_ ((s, 1)) E.bK E.aM (ai (aS E.aN) (ai (ah aj) aD)) (show (0 : Int) <= 1 by decide) rfl)) (ai (ah (dQ (ahK ..) E.cY (vL E.ou.1) E.cX)) (ai (vL E.c6.1) aD))) ⟨by omega, by omega⟩ (qI _)) rfl) aK))) (aq rfl)) ?_
   exact cj (mK (cB (vM E.ou.1) (cB (vM E.c6.1) (cB (v_ E.uJ.1) (cB (vM E.lH.1) (cB (vM E.bC.1) fB))))) (aq rfl)) rfl
theorem aU : mw (au uH) ([("script", .cell), ("most", av), ("closed", av), ("many", .cell), ("three", av), ("boxes", av), ("bases", .cell), ("kinds", av), ("faces", av), ("rows", av), ("flat", av), ("turn", av), ("steps", av), ("asks", av), ("deeds", av), ("to", av), ("flats", av), ("begin", av), ("max", az), ("min", az), ("len", az), ("_law_signs", az), ("range", az), ("_law_mixed", az), ("_law_cell_at", az), ("_law_faces", az), ("_law_next", az), ("_law_marked", az), ("_law_deed", az)]) = true := Q.i
theorem Mx : aQ ["script", "most", "closed", "many", "three", "boxes", "bases", "kinds", "faces", "rows", "flat", "turn", "steps", "asks", "deeds", "to", "flats", "begin"] ["script", "most", "closed"] (au uH) := bD
def bgA : Bool -> List L3.D -> L3.D
 | true, bg => .lst bg
 | false, bg => .tup bg
theorem WX {b : Bx} {δ : Q.e} {pos pp pn : Pos} {lb : Bool} (n : Vn X i x) (hm : X.mg "tuple" = none) (hg : Gl X "tuple") (h0 : D.bq bg = true) (h : δ[i]? = some (some (.sh (bgA lb bg))) := by rfl) : bI X CL b (.Call (.Name "tuple" pp) [.Name x pn] [] pos) δ (.sh (.tup bg)) δ := by
 cases lb with
 | false => exact sf hm (v_ n h) hg
 | true => exact dF hm (ah (v_ n h)) h0 hg
abbrev jk : Stmt := inClass (top 1) 0
abbrev lI : Type := List L3.D × List L3.D × List L3.D × List L3.D × (List (bz × List L3.D)) × Bool
def gS : lI -> List L3.D := fun (bs, hs, bg, pr, kvs, lb) => [.lst bs, .lst hs, bgA lb bg, .lst pr, .dct (cR kvs)]
def gT : lI -> Prop := fun (bs, hs, bg, pr, kvs, lb) => D.bq bg = true /\ D.bq bs = true /\ D.bq hs = true /\ D.bq pr = true /\ (∀ q ∈ kvs, D.bq q.2 = true) /\ (kvs.map (·.1)).Nodup /\ kvs.length <= 1000
def gU : lI -> List (Str × T) := fun (bs, hs, bg, pr, kvs, lb) => (fG bs hs bg pr kvs : List (Str × T))
structure zY (X : Cx) (CL : Q.d) : Prop extends cV X where
 sF : Ln X 0 "self"
 ou : Ln X 1 "boxes"
 zZ : Ln X 2 "signs"
 uJ : Ln X 3 "begin"
 lH : Ln X 4 "flats"
 bC : Ln X 5 "rows"
 ye : Ln X 6 "key"
 gA : Gl X "list"
 cF : Gl X "tuple"
 gB : X.mg "list" = none
 bV : X.mg "tuple" = none
 aL : tK X.K (CL "Table")
 cG : aZ X.K (CL "Table") "boxes"
 bE : aZ X.K (CL "Table") "signs"
 dD : aZ X.K (CL "Table") "begin"
 b4 : aZ X.K (CL "Table") "flats"
 aX : aZ X.K (CL "Table") "rows"
theorem z6 {b : Bx} (E : zY X CL) (bs hs bg pr : List L3.D) (kvs : List (bz × List L3.D)) (lb : Bool) (y : Addr) (h : D.bq bg = true /\ D.bq bs = true /\ D.bq hs = true /\ D.bq pr = true /\ (∀ q ∈ kvs, D.bq q.2 = true) /\ (kvs.map (·.1)).Nodup /\ kvs.length <= 1000) :
   dh X CL b (fq jk) (Vw ["self", "boxes", "signs", "begin", "flats", "rows", "key"] y "Table" [.lst bs, .lst hs, bgA lb bg, .lst pr, .dct (cR kvs)]) { nx := fun δ => δ[0]? = some (some (.pin y (.ins "Table" (fG bs hs bg pr kvs)))), rt := fun _ _ => False } := by
 obtain ⟨h0, h1, h2, h3, h4, h5, h6⟩ := h
 refine Be E.aL E.cG E.sF.1 (iJ E.gB (aS E.ou) h1 E.gA dM) rfl (ahS rfl) ?_
 rw [mR]
 refine Be E.aL E.bE E.sF.1 (iJ E.gB (aS E.zZ) h2 E.gA dM) rfl (ahS rfl) ?_
 rw [bW Q.b, mR]
 refine Be E.aL E.dD E.sF.1 (WX E.uJ.1 E.bV E.cF h0) rfl (ahS rfl) ?_
 rw [bW Q.b, bW Q.b, mR]
 refine Be E.aL E.b4 E.sF.1 (iJ E.gB (aS E.lH) h3 E.gA dM) rfl (ahS rfl) ?_
 rw [bW Q.b, bW Q.b, bW Q.b, mR]
 refine Be E.aL E.aX E.sF.1 qD rfl (ahS rfl) ?_
 rw [bW Q.b, bW Q.b, bW Q.b, bW Q.b, mR]
 refine P0 E.g E.ye (fun j δ => ∃ o, δ = [some (.pin y (.ins "Table" (dI bs hs bg pr (.dct (aJ (kvs.take j)))))), some (.sh (.lst bs)), some (.sh (.lst hs)), some (.sh (bgA lb bg)), some (.sh (.lst pr)), some (.sh (.dct (cR kvs))), o]) (v_ E.bC.1) ⟨_, rfl⟩ (fun j δ ⟨_, e⟩ => by subst e; exact ahS rfl) ?turn ?fin
 case turn =>
   rintro b' j k d δ hj ⟨o, rfl⟩
   have hj0 := hj
   unfold cR at hj
   rw [ahU] at hj
   obtain ⟨q, hq, e⟩ := aib.mp hj
   cases e
   have hqm := ah3 hq
   have CP : j < kvs.length := (ahW.mp hq).1
   have hv : eZ (cR kvs) q.1 = some (.lst q.2) := E2 (by rw [C6]; exact h5) hj0
   have hn : q.1 ∉ (aJ (kvs.take j)).map (·.1) := fun hm => by
     rw [iu, ajG] at hm
     obtain ⟨i, hi, e⟩ := List.getElem_of_mem hm
     rw [ail] at hi
     rw [List.getElem_take] at e
     have hi2 : i < (kvs.map (·.1)).length := by omega
     have := (akp hi2 h5).mp (show (kvs.map (·.1))[i]? = (kvs.map (·.1))[j]? by
       rw [ahN hi2, e, ahU, hq]
       rfl)
     omega
   refine P5 q.1 E.u (iJ E.gB (Kr q.1 E.u (aS E.bC) (yZ E.ye.1 rfl) hv) (h4 q hqm) E.gA dM) (pS E.aL E.aX (f9 E.sF.1 rfl) rfl rfl fL) (yZ E.ye.1 rfl) rfl (kvs := aJ (kvs.take j)) (by show (List.lookup ("rows" : Str) (dI bs hs bg pr (.dct (aJ (kvs.take j))))).bind _ = _; rw [fL]; rfl) hn (by unfold aJ; rw [ahK, ail]; omega) (aE ⟨some (fP q.1), ?_⟩)
   have e : T.g6 [.fld "rows"] (.dct (aJ (kvs.take j) ++ [(q.1, .lst (q.2.map T.sh))])) (.pin y (.ins "Table" (dI bs hs bg pr (.dct (aJ (kvs.take j)))))) = .pin y (.ins "Table" (dI bs hs bg pr (.dct (aJ (kvs.take (j + 1)))))) := by
     have et : aJ (kvs.take j) ++ [(q.1, T.lst (q.2.map T.sh))] = aJ (kvs.take (j + 1)) := by
       unfold aJ
       rw [aiO, hq, ah2]
       rfl
     rw [et]
     exact Hg
   show [some (T.g6 [.fld "rows"] _ _), _, _, _, _, _, _] = _
   rw [e]
 case fin =>
   rintro δ ⟨o, rfl⟩
   rw [show (cR kvs).length = kvs.length by unfold cR; rw [ahK], ai7]
   exact aE rfl
theorem cH : mw (au jk) ([("self", av), ("boxes", av), ("signs", av), ("begin", av), ("flats", av), ("rows", av), ("key", av), ("list", az), ("tuple", az)]) = true := Q.i
theorem pI : aQ ["self", "boxes", "signs", "begin", "flats", "rows", "key"] ["self", "boxes", "signs", "begin", "flats", "rows"] (au jk) := bD
abbrev uK : Stmt := top 29
abbrev uL : Type := (List (Str × Int)) × List Str × List It × List L3.D × Q.n
def oz : uL -> List L3.D := fun (bs, hs, bg, pr, R) => [Yp bs hs bg pr R]
def oA : uL -> Prop := fun (bs, hs, bg, pr, R) => D.bq pr = true /\ (R.map (·.1)).Nodup /\ R.length <= 1000 /\ ∀ q ∈ R, ∀ r ∈ q.2, D.bq r.1 = true
def oB : uL -> T := fun (bs, hs, bg, pr, R) => (.ins "Table" (fG (bs.map bJ) (hs.map .str) (bg.map It.d) pr (cg R)) : T)
structure Rl (X : Cx) (CL : Q.d) : Prop extends cV X where
 aP : Ln X 0 "parts"
 bC : Ln X 1 "rows"
 ye : Ln X 2 "key"
 fN : Ln X 3 "steps"
 gA : Gl X "list"
 q8 : Gl X "Table"
 gB : X.mg "list" = none
 uM : Fm X CL "Table" 1 6 gS gT gU
theorem Rm {b : Bx} (E : Rl X CL) {cS : uL} (h : oA cS) :
   aH X CL b uK ["parts", "rows", "key", "steps"] (oz cS) (oB cS) := by
 obtain ⟨bs, hs, bg, pr, R⟩ := cS
 dsimp only [aH, oA, oz, oB] at h ⊢
 obtain ⟨h1, h2, h3, h4⟩ := h
 have i1 : D.bq (bs.map bJ) = true := iL (fun _ => rfl) _
 have h5 : ((cg R).map (·.1)).Nodup := by rw [kN]; exact h2
 have h6 : ∀ q ∈ cg R, D.bq q.2 = true := fun q hq => by
   obtain ⟨p, hp, rfl⟩ := ahY.mp hq
   exact qL fun r hr => zv (h4 p hp r hr)
 have h7 : (cg R).length <= 1000 := by unfold cg; rw [ahK]; exact h3
 show dh X CL b _ [some Q.z, none, none, none] { nx := _, rt := fun wZ _ => wZ = T.ins "Table" (fG (bs.map bJ) (hs.map .str) (bg.map It.d) pr (cg R)), bk := _, ct := _ }
 generalize cg R = kvs at h5 h6 h7 ⊢
 refine bw E.g E.bC (aC qD (t2 := .dct (aJ (kvs.take 0))) rfl) ?_
 refine V6 E.g E.ye E.fN (fun j δ => ∃ (o2 o3 : Option T), δ = [some (.sh (.lst [.lst (bs.map bJ), .lst (hs.map .str), .tup (bg.map It.d), .lst pr, .dct (cR kvs)])), some (.dct (aJ (kvs.take j))), o2, o3]) (ic (v_ E.aP.1) (ah aj) (aO (j := 4) rfl)) ⟨_, _, rfl⟩ (fun j δ ⟨_, _, e⟩ => by subst e; exact ⟨ahS rfl, ahS rfl⟩) ?turn ?fin
 case turn =>
   rintro b' j k d δ hj ⟨o2, o3, rfl⟩
   have hj0 := hj
   unfold cR at hj
   rw [ahU] at hj
   obtain ⟨q, hq, e⟩ := aib.mp hj
   cases e
   have hqm := ah3 hq
   have CP : j < kvs.length := (ahW.mp hq).1
   have hn : q.1 ∉ (aJ (kvs.take j)).map (·.1) := fun hm => by
     rw [iu, ajG] at hm
     obtain ⟨i, hi, e⟩ := List.getElem_of_mem hm
     rw [ail] at hi
     rw [List.getElem_take] at e
     have hi2 : i < (kvs.map (·.1)).length := by omega
     have := (akp hi2 h5).mp (show (kvs.map (·.1))[i]? = (kvs.map (·.1))[j]? by
       rw [ahN hi2, e, ahU, hq]
       rfl)
     omega
   refine yW (kvs := aJ (kvs.take j)) q.1 E.u E.bC.1 (iJ E.gB (aS E.fN) (h6 q hqm) E.gA dM) (yZ E.ye.1 rfl) rfl hn (by unfold aJ; rw [ahK, ail]; omega) (aE ⟨some (fP q.1), some (.sh (.lst q.2)), ?_⟩)
   have et : aJ (kvs.take j) ++ [(q.1, T.lst (q.2.map T.sh))] = aJ (kvs.take (j + 1)) := by
     unfold aJ
     rw [aiO, hq, ah2]
     rfl
   show [_, some (T.dct (aJ (kvs.take j) ++ [(q.1, T.lst (q.2.map T.sh))])), _, _] = _
   rw [et]
 case fin =>
   rintro δ ⟨o2, o3, rfl⟩
   rw [show (cR kvs).length = kvs.length by unfold cR; rw [ahK], ai7]
   exact cj (aC (mk_ (bs.map bJ, hs.map .str, bg.map It.d, pr, kvs, false) E.uM E.q8
     (ai (cD (iJ E.gB (cu (aS E.aP) (ah aj) (aO (j := 0) rfl)) i1 E.gA dM)) (ai (cD (iJ E.gB (cu (aS E.aP) (ah aj) (aO (j := 1) rfl)) (cL _) E.gA dM)) (ai (cu (aS E.aP) (ah aj) (aO (j := 2) rfl)) (ai (cD (iJ E.gB (cu (aS E.aP) (ah aj) (aO (j := 3) rfl)) h1 E.gA dM)) (ai (vE E.bC.1 rfl (by rw [T.bM, jw])) aD)))))
     ⟨bR _, i1, cL _, h1, h6, h5, h7⟩ (jJ i1 (cL _) (bR _) h1 h6)) (t2 := .ins "Table" (fG (bs.map bJ) (hs.map .str) (bg.map It.d) pr kvs)) rfl) rfl
theorem kU : mw (au uK) ([("parts", av), ("rows", av), ("key", av), ("steps", av), ("list", az), ("Table", az)]) = true := Q.i
theorem My : aQ ["parts", "rows", "key", "steps"] ["parts"] (au uK) := bD
abbrev lJ : Stmt := top 7
abbrev qc : Type := List (List L3.D)
def jl : qc -> List L3.D := fun ks => [.lst (ks.map .tup)]
def jm : qc -> Prop := fun ks => (∀ k ∈ ks, jb 8 (.tup k)) /\ ks.length <= 1000
def jn : qc -> T := fun ks => (.lst (((cN (bZ (ks.map L3.D.tup))).map .int).map T.sh) : T)
structure Dp (X : Cx) (CL : Q.d) : Prop extends cV X where
 FH : Ln X 0 "marks"
 iO : Ln X 1 "places"
 k_places : X.env.kindOf "places" = some .cell
 vU : Ln X 2 "mark"
 cX : Gl X "len"
 cY : X.mg "len" = none
theorem Dq {b : Bx} (E : Dp X CL) {ks} (h : jm ks) :
   aH X CL b lJ ["marks", "places", "mark"] (jl ks) (jn ks) := by
 dsimp only [aH, jm, jl, jn] at h ⊢
 obtain ⟨hn, hl⟩ := h
 have SK : ∀ d ∈ ks.map L3.D.tup, jb 8 d := fun d hd => by obtain ⟨k, hk, rfl⟩ := ahY.mp hd; exact hn k hk
 have Ws : (ks.map L3.D.tup).length <= 1000 := by rw [ahK]; exact hl
 have ok := fun j => adT (j := j) SK Ws
 refine bw E.g E.iO (aC Qj (t2 := .jc X.w (unq ((ks.map L3.D.tup).take 0))) rfl) ?_
 refine ja E.g E.vU (fun j δ => ∃ (o : Option T), δ = [some (.sh (.lst (ks.map .tup))), some (.jc X.w (unq ((ks.map L3.D.tup).take j))), o]) (gu (v_ E.FH.1)) ⟨_, rfl⟩ (fun j δ ⟨_, e⟩ => by subst e; exact ahS rfl) ?turn ?fin
 case turn =>
   rintro j d δ hj ⟨o, rfl⟩
   have WY := hj
   rw [ahU] at hj
   obtain ⟨k, hk, rfl⟩ := aib.mp hj
   refine t9 (Qm E.u (ok j) E.iO.1 rfl (v_ E.vU.1) (Ql (ok j) E.cY (vE E.iO.1 rfl (by rw [T.bM])) E.cX) (hn k (ah3 hk))) (aE ⟨some (.sh (.tup k)), ?_⟩)
   show _ = [_, some (T.jc X.w (unq ((ks.map L3.D.tup).take (j + 1)))), _]
   rw [aiO, WY]
   show _ = [_, some (T.jc X.w (unq ((ks.map L3.D.tup).take j ++ [.tup k]))), _]
   rw [cW]
   rfl
 case fin =>
   rintro δ ⟨o, rfl⟩
   rw [ai7]
   have ok := ok (ks.map L3.D.tup).length
   rw [ai7] at ok
   refine cj (aC (jg (p := fun _ => true) (g := fun d => T.sh (.int ((unq (ks.map L3.D.tup)).idxOf d : Nat))) (bO (.cons E.iO.1 (.inl E.k_places) .nil) Q.b) E.g.calm (gu (v_ E.FH.1)) (.inl ⟨rfl, fun _ _ => rfl⟩) (fun C s0 H0 f0 b' d hd => ?wM) (by rw [aic]; omega)) ?eq) rfl
   case wM =>
     have hd2 := hd
     obtain ⟨k, hk, rfl⟩ := ahY.mp hd
     exact ⟨rfl, fun _ => Qk E.u ok (ah (v_ (cz (i := 1) rfl Q.b))) Q.u (cE.mpr hd2)⟩
   case eq =>
     rw [gE]
     unfold cN bZ
     simp only [aia]
     rfl
theorem iP : mw (au lJ) ([("marks", av), ("places", .cell), ("mark", av), ("len", az)]) = true := Q.i
theorem BR : aQ ["marks", "places", "mark"] ["marks"] (au lJ) := bD
abbrev z7 : Stmt := top 4
abbrev Dr : Type := List It
def kW : Dr -> List L3.D := fun xs => [.tup (xs.map It.d)]
def kX : Dr -> Prop := fun xs => xs.length <= 1000
def kY : Dr -> T := fun xs => (.lst (((xs.filter It.told).map It.d).map T.sh) : T)
structure WZ (X : Cx) (CL : Q.d) : Prop extends cV X where
 bC : Ln X 0 "rows"
 z8 : GT X "MARKS" ["out", "keep", "way", "in"]
theorem W0 {b : Bx} (E : WZ X CL) {xs} (h : kX xs) :
   aH X CL b z7 ["rows"] (kW xs) (kY xs) := by
 dsimp only [aH, kX, kW, kY] at h ⊢
 have h : xs.length <= 1000 := h
 refine cj (aC (jg (p := fun d => !decide (d.N8.toS ∈ cM)) (g := fun d => T.sh d) (bO .nil Q.b) E.g.calm (JS (v_ E.bC.1)) (.inr rfl) (fun C s0 H0 f0 b' d hd => ?wM) (ajh (gD (by simp; omega)))) ?eq) rfl
 case wM =>
   obtain ⟨r, hr, rfl⟩ := ahY.mp hd
   exact ⟨(EE (l := cM) (gJ Q.u (ah aj) (aak r.sj)) (ah (Kg (by exact E.z8) (dO Q.b))) rfl rfl).1, fun _ => v_ (cy (i := 0) rfl Q.b)⟩
 case eq =>
   refine congrArg T.lst ?_
   have e : ((fun d : L3.D => !decide (d.N8.toS ∈ cM)) ∘ It.d) = It.told := by
     funext x
     show (!decide (x.sj.w ∈ cM)) = x.told
     rw [uc, Bool.not_not]
   rw [ajU, e]
theorem Rn : mw (au z7) ([("rows", av)]) = true := Q.i
theorem Ro : aQ ["rows"] ["rows"] (au z7) := bD
abbrev oE : Stmt := top 9
abbrev oF : Type := List L3.D × List L3.D × List L3.D × List L3.D × Q.n × Nat × Str × Nat
def j6 : oF -> List L3.D := fun (bs, hs, bg, pr, R, a, x, n) => [g7 bs hs bg pr (cg R), .int (a : Nat), .str x]
def j7 : oF -> Prop := fun (bs, hs, bg, pr, R, a, x, n) => eZ R (mq a x) = some (iM R a x) /\ (iM R a x).length <= 100 /\ ∀ r ∈ iM R a x, IQ n r
def j8 : oF -> T := fun (bs, hs, bg, pr, R, a, x, n) => (.sh (lkS R a x) : T)
structure HK (X : Cx) (CL : Q.d) : Prop extends cV X where
 aR : Ln X 0 "table"
 ez : Ln X 1 "number"
 fH : Ln X 2 "sign"
 cF : Gl X "tuple"
 bV : X.mg "tuple" = none
 vZ : Fc X CL "told" 1 1 kW kX kY
 aL : tK X.K (CL "Table")
 aX : aZ X.K (CL "Table") "rows"
theorem HL {b : Bx} (E : HK X CL) {cS : oF} (h : j7 cS) :
   aH X CL b oE ["table", "number", "sign"] (j6 cS) (j8 cS) := by
 obtain ⟨bs, hs, bg, pr, R, a, x, n⟩ := cS
 dsimp only [aH, j7, j6, j8] at h ⊢
 obtain ⟨h1, h2, h3⟩ := h
 show dh X CL b _ _ { nx := _, rt := fun wZ _ => wZ = T.sh (.tup ((iM R a x).map Ht)), bk := _, ct := _ }
 generalize iM R a x = l at h1 h2 h3 ⊢
 refine cj (dF E.bV (ds := l.map Ht) (cD (aC (jg (p := fun _ => true) (g := fun d => T.sh (fcO d)) (bO .nil Q.b) E.g.calm (gu (qE (mq a x) E.u (mQ E.aL E.aX (v_ E.aR.1) ig) (aC (mJ (cB (v_ E.ez.1) (cB (v_ E.fH.1) fB)) (aq rfl)) (t2 := fP (mq a x)) rfl) (nS h1))) (.inr rfl) (fun C s0 H0 f0 b' d hd => ?wM) (by rw [ahK, aic]; omega)) (t2 := .lst ((l.map Ht).map T.sh)) ?eq)) (ur h3).2 E.cF) rfl
 case wM =>
   obtain ⟨r, hr, rfl⟩ := ahY.mp hd
   have W2 := h3 r hr
   refine ⟨rfl, fun _ => aC (aF (ds := [.tup r.1, .tup ((r.2.1.filter It.told).map It.d)]) (ak (sf E.bV (CB (v_ (cy (i := 0) rfl Q.b)) (ah aj) (aO (j := 0) rfl)) (dO Q.b)) (ak (dF E.bV (cD (aC (c_ r.2.1 (f7 E.vZ) (dO Q.b) (ai (gJ Q.u (ah aj) (aO (j := 1) rfl)) aD) W2.e (bB (bR _))) (t2 := .lst (((r.2.1.filter It.told).map It.d).map T.sh)) rfl)) (bR _) (dO Q.b)) aK)) (aq rfl)) ?_⟩
   show T.sh (Ht r) = T.sh (fcO (fM r))
   rw [LV]
 case eq =>
   rw [gE, aia, aia]
   refine congrArg T.lst (aik fun r _ => ?_)
   show T.sh (fcO (fM r)) = T.sh (Ht r)
   rw [LV]
theorem lK : mw (au oE) ([("table", av), ("number", av), ("sign", av), ("tuple", az)]) = true := Q.i
theorem Ds : aQ ["table", "number", "sign"] ["table", "number", "sign"] (au oE) := bD
abbrev z9 : Stmt := top 8
abbrev Aa : Type := List L3.D × List L3.D × List L3.D × List Str × Q.n × Nat × Nat
def rg : Aa -> List L3.D := fun (bs, bg, pr, hs, R, a, n) => [g7 bs (hs.map .str) bg pr (cg R), .int (a : Nat)]
def rj : Aa -> Prop := fun (bs, bg, pr, hs, R, a, n) => tS R hs n /\ a < n
def rm : Aa -> T := fun (bs, bg, pr, hs, R, a, n) => (.sh (.tup (mE R hs a)) : T)
structure W3 (X : Cx) (CL : Q.d) : Prop extends cV X where
 aR : Ln X 0 "table"
 j9 : X.env.kindOf "table" = some .cell
 ez : Ln X 1 "number"
 Mz : X.env.kindOf "number" = some .cell
 cF : Gl X "tuple"
 bV : X.mg "tuple" = none
 HM : Fc X CL "seen_at" 2 3 j6 j7 j8
 aL : tK X.K (CL "Table")
 bE : aZ X.K (CL "Table") "signs"
theorem W4 {b : Bx} (E : W3 X CL) {cS : Aa} (h : rj cS) :
   aH X CL b z9 ["table", "number"] (rg cS) (rm cS) := by
 obtain ⟨bs, bg, pr, hs, R, a, n⟩ := cS
 dsimp only [aH, rj, rg, rm] at h ⊢
 obtain ⟨ht, ha⟩ := h
 refine cj (dF E.bV (ds := mE R hs a) (cD (aC (jg (p := fun _ => true) (g := fun d => T.sh (lkS R a d.toS)) (bO (.cons E.ez.1 (.inl E.Mz) (.cons E.aR.1 (.inl E.j9) .nil)) Q.b) E.g.calm (gu (mQ E.aL E.bE (v_ E.aR.1) gF)) (.inr rfl) (fun C s0 H0 f0 b' d hd => ?wM) (by rw [ahK, aic]; have := ht.e; omega)) (t2 := .lst ((mE R hs a).map T.sh)) ?eq)) (ht.look ha).2 E.cF) rfl
 case wM =>
   obtain ⟨x, hx, rfl⟩ := ahY.mp hd
   exact ⟨rfl, fun _ => aC (c_ (bs, hs.map .str, bg, pr, R, a, x, n) (f7 E.HM) (dO Q.b) (ai (ah (v_ (cz (i := 2) rfl Q.b))) (ai (ah (v_ (cz (i := 1) rfl Q.b))) (ai Q.u aD))) (ht.row ha hx) (ur (ht.row ha hx).2.2).2) rfl⟩
 case eq =>
   rw [gE]
   unfold mE
   rw [aia, aia]
   rfl
theorem rq : mw (au z9) ([("table", .cell), ("number", .cell), ("tuple", az)]) = true := Q.i
theorem Rp : aQ ["table", "number"] ["table", "number"] (au z9) := bD
abbrev FI : Stmt := top 10
abbrev FJ : Type := List L3.D × List L3.D × List L3.D × List Str × Q.n × Nat × Nat × List Nat
def uN : FJ -> List L3.D := fun (bs, bg, pr, hs, R, a, n, F) => [g7 bs (hs.map .str) bg pr (cg R), .int (a : Nat), .lst ((cN F).map .int)]
def uO : FJ -> Prop := fun (bs, bg, pr, hs, R, a, n, F) => tS R hs n /\ a < n /\ F.length = n
def uP : FJ -> T := fun (bs, bg, pr, hs, R, a, n, F) => (.sh (.tup ((cN (uo R hs F a)).map .int)) : T)
structure aaN (X : Cx) (CL : Q.d) : Prop extends cV X where
 aR : Ln X 0 "table"
 ez : Ln X 1 "number"
 aT : Ln X 2 "found"
 iO : Ln X 3 "places"
 fH : Ln X 4 "sign"
 ny : Ln X 5 "row"
 cF : Gl X "tuple"
 bV : X.mg "tuple" = none
 aL : tK X.K (CL "Table")
 bE : aZ X.K (CL "Table") "signs"
 aX : aZ X.K (CL "Table") "rows"
theorem aaO {b : Bx} (E : aaN X CL) {cS : FJ} (h : uO cS) :
   aH X CL b FI ["table", "number", "found", "places", "sign", "row"] (uN cS) (uP cS) := by
 obtain ⟨bs, bg, pr, hs, R, a, n, F⟩ := cS
 dsimp only [aH, uO, uN, uP] at h ⊢
 obtain ⟨ht, ha, hF⟩ := h
 have h3 := ht.e
 refine bw E.g E.iO (mK fB (aiB _)) ?_
 refine ja E.g E.fH (fun j δ => ∃ (o4 o5 : Option T), δ = [some (.sh (g7 bs (hs.map .str) bg pr (cg R))), some (.sh (.int (a : Nat))), some (.sh (.lst ((cN F).map .int))), some (.lst (((cN (uo R (hs.take j) F a)).map .int).map T.sh)), o4, o5]) (gu (mQ E.aL E.bE (v_ E.aR.1) gF)) ⟨_, _, rfl⟩ (fun j δ ⟨_, _, e⟩ => by subst e; exact ahS rfl) ?turn ?fin
 case fin =>
   rintro δ ⟨o4, o5, rfl⟩
   rw [ahK, ai7]
   exact cj (dF E.bV (vL E.iO.1) (jY _) E.cF) rfl
 case turn =>
 rintro j d δ hj ⟨o4, o5, rfl⟩
 rw [ahU] at hj
 obtain ⟨x, hx, rfl⟩ := aib.mp hj
 have Og := ah3 hx
 obtain ⟨q1, q2, q3⟩ := ht.row ha Og
 have jD := Wo ht ha Og hF
 have hsn : uo R (hs.take (j + 1)) F a = uo R (hs.take j) F a ++ (iM R a x).map fun r => F.getD r.2.2 0 := by
   unfold uo
   rw [aiO, hx, List.flatMap_append]
   simp
 have CP : j < hs.length := (ahW.mp hx).1
 have hbd : ∀ m, m <= hs.length -> (uo R (hs.take m) F a).length <= 100 * m := by
   intro m
   induction m with
   | zero => intro _; unfold uo; simp
   | succ m ih =>
     intro hm
     have h0 := ih Q.a
     have aaP : hs[m]? = some hs[m] := ahN Q.a
     have h1 := (ht.row ha (ah3 aaP)).2.1
     unfold uo at h0 ⊢
     rw [aiO, aaP, List.flatMap_append, ah1]
     have : (List.flatMap (fun x => (iM R a x).map fun r => F.getD r.2.2 0) (some hs[m]).toList).length <= 100 := by simpa using h1
     omega
 have hb1 := hbd j Q.a
 rw [hsn]
 generalize uo R (hs.take j) F a = L0 at hb1 ⊢
 generalize iM R a x = l at q1 q2 q3 jD ⊢
 refine ja E.g E.ny (fun i δ => ∃ (o5 : Option T), δ = [some (.sh (g7 bs (hs.map .str) bg pr (cg R))), some (.sh (.int (a : Nat))), some (.sh (.lst ((cN F).map .int))), some (.lst (((cN (L0 ++ (l.take i).map fun r => F.getD r.2.2 0)).map .int).map T.sh)), some (.sh (.str x)), o5]) (gu (qE (mq a x) E.u (mQ E.aL E.aX (v_ E.aR.1) ig) (aC (mJ (cB (v_ E.ez.1) (cB (v_ E.fH.1) fB)) (aq rfl)) (t2 := fP (mq a x)) rfl) (nS q1))) ⟨_, by rw [List.take_zero, ajz, aip]; rfl⟩ (fun j δ ⟨_, e⟩ => by subst e; exact ahS rfl) ?qR ?fin2
 case fin2 =>
   rintro δ ⟨o5, rfl⟩
   rw [ahK, ai7]
   exact aE ⟨_, _, rfl⟩
 case qR =>
   rintro i d δ hi ⟨o5, rfl⟩
   rw [ahU] at hi
   obtain ⟨r, hr, rfl⟩ := aib.mp hi
   have hrm := ah3 hr
   have Ko : i < l.length := (ahW.mp hr).1
   refine xP E.iO.1 rfl (ic (v_ E.aT.1) (gJ (aS E.ny) (ah aj) (aO (j := 2) rfl)) (jD r hrm)) rfl (by rw [ahK, ahK, iC, ah1, ahK, ail]; omega) (aE ⟨some (.sh (fM r)), ?_⟩)
   have e : ((cN (L0 ++ (l.take (i + 1)).map fun r => F.getD r.2.2 0)).map L3.D.int).map T.sh = ((cN (L0 ++ (l.take i).map fun r => F.getD r.2.2 0)).map L3.D.int).map T.sh ++ [T.sh (.int (F.getD r.2.2 0 : Nat))] := by
     rw [aiO, hr, ah2, ← ahQ, QG (L0 ++ _), ah2, ah2]
     rfl
   rw [e]
   rfl
theorem qd : mw (au FI) ([("table", av), ("number", av), ("found", av), ("places", av), ("sign", av), ("row", av), ("tuple", az)]) = true := Q.i
theorem W5 : aQ ["table", "number", "found", "places", "sign", "row"] ["table", "number", "found"] (au FI) := bD
def W6 (R : Q.n) (hs : List Str) (n : Nat) : Nat -> Nat
 | 0 => 0
 | k + 1 => cn (d8 R hs n k)
abbrev oG : Stmt := top 6
abbrev oH : Type := List L3.D × List L3.D × List L3.D × List Str × Q.n
def iQ : oH -> List L3.D := fun (bs, bg, pr, hs, R) => [g7 bs (hs.map .str) bg pr (cg R)]
def iR : oH -> Prop := fun (bs, bg, pr, hs, R) => tS R hs pr.length
def iS : oH -> T := fun (bs, bg, pr, hs, R) => (.lst (((cN (eV R hs pr.length)).map .int).map T.sh) : T)
structure HN (X : Cx) (CL : Q.d) : Prop extends cV X where
 aR : Ln X 0 "table"
 j9 : X.env.kindOf "table" = some .cell
 aT : Ln X 1 "found"
 lM : X.env.kindOf "found" = some .cell
 bP : Ln X 2 "many"
 lN : Gl X "numbered"
 bT : Gl X "range"
 cX : Gl X "len"
 T4 : Gl X "set"
 v5 : Fc X CL "numbered" 1 1 jl jm jn
 bU : X.mg "range" = none
 cY : X.mg "len" = none
 T5 : X.mg "set" = none
 W7 : Fc X CL "seen" 3 2 rg rj rm
 aaQ : Fc X CL "led" 1 3 uN uO uP
 aL : tK X.K (CL "Table")
 b4 : aZ X.K (CL "Table") "flats"
theorem HP {b : Bx} (E : HN X CL) {cS : oH} (h : iR cS) :
   aH X CL b oG ["table", "found", "many"] (iQ cS) (iS cS) := by
 obtain ⟨bs, bg, pr, hs, R⟩ := cS
 dsimp only [aH, iR, iQ, iS] at h ⊢
 have ht : tS R hs pr.length := h
 obtain ⟨n, hn⟩ : ∃ n, n = pr.length := ⟨_, rfl⟩
 have hnl : pr.length = n := hn.symm
 rw [hnl] at ht
 obtain ⟨n1, n2⟩ := ht.f
 show dh X CL b _ _ { nx := _, rt := fun wZ _ => wZ = T.lst (((cN (eV R hs pr.length)).map .int).map T.sh), bk := _, ct := _ }
 rw [hnl]
 refine bw E.g E.aT (aC (c_ ((List.range n).map (mE R hs)) E.v5 E.lN (ai (cD (aC (jg (p := fun _ => true) (g := fun d => T.sh (.tup (mE R hs d.rO.toNat))) (bO (.cons E.aR.1 (.inl E.j9) .nil) Q.b) E.g.calm (cK E.bU (ah (dQ hnl E.cY (gw E.aL E.b4 (aS E.aR) jX) E.cX)) Q.a E.bT) (.inr rfl) (fun C s0 H0 f0 b' d hd => ?wM) (by simp [b9, aic]; omega)) (t2 := .lst ((((List.range n).map (mE R hs)).map L3.D.tup).map T.sh)) ?eq)) aD) ⟨?p1, ?p2⟩ (bB (jY _))) (t2 := .lst (((cN (d8 R hs n 0)).map .int).map T.sh)) ?e0) ?_
 case wM =>
   obtain ⟨a, ha, rfl⟩ := fZ hd
   have ha : a < n := by omega
   exact ⟨rfl, fun _ => aC (c_ (bs, bg, pr, hs, R, a, n) (f7 E.W7) (dO Q.b) (ai (ah (v_ (cz (i := 1) rfl Q.b))) (ai Q.u aD)) ⟨ht, ha⟩ (ht.look ha).2) rfl⟩
 case eq =>
   rw [gG (f := fun (a : Nat) => .tup (mE R hs a)) _ (fun a => by show T.sh (.tup (mE R hs (0 + (a : Int)).toNat)) = _; rw [aiK, aij]), aij]
   simp only [aia]
   rfl
 case p1 =>
   intro k hk
   obtain ⟨a, ha, rfl⟩ := ahY.mp hk
   exact Dc (ht.look (aiu.mp ha)).1 Q.c
 case p2 => rw [ahK, ah4]; omega
 case e0 =>
   show T.lst (((cN (bZ (((List.range n).map (mE R hs)).map L3.D.tup))).map .int).map T.sh) = _
   rw [d8, show ((List.range n).map (mE R hs)).map L3.D.tup = (List.range n).map fun (a : Nat) => L3.D.tup (mE R hs a) by rw [aia]; rfl]
 refine bw E.g E.bP aj ?_
 refine Pq E.g (fun m δ => ∃ k, m = n - W6 R hs n k /\ k <= W6 R hs n k /\ W6 R hs n k <= n /\ δ = [some (.sh (g7 bs (hs.map .str) bg pr (cg R))), some (.lst (((cN (d8 R hs n k)).map .int).map T.sh)), some (.sh (.int (W6 R hs n k : Nat)))]) (n - 0) ⟨0, rfl, ah0 _, aiB _, rfl⟩ ?_
 rintro m δ ⟨k, rfl, k1, k2, rfl⟩
 obtain ⟨c1, c2, c3⟩ := LQ (R := R) (hs := hs) n1 k
 have hl := iB (R := R) (hs := hs) (n := n) k
 have hle : (cN (d8 R hs n k)).length <= 1000 := by rw [iC, hl]; omega
 refine ⟨_, _, (S6 (ah (aC (vC E.g E.cY E.T5 (vL E.aT.1) hle E.cX E.T4) (t2 := .sh (.int (cn (d8 R hs n k) : Nat))) (by rw [LW]))) (aS E.bP)).1, fun hp => ?_, fun hp => ?_⟩
 . have hp : W6 R hs n k < cn (d8 R hs n k) := by have := aix hp; omega
   refine bw E.g E.bP (aC (vC E.g E.cY E.T5 (vL E.aT.1) hle E.cX E.T4) (t2 := .sh (.int (cn (d8 R hs n k) : Nat))) (by rw [LW])) ?_
   show dh X CL b _ [some (.sh (g7 bs (hs.map .str) bg pr (cg R))), some (.lst (((cN (d8 R hs n k)).map .int).map T.sh)), some (.sh (.int (cn (d8 R hs n k) : Nat)))] _
   refine bw E.g E.aT (aC (c_ ((List.range n).map (AO R hs (d8 R hs n k))) E.v5 E.lN (ai (cD (aC (jg (δc := [some (.sh (.lst ((cN (d8 R hs n k)).map .int))), some (.sh (g7 bs (hs.map .str) bg pr (cg R)))]) (p := fun _ => true) (g := fun d => T.sh (.tup (AO R hs (d8 R hs n k) d.rO.toNat))) (bO (.cons E.aT.1 (.inl E.lM) (.cons E.aR.1 (.inl E.j9) .nil)) Q.b) E.g.calm (cK E.bU (ah (dQ (ds := (cN (d8 R hs n k)).map .int) (n := n) (by rw [ahK, iC, hl]) E.cY (vL E.aT.1) E.cX)) Q.a E.bT) (.inl ⟨?cap, fun _ _ => QH ..⟩) (fun C s0 H0 f0 b' d hd => ?Mj) (by simp [b9, aic]; omega)) (t2 := .lst ((((List.range n).map (AO R hs (d8 R hs n k))).map L3.D.tup).map T.sh)) ?eq2)) aD) ⟨?p3, ?p4⟩ (bB (jY _))) (t2 := .lst (((cN (d8 R hs n (k + 1))).map .int).map T.sh)) ?e1) (aE ⟨n - W6 R hs n (k + 1), by show n - cn (d8 R hs n k) < n - _; omega, k + 1, rfl, by show k + 1 <= cn (d8 R hs n k); omega, c2, rfl⟩)
   case cap =>
     show _ = [some (T.sh (T.bM (.lst (((cN (d8 R hs n k)).map L3.D.int).map T.sh)))), some (T.sh (T.bM (.sh (g7 bs (hs.map .str) bg pr (cg R)))))]
     rw [fK, T.bM]
   case Mj =>
     obtain ⟨a, ha, rfl⟩ := fZ hd
     have ha : a < n := by omega
     refine ⟨rfl, fun _ => aC (aF (ds := AO R hs (d8 R hs n k) a) (ak (ic (v_ (cz (i := 1) rfl Q.b)) Q.u (ly (by rw [hl]; exact ha))) (ak (aC (c_ (bs, bg, pr, hs, R, a, n, d8 R hs n k) (f7 E.aaQ) (dO Q.b) (ai (ah (v_ (cz (i := 2) rfl Q.b))) (ai Q.u (ai (ah (v_ (cz (i := 1) rfl Q.b))) aD))) ⟨ht, ha, hl⟩ (jY _)) rfl) aK)) (aq rfl)) rfl⟩
   case eq2 =>
     rw [gG (f := fun (a : Nat) => .tup (AO R hs (d8 R hs n k) a)) _ (fun a => by show T.sh (.tup (AO R hs (d8 R hs n k) (0 + (a : Int)).toNat)) = _; rw [aiK, aij]), aij]
     simp only [aia]
     rfl
   case p3 =>
     intro d hd
     obtain ⟨a, _, rfl⟩ := ahY.mp hd
     exact QF _ _
   case p4 => rw [ahK, ah4]; omega
   case e1 =>
     show T.lst (((cN (bZ (((List.range n).map (AO R hs (d8 R hs n k))).map L3.D.tup))).map .int).map T.sh) = _
     rw [d8, show ((List.range n).map (AO R hs (d8 R hs n k))).map L3.D.tup = (List.range n).map fun (a : Nat) => L3.D.tup (AO R hs (d8 R hs n k) a) by rw [aia]; rfl]
 . have hp : cn (d8 R hs n k) <= W6 R hs n k := by have := aiL hp; omega
   obtain ⟨k, rfl⟩ : ∃ j, k = j + 1 := by
     cases k with
     | zero => have : cn (d8 R hs n 0) <= 0 := hp; omega
     | succ k => exact ⟨k, rfl⟩
   have k1 : k + 1 <= cn (d8 R hs n k) := k1
   have k2 : cn (d8 R hs n k) <= n := k2
   rw [Wn Q.a hp]
   exact cj (vM E.aT.1) rfl
theorem eY : mw (au oG) ([("table", .cell), ("found", .cell), ("many", av), ("numbered", az), ("range", az), ("len", az), ("set", az)]) = true := Q.i
theorem Dt : aQ ["table", "found", "many"] ["table"] (au oG) := bD
def mgO (F : List Nat) : L3.D -> L3.D
 | .tup [a, .tup ds, .int i] => .tup [a, .tup (ds.filter fun d => !decide (d.N8.toS ∈ cM)), .int (F.getD i.toNat 0 : Nat)]
 | d => d
theorem MA (F : List Nat) (r : R7) : mgO F (fM r) = fM (r.1, r.2.1.filter It.told, F.getD r.2.2 0) := by
 show L3.D.tup [.tup r.1, .tup ((r.2.1.map It.d).filter fun d => !decide (d.N8.toS ∈ cM)), .int (F.getD (r.2.2 : Int).toNat 0 : Nat)] = _
 have e : ((fun d : L3.D => !decide (d.N8.toS ∈ cM)) ∘ It.d) = It.told := by
   funext x
   show (!decide (x.sj.w ∈ cM)) = x.told
   rw [uc, Bool.not_not]
 rw [ajU, e, aij]
 rfl
abbrev iE : Stmt := top 12
abbrev iF : Type := List R7 × List Nat × Nat
def gb : iF -> List L3.D := fun (l, F, n) => [.lst (l.map fM), .lst ((cN F).map .int)]
def gf : iF -> Prop := fun (l, F, n) => l.length <= 100 /\ (∀ r ∈ l, IQ n r) /\ F.length = n
def gi : iF -> T := fun (l, F, n) => (.lst (((nU F l).map fM).map T.sh) : T)
structure xh (X : Cx) (CL : Q.d) : Prop extends cV X where
 bC : Ln X 0 "rows"
 aT : Ln X 1 "found"
 lM : X.env.kindOf "found" = some .cell
 bV : X.mg "tuple" = none
 vZ : Fc X CL "told" 1 1 kW kX kY
theorem xj {b : Bx} (E : xh X CL) {cS : iF} (h : gf cS) :
   aH X CL b iE ["rows", "found"] (gb cS) (gi cS) := by
 obtain ⟨l, F, n⟩ := cS
 dsimp only [aH, gf, gb, gi] at h ⊢
 obtain ⟨h1, h2, h3⟩ := h
 refine cj (aC (jg (p := fun _ => true) (g := fun d => T.sh (mgO F d)) (bO (.cons E.aT.1 (.inl E.lM) .nil) Q.b) E.g.calm (gu (v_ E.bC.1)) (.inr rfl) (fun C s0 H0 f0 b' d hd => ?wM) (by rw [ahK, aic]; omega)) ?eq) rfl
 case wM =>
   obtain ⟨r, hr, rfl⟩ := ahY.mp hd
   have W2 := h2 r hr
   refine ⟨rfl, fun _ => aC (aF (ds := [.tup r.1, .tup ((r.2.1.filter It.told).map It.d), .int (F.getD r.2.2 0 : Nat)]) (ak (sf E.bV (CB (v_ (cy (i := 0) rfl Q.b)) (ah aj) (aO (j := 0) rfl)) (dO Q.b)) (ak (dF E.bV (cD (aC (c_ r.2.1 (f7 E.vZ) (dO Q.b) (ai (gJ Q.u (ah aj) (aO (j := 1) rfl)) aD) W2.e (bB (bR _))) (t2 := .lst (((r.2.1.filter It.told).map It.d).map T.sh)) rfl)) (bR _) (dO Q.b)) (ak (ic (v_ (cz (i := 1) rfl Q.b)) (gJ Q.u (ah aj) (aO (j := 2) rfl)) (ly (by rw [h3]; exact W2.a))) aK))) (aq rfl)) ?_⟩
   show T.sh _ = T.sh (mgO F (fM r))
   rw [MA]
   rfl
 case eq =>
   rw [gE]
   unfold nU
   simp only [aia]
   refine congrArg T.lst (aik fun r _ => ?_)
   show T.sh (mgO F (fM r)) = _
   rw [MA]
   rfl
theorem jL : mw (au iE) ([("rows", av), ("found", .cell)]) = true := Q.i
theorem v7 : aQ ["rows", "found"] ["rows", "found"] (au iE) := bD
abbrev rz : Stmt := top 11
abbrev rA : Type := List L3.D × List L3.D × List It × List Str × Q.n
def lO : rA -> List L3.D := fun (bs, pr, bg, hs, R) => [g7 bs (hs.map .str) (bg.map It.d) pr (cg R)]
def lP : rA -> Prop := fun (bs, pr, bg, hs, R) => tS R hs pr.length /\ hs.Nodup /\ D.bq bs = true /\ D.bq pr = true /\ bg.length <= 1000
def jM : rA -> T := fun (bs, pr, bg, hs, R) => (.ins "Table" (fG bs (hs.map .str) ((bg.filter It.told).map It.d) (jZ pr (eV R hs pr.length)) (cg (eW R hs (eV R hs pr.length) (cn (eV R hs pr.length) * hs.length)))) : T)
structure MB (X : Cx) (CL : Q.d) : Prop extends cV X where
 aR : Ln X 0 "table"
 j9 : X.env.kindOf "table" = some .cell
 aT : Ln X 1 "found"
 lM : X.env.kindOf "found" = some .cell
 ez : Ln X 2 "number"
 v8 : Ln X 3 "chosen"
 bC : Ln X 4 "rows"
 FL : Ln X 5 "place"
 fH : Ln X 6 "sign"
 lH : Ln X 7 "flats"
 jx : Gl X "classes"
 bT : Gl X "range"
 cX : Gl X "len"
 BU : Gl X "enumerate"
 kj : Gl X "merged_rows"
 q8 : Gl X "Table"
 Du : Gl X "told"
 oJ : Fc X CL "classes" 4 1 iQ iR iS
 bU : X.mg "range" = none
 cY : X.mg "len" = none
 BV : X.mg "enumerate" = none
 xm : Fc X CL "merged_rows" 2 2 gb gf gi
 uM : Fm X CL "Table" 1 6 gS gT gU
 vZ : Fc X CL "told" 1 1 kW kX kY
 aL : tK X.K (CL "Table")
 bE : aZ X.K (CL "Table") "signs"
 cG : aZ X.K (CL "Table") "boxes"
 b4 : aZ X.K (CL "Table") "flats"
 dD : aZ X.K (CL "Table") "begin"
 aX : aZ X.K (CL "Table") "rows"
theorem MC {b : Bx} (E : MB X CL) {cS : rA} (h : lP cS) :
   aH X CL b rz ["table", "found", "number", "chosen", "rows", "place", "sign", "flats"] (lO cS) (jM cS) := by
 obtain ⟨bs, pr, bg, hs, R⟩ := cS
 dsimp only [aH, lP, lO, jM] at h ⊢
 obtain ⟨ht, nd, ib, ip, gl⟩ := h
 have Gq := ht
 obtain ⟨F, hF⟩ : ∃ F, F = eV R hs pr.length := ⟨_, rfl⟩
 obtain ⟨n, hn⟩ : ∃ n, n = pr.length := ⟨_, rfl⟩
 have hl : F.length = n := by rw [hF, hn]; exact iB _
 have hN : bZ F = F := by rw [hF]; exact ji _
 rw [← hn] at ht
 have hf := ht.f
 have OS : cn F <= n := by
   have := x9 (n := n) F Q.a
   rw [hN] at this
   exact this
 have hH := ht.e
 have tl := ht.least nd hN hl
 show dh X CL b _ [some (.sh (g7 bs (hs.map .str) (bg.map It.d) pr (cg R))), none, none, none, none, none, none, none] { nx := _, rt := fun wZ _ => wZ = T.ins "Table" (fG bs (hs.map .str) ((bg.filter It.told).map It.d) (jZ pr (eV R hs pr.length)) (cg (eW R hs (eV R hs pr.length) (cn (eV R hs pr.length) * hs.length)))), bk := _, ct := _ }
 rw [← hF]
 refine bw E.g E.aT (aC (c_ (bs, bg.map It.d, pr, hs, R) E.oJ E.jx (ai (aS E.aR) aD) Gq (bB (jY _))) (t2 := .lst (((cN F).map .int).map T.sh)) (by rw [hF]; rfl)) ?_
 have hll : ((cN F).map L3.D.int).length = n := by rw [ahK, iC, hl]
 have ef : (((b9 0 (n : Int).toNat).filter fun d => decide (((F.idxOf (F.getD d.rO.toNat 0) : Nat) : Int) = d.rO)).map fun d => T.sh (.int d.rO)) = ((cN ((List.range (cn F)).map fun c => F.idxOf c)).map L3.D.int).map T.sh := by
   rw [← Dg hN, hl]
   unfold cN b9
   rw [aij, ajU, aia, aia, aia]
   have e1 : ((fun d : L3.D => decide (((F.idxOf (F.getD d.rO.toNat 0) : Nat) : Int) = d.rO)) ∘ fun (k : Nat) => L3.D.int (0 + (k : Int))) = fun (k : Nat) => decide (F.idxOf (F.getD k 0) = k) := by
     funext k
     show decide (((F.idxOf (F.getD (0 + (k : Int)).toNat 0) : Nat) : Int) = 0 + (k : Int)) = _
     rw [aiK, aij]
     rw [decide_eq_decide]
     omega
   rw [e1]
   exact aik fun k _ => by show T.sh (.int (0 + (k : Int))) = _; rw [aiK]; rfl
 refine mU (δc := [some (.sh (.lst ((cN F).map .int)))]) (p := fun d => decide (((F.idxOf (F.getD d.rO.toNat 0) : Nat) : Int) = d.rO)) (gg := fun d => T.sh (.int d.rO)) E.g E.v8 (bO (.cons E.aT.1 (.inl E.lM) .nil) Q.b) (cK E.bU (ah (dQ hll E.cY (vL E.aT.1) E.cX)) Q.a E.bT) (.inl ⟨?cap, fun _ _ => rfl⟩) (fun C s0 H0 f0 b' d hd => ?wM) (by simp [b9, aic]; omega) ?rest (by exact ahS rfl) (iK ⟨_, rfl⟩)
 case cap =>
   show _ = [some (T.sh (T.bM (.lst (((cN F).map L3.D.int).map T.sh))))]
   rw [fK]
 case wM =>
   obtain ⟨a, ha, rfl⟩ := fZ hd
   have ha : a < n := by omega
   have hm : F.getD a 0 ∈ F := m5 Q.a
   obtain ⟨j1, j2⟩ := vQ hm
   exact ⟨(fQ (ah (vp (j := F.idxOf (F.getD a 0)) (ah (v_ (cz (i := 1) rfl Q.b))) (ah (ic (v_ (cz (i := 1) rfl Q.b)) Q.u (ly (ks := F) (f := a) Q.a))) j1 j2)) Q.u).1, fun _ => aC (v_ (cy (i := 0) rfl Q.b)) rfl⟩
 case rest =>
 rw [ef]
 refine bw E.g E.bC (aC qD (t2 := .dct (aJ (cg (eW R hs F 0)))) rfl) ?_
 obtain ⟨ch, Ec⟩ : ∃ ch, ch = (List.range (cn F)).map fun c => F.idxOf c := ⟨_, rfl⟩
 have hcl : ch.length = cn F := by rw [Ec, ahK, ah4]
 have kE : ∀ c, c < cn F -> ch.getD c 0 = F.idxOf c := fun c hc => by rw [Ec, ahV, ahU, aiJ hc]; rfl
 rw [← Ec]
 have hci : (cN ch).map L3.D.int = ch.map fun (c : Nat) => L3.D.int (c : Int) := by unfold cN; rw [aia]; rfl
 refine J8 E.g (EI E.g.nd E.g.calm E.FL E.ez) (fun j δ => ∃ (o2 o5 o6 : Option T), δ = [some (.sh (g7 bs (hs.map .str) (bg.map It.d) pr (cg R))), some (.lst (((cN F).map .int).map T.sh)), o2, some (.sh (.lst ((cN ch).map .int))), some (.dct (aJ (cg (eW R hs F (j * hs.length))))), o5, o6, none]) (Kf (f := fun (c : Nat) => L3.D.int (c : Int)) (l := ch) 0 E.BV (aC (vFL (ds := (cN ch).map .int) E.v8.1 rfl) (t2 := .sh (.lst (ch.map fun (c : Nat) => L3.D.int (c : Int)))) (by rw [hci])) E.BU) ⟨_, _, _, by rw [Nat.zero_mul]; rfl⟩ (fun j δ ⟨_, _, _, e⟩ => by subst e; intro i hi; simp only [ahT, ah9, aiS] at hi; rcases hi with rfl | rfl <;> exact ahS rfl) ?turn ?fin
 case turn =>
   rintro j d δ hj ⟨o2, o5, o6, rfl⟩
   rw [ahU] at hj
   obtain ⟨q, hq, rfl⟩ := aib.mp hj
   have hql : q < ch.length := aiu.mp (ah3 hq)
   have hqj : q = j := by
     have := (ahW.mp hq)
     obtain ⟨h1, h2⟩ := this
     rw [akf] at h2
     exact h2.symm
   subst hqj
   rw [hcl] at hql
   refine ⟨[.int (q : Nat), .int (F.idxOf q : Nat)], by rw [kE q hql]; rfl, ?_⟩
   obtain ⟨f1, f2⟩ := kh hN hql
   show dh X CL b _ [some (.sh (g7 bs (hs.map .str) (bg.map It.d) pr (cg R))), some (.lst (((cN F).map .int).map T.sh)), some (.sh (.int (F.idxOf q : Nat))), some (.sh (.lst ((cN ch).map .int))), some (.dct (aJ (cg (eW R hs F (q * hs.length))))), some (.sh (.int (q : Nat))), o6, none] _
   refine ja E.g E.fH (fun t δ => ∃ (o6 : Option T), δ = [some (.sh (g7 bs (hs.map .str) (bg.map It.d) pr (cg R))), some (.lst (((cN F).map .int).map T.sh)), some (.sh (.int (F.idxOf q : Nat))), some (.sh (.lst ((cN ch).map .int))), some (.dct (aJ (cg (eW R hs F (q * hs.length + t))))), some (.sh (.int (q : Nat))), o6, none]) (gu (mQ E.aL E.bE (v_ E.aR.1) gF)) ⟨_, rfl⟩ (fun j δ ⟨_, e⟩ => by subst e; exact ahS rfl) ?qR ?fin2
   case fin2 =>
     rintro δ ⟨o6, rfl⟩
     rw [ahK, show q * hs.length + hs.length = (q + 1) * hs.length by rw [Nat.add_mul, Nat.one_mul]]
     exact aE ⟨_, _, _, rfl⟩
   case qR =>
   rintro t d δ WY ⟨o6, rfl⟩
   rw [ahU] at WY
   obtain ⟨x, hx, rfl⟩ := aib.mp WY
   have Og := ah3 hx
   have Yr : t < hs.length := (ahW.mp hx).1
   have ex : hs.getD t Str.empty = x := by rw [ahV, hx]; rfl
   obtain ⟨q1, q2, q3⟩ := ht.row (i := F.idxOf q) Q.a Og
   have GN := QN R F nd (j := q) Yr
   rw [ex] at GN
   refine yW (kvs := aJ (cg (eW R hs F (q * hs.length + t)))) (mq q x) E.u E.bC.1 (aC (c_ (iM R (F.idxOf q) x, F, n) E.xm E.kj (ai (ah (qE (mq (F.idxOf q) x) E.u (mQ E.aL E.aX (v_ E.aR.1) ig) (aC (mJ (cB (v_ E.ez.1) (cB (v_ E.fH.1) fB)) (aq rfl)) (t2 := fP (mq (F.idxOf q) x)) rfl) (nS q1))) (ai (vL E.aT.1) aD)) ⟨q2, q3, hl⟩ (bB (Wt q3))) (t2 := .lst (((nU F (iM R (F.idxOf q) x)).map fM).map T.sh)) rfl) (aC (mJ (cB (v_ E.FL.1) (cB (v_ E.fH.1) fB)) (aq rfl)) (t2 := fP (mq q x)) rfl) rfl (by rw [iu, kN]; exact GN) ?z (aE ⟨some (.sh (.str x)), ?e⟩)
   case z =>
     unfold aJ cg eW
     rw [ahK, ahK, ahK, ah4]
     have : q * hs.length <= 100 * 3 := akj Q.a hH
     omega
   case e =>
     show _ = [_, _, _, _, some (T.dct (aJ (cg (eW R hs F (q * hs.length + t + 1))))), _, _, _]
     rw [L4 R hs F Yr, ex]
     unfold cg aJ
     rw [ah2, ah2]
     rfl
 case fin =>
   rintro δ ⟨o2, o5, o6, rfl⟩
   rw [ahK, ah4, hcl]
   refine mU (p := fun _ => true) (gg := fun d => T.sh (pr.getD d.rO.toNat .non)) E.g E.lH (bO (.cons E.aR.1 (.inl E.j9) .nil) Q.b) (gu (v_ E.v8.1)) (.inr rfl) (fun C s0 H0 f0 b' d hd => ?WW) (by rw [ahK, iC, hcl, aic]; omega) ?Mw (by exact ahS rfl) (iK ⟨_, rfl⟩)
   case WW =>
     rw [hci] at hd
     obtain ⟨c, hc, rfl⟩ := ahY.mp hd
     have hcn : c < pr.length := by
       rw [Ec] at hc
       obtain ⟨k, hk, rfl⟩ := ahY.mp hc
       have := (kh hN (aiu.mp hk)).1
       omega
     refine ⟨rfl, fun _ => ic (mQ E.aL E.b4 (v_ (cz (i := 1) rfl Q.b)) jX) Q.u ?_⟩
     refine aO (j := c) ?_
     rw [ahN hcn]
     show some pr[c] = some (pr.getD (c : Int).toNat .non)
     rw [aij, ahV, ahN hcn]
     rfl
   case Mw =>
   have ep : (((cN ch).map L3.D.int).filter fun _ => true).map (fun d => T.sh (pr.getD d.rO.toNat .non)) = (jZ pr F).map T.sh := by
     rw [gE, hci, Ec]
     unfold jZ
     simp only [aia]
     refine aik fun c _ => ?_
     show T.sh (pr.getD ((F.idxOf c : Nat) : Int).toNat .non) = T.sh (pr.getD (F.idxOf c) .non)
     rw [aij]
   rw [ep]
   exact cj (aC (mk_ (bs, hs.map .str, (bg.filter It.told).map It.d, jZ pr F, cg Q.s, true) E.uM E.q8
     (ai (gw E.aL E.cG (aS E.aR) mZ) (ai (gw E.aL E.bE (aS E.aR) gF) (ai (cD (aC (c_ bg E.vZ E.Du (ai (gw E.aL E.dD (aS E.aR) jW) aD) gl (bB (bR _))) (t2 := .lst (((bg.filter It.told).map It.d).map T.sh)) rfl)) (ai (vL E.lH.1) (ai (vE E.bC.1 rfl (by rw [T.bM, jw])) aD)))))
     ⟨bR _, ib, cL _, uv ip F, iw tl, by rw [kN]; exact tl.c, by unfold cg; rw [ahK]; exact tl.d⟩ (jJ ib (cL _) (bR _) (uv ip F) (iw tl))) (t2 := .ins "Table" (fG bs (hs.map .str) ((bg.filter It.told).map It.d) (jZ pr F) (cg Q.s))) rfl) rfl
theorem b6 : mw (au rz) ([("table", .cell), ("found", .cell), ("number", av), ("chosen", av), ("rows", av), ("place", av), ("sign", av), ("flats", av), ("classes", az), ("range", az), ("len", az), ("enumerate", az), ("merged_rows", az), ("Table", az), ("told", az)]) = true := Q.i
theorem HQ : aQ ["table", "found", "number", "chosen", "rows", "place", "sign", "flats"] ["table"] (au rz) := bD
abbrev oK : Stmt := top 31
abbrev sG : Type := List It
def iU : sG -> List L3.D := fun xs => [.tup (xs.map It.d)]
def iV : sG -> Prop := fun xs => xs.length <= 1000
def iW : sG -> T := fun xs => (.lst (((xs.filter It.told).map It.d).map T.sh) : T)
structure HR (X : Cx) (CL : Q.d) : Prop extends cV X where
 bC : Ln X 0 "rows"
theorem HS {b : Bx} (E : HR X CL) {xs} (h : iV xs) :
   aH X CL b oK ["rows"] (iU xs) (iW xs) := by
 dsimp only [aH, iV, iU, iW] at h ⊢
 have h : xs.length <= 1000 := h
 refine cj (aC (jg (p := fun d => !decide (d.N8.toS ∈ cM)) (g := fun d => T.sh d) (bO .nil Q.b) E.g.calm (JS (v_ E.bC.1)) (.inr rfl) (fun C s0 H0 f0 b' d hd => ?wM) (ajh (gD (by simp; omega)))) ?eq) rfl
 case wM =>
   obtain ⟨r, hr, rfl⟩ := ahY.mp hd
   exact ⟨(EE (l := cM) (gJ Q.u (ah aj) (aak r.sj)) (ah (aF (ds := cM.map .str) (qA (l := cM) rfl) (aq rfl))) rfl rfl).1, fun _ => v_ (cy (i := 0) rfl Q.b)⟩
 case eq =>
   refine congrArg T.lst ?_
   have e : ((fun d : L3.D => !decide (d.N8.toS ∈ cM)) ∘ It.d) = It.told := by
     funext x
     show (!decide (x.sj.w ∈ cM)) = x.told
     rw [uc, Bool.not_not]
   rw [ajU, e]
theorem Dv : mw (au oK) ([("rows", av)]) = true := Q.i
theorem Dw : aQ ["rows"] ["rows"] (au oK) := bD
abbrev uQ : Stmt := top 14
abbrev Ab : Type := Int
def oM : Ab -> List L3.D := fun i => [.int i]
def oN : Ab -> Prop := fun i => True
def oO : Ab -> T := fun i => (.sh (.bl true) : T)
structure Rq (X : Cx) (CL : Q.d) : Prop extends cV X where
 aT : Ln X 0 "found"
 c7 : Gl X "isinstance"
 aaS : Gl X "int"
 g_bool : Gl X "bool"
 c9 : X.mg "isinstance" = none
 aaT : X.mg "int" = none
 W8 : X.mg "bool" = none
theorem Rr {b : Bx} (E : Rq X CL) {i} (h : oN i) :
   aH X CL b uQ ["found"] (oM i) (oO i) := by
 dsimp only [aH, oN, oM, oO] at h ⊢
 exact cj (JM (isI E.c9 E.aaT E.c7 E.aaS (aS E.aT)) (fun _ => JL (Vi (isB E.c9 E.W8 E.c7 E.g_bool (aS E.aT))))) rfl
theorem rB : mw (au uQ) ([("found", av), ("isinstance", az), ("int", az), ("bool", az)]) = true := Q.i
theorem MD : aQ ["found"] ["found"] (au uQ) := bD
abbrev Ac : Stmt := top 32
abbrev Ad : Type := List L3.D × List L3.D × List L3.D × (List (Str × Int)) × List Str × List It × List L3.D × Q.n × List Nat
def rC : Ad -> List L3.D := fun (Oh, Oi, Oj, bs, hs, bg, pr, R, F) => [g7 Oh (hs.map .str) Oi Oj (cg Q.s), .lst ((cN F).map .int), Yp bs hs bg pr R]
def rD : Ad -> Prop := fun (Oh, Oi, Oj, bs, hs, bg, pr, R, F) => tS R hs pr.length /\ hs.Nodup /\ bZ F = F /\ F.length = pr.length
def rE : Ad -> T := fun (Oh, Oi, Oj, bs, hs, bg, pr, R, F) => (.sh (.bl true) : T)
structure W9 (X : Cx) (CL : Q.d) : Prop extends cV X where
 aR : Ln X 0 "table"
 aT : Ln X 1 "found"
 aP : Ln X 2 "parts"
 ez : Ln X 3 "number"
 fH : Ln X 4 "sign"
 fN : Ln X 5 "steps"
 MF : Ln X 6 "due"
 ny : Ln X 7 "row"
 Ae : Ln X 8 "step"
 bT : Gl X "range"
 pG : Gl X "max"
 cF : Gl X "tuple"
 nB : Gl X "_law_told"
 c7 : Gl X "isinstance"
 gA : Gl X "list"
 Af : Gl X "_law_whole"
 cX : Gl X "len"
 bU : X.mg "range" = none
 pH : X.mg "max" = none
 bV : X.mg "tuple" = none
 sH : Fc X CL "_law_told" 1 1 iU iV iW
 c9 : X.mg "isinstance" = none
 gB : X.mg "list" = none
 Rt : Fc X CL "_law_whole" 1 1 oM oN oO
 cY : X.mg "len" = none
 aL : tK X.K (CL "Table")
 aX : aZ X.K (CL "Table") "rows"
theorem Xa {b : Bx} (E : W9 X CL) {cS : Ad} (h : rD cS) :
   aH X CL b Ac ["table", "found", "parts", "number", "sign", "steps", "due", "row", "step"] (rC cS) (rE cS) := by
 obtain ⟨Oh, Oi, Oj, bs, hs, bg, pr, R, F⟩ := cS
 dsimp only [aH, rD, rC, rE] at h ⊢
 obtain ⟨ht, nd, hN, hl⟩ := h
 have hf := ht.f
 have Ke : F ≠ [] := fun z => by rw [z] at hl; have : 0 = pr.length := hl; omega
 have hFm : mC F + 1 = cn F := by
   have := zu Ke
   rw [hN] at this
   exact this
 obtain ⟨m1, m2⟩ := Wj Ke
 have tl := ht.least nd hN hl
 have hc := tl.f
 have hH := ht.e
 obtain ⟨P, hP⟩ : ∃ P : L3.D, P = .lst [.lst (bs.map bJ), .lst (hs.map .str), .tup (bg.map It.d), .lst pr, .dct (cR (cg R))] := ⟨_, rfl⟩
 obtain ⟨TB, hTB⟩ : ∃ TB : L3.D, TB = g7 Oh (hs.map .str) Oi Oj (cg Q.s) := ⟨_, rfl⟩
 show dh X CL b _ [some (.sh (g7 Oh (hs.map .str) Oi Oj (cg Q.s))), some (.sh (.lst ((cN F).map .int))), some Q.z, none, none, none, none, none, none] _
 refine ja E.g E.ez (fun j δ => ∃ (o3 o4 o5 o6 o7 o8 : Option T), δ = [some (.sh (g7 Oh (hs.map .str) Oi Oj (cg Q.s))), some (.sh (.lst ((cN F).map .int))), some Q.z, o3, o4, o5, o6, o7, o8]) (cK E.bU (ah (aC (bH (ah (ua E.g E.pH (aS E.aT) m1 m2 E.pG)) (ah aj)) (t2 := .sh (.int (cn F : Nat))) (by rw [← hFm]; rfl))) Q.a E.bT) ⟨_, _, _, _, _, _, rfl⟩ (fun j δ ⟨_, _, _, _, _, _, e⟩ => by subst e; exact ahS rfl) ?turn ?fin
 case fin =>
   rintro δ ⟨o3, o4, o5, o6, o7, o8, rfl⟩
   have wK : (cR (cg Q.s)).length = cn F * hs.length := by unfold cR cg eW; rw [ahK, ahK, ahK, ah4]
   have hm3 : cn F * hs.length <= 100 * 3 := akj Q.a hH
   refine cj (aC (fQ (ah (aC (K7 E.cY (gw E.aL E.aX (aS E.aR) ig) (by rw [wK]; omega) E.cX) (t2 := .sh (.int ((cn F * hs.length : Nat) : Int))) (by rw [wK]))) (ah (jB (ah (aC (bH (ah (ua E.g E.pH (aS E.aT) m1 m2 E.pG)) (ah aj)) (t2 := .sh (.int (cn F : Nat))) (by rw [← hFm]; rfl))) (ah (dQ (ahK ..) E.cY (cu (aS E.aP) (ah aj) (aO (j := 1) rfl)) E.cX)) (.inl ⟨by omega, by omega⟩)))).2 (t2 := .sh (.bl true)) ?_) rfl
   rw [ai0 (by rw [Int.natCast_mul])]
 case turn =>
 rintro c d δ hj ⟨o3, o4, o5, o6, o7, o8, rfl⟩
 obtain ⟨rfl, CP⟩ := jE hj
 rw [aiK]
 have hcn : c < cn F := by omega
 obtain ⟨f1, f2⟩ := kh hN hcn
 have hcm : c ∈ F := by rw [← f2]; exact m5 f1
 obtain ⟨j1, j2⟩ := vQ hcm
 refine ja E.g E.fH (fun j δ => ∃ (o4 o5 o6 o7 o8 : Option T), δ = [some (.sh (g7 Oh (hs.map .str) Oi Oj (cg Q.s))), some (.sh (.lst ((cN F).map .int))), some Q.z, some (.sh (.int (c : Nat))), o4, o5, o6, o7, o8]) (gu (ic (v_ E.aP.1) (ah aj) (aO (j := 1) rfl))) ⟨_, _, _, _, _, rfl⟩ (fun j δ ⟨_, _, _, _, _, e⟩ => by subst e; exact ahS rfl) ?qR ?fin2
 case fin2 =>
   rintro δ ⟨o4, o5, o6, o7, o8, rfl⟩
   exact aE ⟨_, _, _, _, _, _, rfl⟩
 case qR =>
 rintro t d δ WY ⟨o4, o5, o6, o7, o8, rfl⟩
 rw [ahU] at WY
 obtain ⟨x, hx, rfl⟩ := aib.mp WY
 have Og := ah3 hx
 obtain ⟨u, hu, ex⟩ := L6 Og
 have hv := zy (R := R) (F := F) nd hcn hu
 rw [ex] at hv
 obtain ⟨q1, q2, q3⟩ := ht.row (i := F.idxOf c) Q.a Og
 generalize iM R (F.idxOf c) x = l at hv q1 q2 q3
 refine bw E.g E.fN (aC (KP (mq c x) E.u (mQ E.aL E.aX (v_ E.aR.1) ig) (aC (mJ (cB (v_ E.ez.1) (cB (v_ E.fH.1) fB)) (aq rfl)) (t2 := fP (mq c x)) rfl) Vc) (t2 := .sh (.lst ((nU F l).map fM))) (by rw [nS hv]; rfl)) ?_
 refine bw E.g E.MF (aC (mK fB (aiB _)) (t2 := .lst ((((nU F l).take 0).map fM).map T.sh)) rfl) ?_
 have hml : (nU F l).length = l.length := by unfold nU; rw [ahK]
 refine ja E.g E.ny (fun i δ => ∃ (o7 : Option T), δ = [some (.sh (g7 Oh (hs.map .str) Oi Oj (cg Q.s))), some (.sh (.lst ((cN F).map .int))), some Q.z, some (.sh (.int (c : Nat))), some (.sh (.str x)), some (.sh (.lst ((nU F l).map fM))), some (.lst ((((nU F l).take i).map fM).map T.sh)), o7, o8]) (gu (qE (mq (F.idxOf c) x) E.u (ic (v_ E.aP.1) (ah aj) (aO (j := 4) rfl)) (aC (mJ (cB (vp (j := F.idxOf c) (aS E.aT) (aS E.ez) j1 j2) (cB (v_ E.fH.1) fB)) (aq rfl)) (t2 := fP (mq (F.idxOf c) x)) rfl) (nS q1))) ⟨_, rfl⟩ (fun j δ ⟨_, e⟩ => by subst e; exact ahS rfl) ?Mv ?WV
 case Mv =>
   rintro i d δ hi ⟨o7, rfl⟩
   rw [ahU] at hi
   obtain ⟨r, hr, rfl⟩ := aib.mp hi
   have W2 := q3 r (ah3 hr)
   have Ko : i < l.length := (ahW.mp hr).1
   refine xP E.MF.1 rfl (aC (aF (ds := [.tup r.1, .tup ((r.2.1.filter It.told).map It.d), .int (F.getD r.2.2 0 : Nat)]) (ak (CB (v_ E.ny.1) (ah aj) (aO (j := 0) rfl)) (ak (dF E.bV (cD (aC (c_ r.2.1 E.sH E.nB (ai (gJ (aS E.ny) (ah aj) (aO (j := 1) rfl)) aD) W2.e (bB (bR _))) (t2 := .lst (((r.2.1.filter It.told).map It.d).map T.sh)) rfl)) (bR _) E.cF) (ak (ic (v_ E.aT.1) (gJ (aS E.ny) (ah aj) (aO (j := 2) rfl)) (ly (by rw [hl]; exact W2.a))) aK))) (aq rfl)) (t2 := .sh (fM (r.1, r.2.1.filter It.told, F.getD r.2.2 0))) rfl) rfl (by rw [ahK, ahK, ail, hml]; omega) (aE ⟨some (.sh (fM r)), ?_⟩)
   have e : (((nU F l).take (i + 1)).map fM).map T.sh = (((nU F l).take i).map fM).map T.sh ++ [T.sh (fM (r.1, r.2.1.filter It.told, F.getD r.2.2 0))] := by
     have : (nU F l)[i]? = some (r.1, r.2.1.filter It.told, F.getD r.2.2 0) := by unfold nU; rw [ahU, hr]; rfl
     rw [aiO, this, ah2, ah2]
     rfl
   rw [e]
   rfl
 case WV =>
 rintro δ ⟨o7, rfl⟩
 rw [ahK, show (nU F l).take l.length = nU F l from List.take_of_length_le (by rw [hml]; exact ah0 _)]
 have ZT : ∀ r ∈ nU F l, IQ (cn F) r := fun r hr => by
   obtain ⟨r0, hr0, rfl⟩ := ahY.mp hr
   have w := q3 r0 hr0
   exact ⟨su hN (by rw [hl]; exact w.a), w.b, w.c, fun x hx => w.d x (ajr.mp hx).1, aiD (aj2 _ _) w.e⟩
 have dA : jv 60 (.lst ((nU F l).map fM)) := .lst fun d hd => by
   obtain ⟨r, hr, rfl⟩ := ahY.mp hd
   exact Dd (LX (ZT r hr)) Q.c
 refine jQ (yO (pB (kg (jT (isL E.c9 E.gB E.c7 E.gA (aS E.fN)))) (fun _ => pP (mO E.u (d1 := .lst ((nU F l).map fM)) (d2 := .lst ((nU F l).map fM)) (aS E.fN) (vL E.MF.1) dA dA).1))) (fun hp => ?no) (fun _ => aE ?_)
 case no =>
   exfalso
   have hp : (!true || !rW (.lst ((nU F l).map fM)) (.lst ((nU F l).map fM))) = true := hp
   rw [fV dA] at hp
   cases hp
 refine ja E.g E.Ae (fun i δ => ∃ (o8 : Option T), δ = [some (.sh (g7 Oh (hs.map .str) Oi Oj (cg Q.s))), some (.sh (.lst ((cN F).map .int))), some Q.z, some (.sh (.int (c : Nat))), some (.sh (.str x)), some (.sh (.lst ((nU F l).map fM))), some (.lst (((nU F l).map fM).map T.sh)), o7, o8]) (gu (v_ E.fN.1)) ⟨_, rfl⟩ (fun j δ ⟨_, e⟩ => by subst e; exact ahS rfl) ?aaU ?ad7
 case ad7 =>
   rintro δ ⟨o8, rfl⟩
   exact aE ⟨_, _, _, _, _, rfl⟩
 case aaU =>
   rintro i d δ hi ⟨o8, rfl⟩
   rw [ahU] at hi
   obtain ⟨r, hr, rfl⟩ := aib.mp hi
   exact jQ (yO (pB (kg (jT (isT E.c9 E.bV E.c7 E.cF (aS E.Ae) rfl))) (fun _ => pB (kg (jT (isT E.c9 E.bV E.c7 E.cF (gJ (aS E.Ae) (ah aj) (aO (j := 1) rfl)) rfl))) (fun _ => pP (kg (jT (c_ ((r.2.2 : Nat) : Int) E.Rt E.Af (ai (gJ (aS E.Ae) (ah aj) (aO (j := 2) rfl)) aD) trivial rfl))))))) (fun hp => by cases hp) (fun _ => aE (aE ⟨_, rfl⟩))
theorem eL : mw (au Ac) ([("table", av), ("found", av), ("parts", av), ("number", av), ("sign", av), ("steps", av), ("due", av), ("row", av), ("step", av), ("range", az), ("max", az), ("tuple", az), ("_law_told", az), ("isinstance", az), ("list", az), ("_law_whole", az), ("len", az)]) = true := Q.i
theorem Ru : aQ ["table", "found", "parts", "number", "sign", "steps", "due", "row", "step"] ["table", "found", "parts"] (au Ac) := bD
abbrev uR : Stmt := top 33
abbrev uS : Type := (List (Str × Int)) × List Str × List It × List L3.D × Q.n
def oQ : uS -> List L3.D := fun (bs, hs, bg, pr, R) => [Yp bs hs bg pr R, .lst ((cN (eV R hs pr.length)).map .int), g7 (bs.map bJ) (hs.map .str) ((bg.filter It.told).map It.d) (jZ pr (eV R hs pr.length)) (cg (eW R hs (eV R hs pr.length) (cn (eV R hs pr.length) * hs.length)))]
def oR : uS -> Prop := fun (bs, hs, bg, pr, R) => zx bs hs bg pr R /\ hs.Nodup /\ bg.length <= 1000
def oS : uS -> T := fun (bs, hs, bg, pr, R) => (.sh (.bl true) : T)
structure Rw (X : Cx) (CL : Q.d) : Prop extends cV X where
 aP : Ln X 0 "parts"
 Ag : X.env.kindOf "parts" = some .cell
 aT : Ln X 1 "found"
 lM : X.env.kindOf "found" = some .cell
 dg : Ln X 2 "least"
 c7 : Gl X "isinstance"
 q8 : Gl X "Table"
 cF : Gl X "tuple"
 nB : Gl X "_law_told"
 bT : Gl X "range"
 pG : Gl X "max"
 BW : Gl X "_law_rows"
 c9 : X.mg "isinstance" = none
 uM : Fm X CL "Table" 1 6 gS gT gU
 bV : X.mg "tuple" = none
 sH : Fc X CL "_law_told" 1 1 iU iV iW
 bU : X.mg "range" = none
 pH : X.mg "max" = none
 Xb : Fc X CL "_law_rows" 2 3 rC rD rE
 aL : tK X.K (CL "Table")
 b4 : aZ X.K (CL "Table") "flats"
 cG : aZ X.K (CL "Table") "boxes"
 bE : aZ X.K (CL "Table") "signs"
 dD : aZ X.K (CL "Table") "begin"
 ia : CW X.K (CL "Table")
 nE : PySem.W.kitOne X.K (.ref (CL "Table")) (.ref (CL "Table")) = some true
 MG : X.mg "Table" = some (.ref (CL "Table"))
theorem Rx {b : Bx} (E : Rw X CL) {cS : uS} (h : oR cS) :
   aH X CL b uR ["parts", "found", "least"] (oQ cS) (oS cS) := by
 obtain ⟨bs, hs, bg, pr, R⟩ := cS
 dsimp only [aH, oR, oQ, oS] at h ⊢
 obtain ⟨h, nd, gl⟩ := h
 have ht := h.t
 obtain ⟨F, hF⟩ : ∃ F, F = eV R hs pr.length := ⟨_, rfl⟩
 have hl : F.length = pr.length := by rw [hF]; exact iB _
 have hN : bZ F = F := by rw [hF]; exact ji _
 have hf := ht.f
 have Ke : F ≠ [] := fun z => by rw [z] at hl; have : 0 = pr.length := hl; omega
 have hFm : mC F + 1 = cn F := by
   have := zu Ke
   rw [hN] at this
   exact this
 obtain ⟨m1, m2⟩ := Wj Ke
 have OS : cn F <= pr.length := by
   have := x9 (n := pr.length) F Q.a
   rw [hN] at this
   exact this
 show dh X CL b _ [some Q.z, some (.sh (.lst ((cN (eV R hs pr.length)).map .int))), some (.sh (g7 (bs.map bJ) (hs.map .str) ((bg.filter It.told).map It.d) (jZ pr (eV R hs pr.length)) (cg (eW R hs (eV R hs pr.length) (cn (eV R hs pr.length) * hs.length)))))] _
 rw [← hF]
 refine jQ (yO (pB (kg (jT (VX E.aL E.ia E.c9 E.c7 (ai (aS E.dg) (ai (ah (VW (v := .ref (CL "Table")) E.q8 E.MG rfl)) aD)) rfl E.nE))) (fun _ => pB (mO E.u (gw E.aL E.cG (aS E.dg) mZ) (cu (aS E.aP) (ah aj) (aO (j := 0) rfl)) h.d0 h.d0).1 (fun _ => pP (mO E.u (gw E.aL E.bE (aS E.dg) gF) (cu (aS E.aP) (ah aj) (aO (j := 1) rfl)) h.d1 h.d1).1)))) (fun hp => ?no1) (fun _ => aE ?_)
 case no1 =>
   exfalso
   have hp : (!true || (!rW (.lst (bs.map bJ)) (.lst (bs.map bJ)) || !rW (.lst (hs.map .str)) (.lst (hs.map .str)))) = true := hp
   rw [fV h.d0, fV h.d1] at hp
   cases hp
 have dG : jv 60 (.tup ((bg.filter It.told).map It.d)) := .tup fun d hd => by
   obtain ⟨x, hx, rfl⟩ := ahY.mp hd
   exact Dd (h.g x (ajr.mp hx).1) Q.c
 refine jQ (yO (pB (kg (jT (isT E.c9 E.bV E.c7 E.cF (gw E.aL E.dD (aS E.dg) jW) rfl))) (fun _ => pP (mO E.u (d1 := .tup ((bg.filter It.told).map It.d)) (d2 := .tup ((bg.filter It.told).map It.d)) (gw E.aL E.dD (aS E.dg) jW) (ah (dF E.bV (cD (aC (c_ bg E.sH E.nB (ai (cu (aS E.aP) (ah aj) (aO (j := 2) rfl)) aD) gl (bB (bR _))) (t2 := .lst (((bg.filter It.told).map It.d).map T.sh)) rfl)) (bR _) E.cF)) dG dG).1))) (fun hp => ?no2) (fun _ => aE ?_)
 case no2 =>
   exfalso
   have hp : (!true || !rW (.tup ((bg.filter It.told).map It.d)) (.tup ((bg.filter It.told).map It.d))) = true := hp
   rw [fV dG] at hp
   cases hp
 have dP : jv 60 (.lst (jZ pr F)) := .lst fun d hd => by
   obtain ⟨c, hc, rfl⟩ := ahY.mp hd
   have hm : pr.getD (F.idxOf c) .non ∈ pr := m5 (by have := (kh hN (aiu.mp hc)).1; omega)
   exact Dd (h.p _ hm) Q.c
 refine jQ (mO E.u (d1 := .lst (jZ pr F)) (d2 := .lst (jZ pr F)) (gw E.aL E.b4 (aS E.dg) jX) (cD (aC (jg (p := fun _ => true) (g := fun d => T.sh (pr.getD (F.idxOf d.rO.toNat) .non)) (bO (.cons E.aT.1 (.inl E.lM) (.cons E.aP.1 (.inl E.Ag) .nil)) Q.b) E.g.calm (cK E.bU (ah (aC (bH (ah (ua E.g E.pH (aS E.aT) m1 m2 E.pG)) (ah aj)) (t2 := .sh (.int (cn F : Nat))) (by rw [← hFm]; rfl))) Q.a E.bT) (.inr rfl) (fun C s0 H0 f0 b' d hd => ?wM) (by simp [b9, aic]; omega)) (t2 := .lst ((jZ pr F).map T.sh)) ?eq)) dP dP).1 (fun hp => absurd hp (aat dP)) (fun _ => aE ?_)
 case wM =>
   obtain ⟨c, hc, rfl⟩ := fZ hd
   have hc : c < cn F := by omega
   obtain ⟨f1, f2⟩ := kh hN hc
   have hcm : c ∈ F := by rw [← f2]; exact m5 f1
   obtain ⟨j1, j2⟩ := vQ hcm
   refine ⟨rfl, fun _ => aC (ic (ic (v_ (cz (i := 2) rfl Q.b)) (ah aj) (aO (j := 3) rfl)) (ah (vp (j := F.idxOf c) (ah (v_ (cz (i := 1) rfl Q.b))) Q.u j1 j2)) (aO (j := F.idxOf c) (v := pr.getD (F.idxOf c) .non) (by rw [ahV, ahN Q.a]; rfl))) rfl⟩
 case eq =>
   rw [gG (f := fun (c : Nat) => pr.getD (F.idxOf c) .non) _ (fun c => by show T.sh (pr.getD (F.idxOf (0 + (c : Int)).toNat) .non) = _; rw [aiK, aij]), aij]
   rfl
 exact cj (aC (c_ (bs.map bJ, (bg.filter It.told).map It.d, jZ pr F, bs, hs, bg, pr, R, F) E.Xb E.BW (ai (aS E.dg) (ai (aS E.aT) (ai (aS E.aP) aD))) ⟨ht, nd, hN, hl⟩ rfl) (t2 := .sh (.bl true)) rfl) rfl
theorem e7 : mw (au uR) ([("parts", .cell), ("found", .cell), ("least", av), ("isinstance", az), ("Table", az), ("tuple", az), ("_law_told", az), ("range", az), ("max", az), ("_law_rows", az)]) = true := Q.i
theorem MH : aQ ["parts", "found", "least"] ["parts", "found", "least"] (au uR) := bD
abbrev rG : Stmt := top 34
abbrev rH : Type := Addr × Addr × (List (Str × Int)) × List Str × List It × L3.D × List L3.D × Q.n × List L3.D × List L3.D × List L3.D × List L3.D × (List (bz × List L3.D))
def jN : rH -> List T := fun (y, z, bs, hs, bg, p0, pr, R, lb, ls, lg, lp, kvs) => [.pin y (BG bs hs bg pr R), .pin z (.ins "Table" (fG lb ls lg lp kvs))]
def iy : rH -> List T := fun (y, z, bs, hs, bg, p0, pr, R, lb, ls, lg, lp, kvs) => [.pin y (BG bs hs bg pr R), .pin z (.ins "Table" (fG (lb ++ [.tup [.str "more0", .int 1]]) (ls ++ [.str "more0"]) lg (lp ++ [p0]) (kvs.map Dh)))]
def jO : rH -> Prop := fun (y, z, bs, hs, bg, p0, pr, R, lb, ls, lg, lp, kvs) => pr[0]? = some p0 /\ p0.iY = true /\ lb.length <= 1000 /\ ls.length <= 1000 /\ lp.length <= 1000 /\ kvs.length <= 1000 /\ (kvs.map (·.1)).Nodup /\ ∀ q ∈ kvs, q.2.length <= 1000
def jP : rH -> T := fun (y, z, bs, hs, bg, p0, pr, R, lb, ls, lg, lp, kvs) => (.sh .non : T)
structure MJ (X : Cx) (CL : Q.d) : Prop extends cV X where
 aP : Ln X 0 "parts"
 dg : Ln X 1 "least"
 MK : Ln X 2 "spot"
 gA : Gl X "list"
 gB : X.mg "list" = none
 aL : tK X.K (CL "Table")
 aX : aZ X.K (CL "Table") "rows"
 b4 : aZ X.K (CL "Table") "flats"
 bE : aZ X.K (CL "Table") "signs"
 cG : aZ X.K (CL "Table") "boxes"
theorem ML {b : Bx} (E : MJ X CL) (y z bs hs bg p0 pr R lb ls lg lp kvs) (h : jO (y, z, bs, hs, bg, p0, pr, R, lb, ls, lg, lp, kvs)) :
   dh X CL b (fq rG) (yU ["parts", "least", "spot"] (jN (y, z, bs, hs, bg, p0, pr, R, lb, ls, lg, lp, kvs))) { nx := fun δ => jP (y, z, bs, hs, bg, p0, pr, R, lb, ls, lg, lp, kvs) = .sh .non /\ Keeps δ (iy (y, z, bs, hs, bg, p0, pr, R, lb, ls, lg, lp, kvs)), rt := fun wZ δ => wZ = jP (y, z, bs, hs, bg, p0, pr, R, lb, ls, lg, lp, kvs) /\ Keeps δ (iy (y, z, bs, hs, bg, p0, pr, R, lb, ls, lg, lp, kvs)) } := by
 dsimp only [jO, jN, jP, iy] at h ⊢
 obtain ⟨h00, h0, h1, h2, h3, h4, h5, h6⟩ := h
 show dh X CL b _ [some (.pin y (.lst [.lst ((bs.map bJ).map T.sh), .lst ((hs.map .str).map T.sh), .sh (.tup (bg.map It.d)), .lst (pr.map T.sh), .dct (aJ (cg R))])), some (.pin z (.ins "Table" (dI lb ls lg lp (.dct (aJ kvs))))), none] _
 refine vv (p := [.fld "flats"]) (pS E.aL E.b4 (f9 E.dg.1 rfl) rfl rfl lC) rfl (sy lC) (jA (cu (ds := pr) (qF (p := [.ix 3]) (u := .lst (pr.map T.sh)) (vt (j := 3) (f9 E.aP.1 rfl) rfl rfl (ah aj) rfl) rfl rfl (fK _)) (ah aj) (aO (j := 0) h00)) h0) rfl (sy lC) (by rw [ahK]; omega) ?_
 show dh X CL b _ [_, some (T.g6 [.fld "flats"] (.lst (lp.map T.sh ++ [.sh p0])) (.pin z (.ins "Table" (dI lb ls lg lp (.dct (aJ kvs)))))), none] _
 rw [Di lC, HC]
 refine vv (p := [.fld "signs"]) (pS E.aL E.bE (f9 E.dg.1 rfl) rfl rfl lB) rfl (sy lB) cJ rfl (sy lB) (by rw [ahK]; omega) ?_
 show dh X CL b _ [_, some (T.g6 [.fld "signs"] (.lst (ls.map T.sh ++ [.sh (.str "more0")])) (.pin z (.ins "Table" (dI lb ls lg (lp ++ [p0]) (.dct (aJ kvs)))))), none] _
 rw [Di lB, HB]
 refine vv (p := [.fld "boxes"]) (pS E.aL E.cG (f9 E.dg.1 rfl) rfl rfl lA) rfl (sy lA) (aC (aF (ds := [.str "more0", .int 1]) (ak cJ (ak aj aK)) (aq rfl)) (t2 := .sh (.tup [.str "more0", .int 1])) rfl) rfl (sy lA) (by rw [ahK]; omega) ?_
 show dh X CL b _ [_, some (T.g6 [.fld "boxes"] (.lst (lb.map T.sh ++ [.sh (.tup [.str "more0", .int 1])])) (.pin z (.ins "Table" (dI lb (ls ++ [.str "more0"]) lg (lp ++ [p0]) (.dct (aJ kvs)))))), none] _
 rw [Di lA, Hz]
 generalize lb ++ [L3.D.tup [.str "more0", .int 1]] = lb2
 generalize ls ++ [L3.D.str "more0"] = ls2
 generalize lp ++ [p0] = lp2
 refine ja E.g E.MK (fun j δ => ∃ (o : Option T), δ = [some (.pin y (.lst [.lst ((bs.map bJ).map T.sh), .lst ((hs.map .str).map T.sh), .sh (.tup (bg.map It.d)), .lst (pr.map T.sh), .dct (aJ (cg R))])), some (.pin z (.ins "Table" (dI lb2 ls2 lg lp2 (.dct (aJ ((kvs.take j).map Dh ++ kvs.drop j)))))), o]) (gu (EF (aC (G4 (kvs := cR kvs) E.g E.gB (qF (p := [.fld "rows"]) (u := .dct (aJ kvs)) (d := .dct (cR kvs)) (pS E.aL E.aX (f9 E.dg.1 rfl) rfl rfl fL) rfl Dj (by rw [T.bM, jw])) E.gA) (t2 := .lst (((kvs.map fun q => mV q.1)).map T.sh)) ?lk))) ⟨_, by rw [List.take_zero, ajz, ajf, List.drop_zero]⟩ (fun j δ ⟨_, e⟩ => by subst e; exact ahS rfl) ?turn ?fin
 case lk =>
   unfold cR
   simp only [aia]
   rfl
 case turn =>
   rintro j d δ hj ⟨o, rfl⟩
   rw [ahU] at hj
   obtain ⟨q, hq, rfl⟩ := aib.mp hj
   have CP : j < kvs.length := (ahW.mp hq).1
   have hd : kvs.drop j = q :: kvs.drop (j + 1) := by
     rw [List.drop_eq_getElem_cons CP]
     congr 1
     have := (ahW.mp hq).2
     exact this
   have hnk : q.1 ∉ (aJ ((kvs.take j).map Dh)).map (·.1) := fun hm => by
     rw [iu, aia] at hm
     obtain ⟨p, hp, e⟩ := ahY.mp hm
     have e : p.1 = q.1 := e
     obtain ⟨i, hi⟩ := ai1.mp hp
     have Ko := (ahW.mp hi).1
     rw [ail] at Ko
     rw [List.getElem?_take_of_lt Q.a] at hi
     have := (akp (l := kvs.map (·.1)) (i := i) (j := j) (by rw [ahK]; omega) h5).mp (by rw [ahU, ahU, hi, hq]; exact congrArg some e)
     omega
   have es : aJ ((kvs.take j).map Dh ++ kvs.drop j) = aJ ((kvs.take j).map Dh) ++ (q.1, T.lst (q.2.map T.sh)) :: aJ (kvs.drop (j + 1)) := by
     rw [hd]
     unfold aJ
     rw [ah2]
     rfl
   have es2 : aJ ((kvs.take (j + 1)).map Dh ++ kvs.drop (j + 1)) = aJ ((kvs.take j).map Dh) ++ (q.1, T.lst (q.2.map T.sh ++ [.sh rw0])) :: aJ (kvs.drop (j + 1)) := by
     rw [aiO, hq, ah2, ahQ]
     unfold aJ
     rw [ah2]
     show _ ++ ((q.1, T.lst ((q.2 ++ [rw0]).map T.sh)) :: _) = _
     rw [ah2]
     rfl
   rw [es]
   have hv := Fx (x := T.lst (q.2.map T.sh)) (l2 := aJ (kvs.drop (j + 1))) hnk
   refine vv (p := [.fld "rows", .key q.1]) (KQ q.1 E.u (pS E.aL E.aX (f9 E.dg.1 rfl) rfl rfl fL) rfl Dj (aS E.MK) hv) rfl (uw hv) (aC (aF (ds := [.tup [], .tup [], .int 0]) (ak (aF (ds := []) aK (aq rfl)) (ak (aF (ds := []) aK (aq rfl)) (ak aj aK))) (aq rfl)) (t2 := .sh rw0) rfl) rfl (uw hv) (by rw [ahK]; have := h6 q (ah3 hq); omega) (aE ⟨some (.sh (mV q.1)), ?_⟩)
   show [_, some (T.g6 [.fld "rows", .key q.1] (.lst (q.2.map T.sh ++ [.sh rw0])) (.pin z (.ins "Table" (dI lb2 ls2 lg lp2 (.dct (aJ ((kvs.take j).map Dh) ++ (q.1, T.lst (q.2.map T.sh)) :: aJ (kvs.drop (j + 1)))))))), _] = _
   rw [Fz hv, Fy hnk, es2]
 case fin =>
   rintro δ ⟨o, rfl⟩
   rw [ahK, ai7, List.drop_length, aip]
   exact aE ⟨rfl, QO⟩
theorem oU : mw (au rG) ([("parts", av), ("least", av), ("spot", av), ("list", az)]) = true := Q.i
theorem yf : aQ ["parts", "least", "spot"] ["parts", "least"] (au rG) := bD
abbrev rJ : Stmt := top 30
abbrev rK : Type := (List (Str × Int)) × List Str × List It × List L3.D × Q.n
def lQ : rK -> List L3.D := fun (bs, hs, bg, pr, R) => [g7 (bs.map bJ) (hs.map .str) (bg.map It.d) pr (cg R), Yp bs hs bg pr R]
def lR : rK -> Prop := fun (bs, hs, bg, pr, R) => zx bs hs bg pr R
def lS : rK -> T := fun (bs, hs, bg, pr, R) => (.sh (.bl true) : T)
structure MN (X : Cx) (CL : Q.d) : Prop extends cV X where
 aR : Ln X 0 "table"
 aP : Ln X 1 "parts"
 aL : tK X.K (CL "Table")
 cG : aZ X.K (CL "Table") "boxes"
 bE : aZ X.K (CL "Table") "signs"
 dD : aZ X.K (CL "Table") "begin"
 b4 : aZ X.K (CL "Table") "flats"
 aX : aZ X.K (CL "Table") "rows"
theorem MP {b : Bx} (E : MN X CL) {cS : rK} (h : lR cS) :
   aH X CL b rJ ["table", "parts"] (lQ cS) (lS cS) := by
 obtain ⟨bs, hs, bg, pr, R⟩ := cS
 dsimp only [aH, lR, lQ, lS] at h ⊢
 have h : zx bs hs bg pr R := h
 show dh X CL b _ [some (.sh (g7 (bs.map bJ) (hs.map .str) (bg.map It.d) pr (cg R))), some Q.z] _
 refine jQ (yO (pB (mO E.u (gw E.aL E.cG (aS E.aR) mZ) (cu (aS E.aP) (ah aj) (aO (j := 0) rfl)) h.d0 h.d0).1 (fun _ => pB (mO E.u (gw E.aL E.bE (aS E.aR) gF) (cu (aS E.aP) (ah aj) (aO (j := 1) rfl)) h.d1 h.d1).1 (fun _ => pP (mO E.u (gw E.aL E.dD (aS E.aR) jW) (cu (aS E.aP) (ah aj) (aO (j := 2) rfl)) h.d2 h.d2).1)))) (fun hp => absurd hp (aas h.d0 h.d1 h.d2)) (fun _ => aE ?_)
 exact cj (aC (JM (JY E.u (gw E.aL E.b4 (aS E.aR) jX) (cu (aS E.aP) (ah aj) (aO (j := 3) rfl)) h.d3 h.d3).2 (fun _ => JL (P9 E.u (gw E.aL E.aX (aS E.aR) ig) (cu (aS E.aP) (ah aj) (aO (j := 4) rfl)) h.d4).2)) (t2 := .sh (.bl true)) (by rw [fV h.d3]; rfl)) rfl
theorem yg : mw (au rJ) ([("table", av), ("parts", av)]) = true := Q.i
theorem HV : aQ ["table", "parts"] ["table", "parts"] (au rJ) := bD
abbrev lT : Stmt := top 35
abbrev lU : Type := Addr × Addr × List Int × (List (Str × Int)) × List Str × List It × List L3.D × Q.n × Nat
def gV : lU -> List T := fun (y, z, s, bs, hs, bg, pr, R, fu) => [.sh (.lst (s.map .int)), .pin y (BG bs hs bg pr R), .pin z (.ins "Table" (fG (bs.map bJ) (hs.map .str) (bg.map It.d) pr (cg R)))]
def fO : lU -> List T := fun (y, z, s, bs, hs, bg, pr, R, fu) => [.sh (.lst (s.map .int)), .pin y (BG bs hs bg pr (sA R hs fu)), .pin z (.ins "Table" (fG (bs.map bJ) (hs.map .str) (bg.map It.d) pr (cg (sA R hs fu))))]
def jo : lU -> Prop := fun (y, z, s, bs, hs, bg, pr, R, fu) => tS R hs pr.length /\ (fu : Int) = bf s 1 % (pr.length : Int) /\ fu < pr.length /\ ∀ q ∈ R, q.2.length <= 5
def gW : lU -> T := fun (y, z, s, bs, hs, bg, pr, R, fu) => (.sh .non : T)
structure Dy (X : Cx) (CL : Q.d) : Prop extends cV X where
 aN : Ln X 0 "script"
 aP : Ln X 1 "parts"
 aR : Ln X 2 "table"
 sE : Ln X 3 "at"
 fH : Ln X 4 "sign"
 aM : Gl X "_law_cell_at"
 cX : Gl X "len"
 bK : Fc X CL "_law_cell_at" 1 2 dw dz dB
 cY : X.mg "len" = none
 aL : tK X.K (CL "Table")
 aX : aZ X.K (CL "Table") "rows"
theorem Dz {b : Bx} (E : Dy X CL) (y z s bs hs bg pr R fu) (h : jo (y, z, s, bs, hs, bg, pr, R, fu)) :
   dh X CL b (fq lT) (yU ["script", "parts", "table", "at", "sign"] (gV (y, z, s, bs, hs, bg, pr, R, fu))) { nx := fun δ => gW (y, z, s, bs, hs, bg, pr, R, fu) = .sh .non /\ Keeps δ (fO (y, z, s, bs, hs, bg, pr, R, fu)), rt := fun wZ δ => wZ = gW (y, z, s, bs, hs, bg, pr, R, fu) /\ Keeps δ (fO (y, z, s, bs, hs, bg, pr, R, fu)) } := by
 dsimp only [jo, gV, gW, fO] at h ⊢
 obtain ⟨tb, w4, w1, h5⟩ := h
 have z1 : (0 : Int) <= 1 := by decide
 have hp0 : 0 < pr.length := by omega
 show dh X CL b _ [some (.sh (.lst (s.map .int))), some (.pin y (.lst [.lst ((bs.map bJ).map T.sh), .lst ((hs.map .str).map T.sh), .sh (.tup (bg.map It.d)), .lst (pr.map T.sh), .dct (aJ (cg R))])), some (.pin z (.ins "Table" (dI (bs.map bJ) (hs.map .str) (bg.map It.d) pr (.dct (aJ (cg R)))))), none, none] _
 refine bw E.g E.sE (aC (bF (ah (c_ ((s, 1)) E.bK E.aM (ai (aS E.aN) (ai (ah aj) aD)) (z1) rfl)) (ah (dQ rfl E.cY (qF (p := [.ix 3]) (u := .lst (pr.map T.sh)) (vt (j := 3) (f9 E.aP.1 rfl) rfl rfl (ah aj) rfl) rfl rfl (fK _)) E.cX)) Q.a) (t2 := .sh (.int (fu : Nat))) (by rw [w4])) ?_
 have ad8 : cutD (hs.map L3.D.str) none (some 1) = (hs.take 1).map .str := by rw [pX (z := 1) (k := 1) rfl, ajG]
 refine ja E.g E.fH (fun j δ => ∃ (o : Option T) (R2 : Q.n), (j = 0 -> R2 = R) /\ (j = (hs.take 1).length -> R2 = sA R hs fu) /\ δ = [some (.sh (.lst (s.map .int))), some (.pin y (.lst [.lst ((bs.map bJ).map T.sh), .lst ((hs.map .str).map T.sh), .sh (.tup (bg.map It.d)), .lst (pr.map T.sh), .dct (aJ (cg R2))])), some (.pin z (.ins "Table" (dI (bs.map bJ) (hs.map .str) (bg.map It.d) pr (.dct (aJ (cg R2)))))), some (.sh (.int (fu : Nat))), o]) (gu (EF (aC (mP (ds := hs.map .str) (qF (p := [.ix 1]) (u := .lst ((hs.map .str).map T.sh)) (vt (j := 1) (f9 E.aP.1 rfl) rfl rfl (ah aj) rfl) rfl rfl (fK _)) (cL _) jU (jV (ah aj))) (t2 := .lst (((hs.take 1).map .str).map T.sh)) (by rw [ad8])))) ⟨_, R, fun _ => rfl, (fun e => by
   cases hs with
   | nil => rfl
   | cons x hs => cases e), rfl⟩ (fun j δ ⟨_, _, _, _, e⟩ => by subst e; exact ahS rfl) ?turn ?fin
 case turn =>
   rintro j d δ hj ⟨o, R2, hR1, hR2, rfl⟩
   rw [ahU] at hj
   obtain ⟨x, hx, rfl⟩ := aib.mp hj
   have Og : x ∈ hs := ajb (ah3 hx)
   have hj0 : j = 0 := by
     have := (ahW.mp hx).1
     rw [ail] at this
     omega
   obtain rfl := hR1 hj0
   obtain ⟨q1, q2, q3⟩ := tb.row w1 Og
   obtain ⟨r, hr⟩ : ∃ r : R7, r = ([], [It.fS (.say "more0" (-1) 5)], fu) := ⟨_, rfl⟩
   have ir : (fM r).iY = true := by rw [hr]; rfl
   have hl5 : (iM R2 fu x).length <= 5 := h5 _ (uq q1)
   have hvT := BJ q1
   have hvD := nS q1
   have er : (((iM R2 fu x) ++ [r]).map fM).map T.sh = ((iM R2 fu x).map fM).map T.sh ++ [T.sh (fM r)] := by rw [ah2, ah2]; rfl
   have aea : sA R2 hs fu = i6 (mq fu x) (iM R2 fu x ++ [r]) R2 := by
     rw [hr]
     cases hs with
     | nil => cases Og
     | cons a l =>
       rw [hj0] at hx
       have : a = x := by simpa using hx
       rw [← this]
       rfl
   refine vv (p := [.fld "rows", .key (mq fu x)]) (KQ (mq fu x) E.u (pS E.aL E.aX (f9 E.aR.1 rfl) rfl rfl fL) rfl Dj (pF (ah (aF (ds := [.int (fu : Nat), .str x]) (ak (v_ E.sE.1) (ak (v_ E.fH.1) aK)) (aq rfl))) rfl) hvT) rfl (uw hvT) (aC (aF (ds := [.tup [], .tup [(It.fS (.say "more0" (-1) 5)).d], .int (fu : Nat)]) (ak (aF (ds := []) aK (aq rfl)) (ak (aC (aF (ak (aF (ak cJ (ak cJ (ak (aF (ak (iZ (ah aj)) (ak aj aK)) (aq rfl)) aK))) (aq rfl)) aK) (aq rfl)) rfl) (ak (v_ E.sE.1) aK))) (aq rfl)) (t2 := .sh (fM r)) (by rw [hr]; rfl)) rfl (uw hvT) (by rw [ahK, ahK]; omega) ?_
   refine KN (u := .lst (((iM R2 fu x).map fM).map T.sh)) (kvs := aJ (cg R2)) (mq fu x) E.u (aC (t7 (ds := (iM R2 fu x).map fM) (pD := [fM r]) (KL (mq fu x) E.u (qF (p := [.ix 4]) (u := .dct (aJ (cg R2))) (d := .dct (cR (cg R2))) (vt (j := 4) (f9 E.aP.1 rfl) rfl rfl (ah aj) rfl) rfl rfl (by rw [T.bM, jw])) (pF (ah (aF (ds := [.int (fu : Nat), .str x]) (ak (v_ E.sE.1) (ak (v_ E.fH.1) aK)) (aq rfl))) rfl) hvD) (cD (jf (ds := [fM r]) (ak (aC (aF (ds := [.tup [], .tup [(It.fS (.say "more0" (-1) 5)).d], .int (fu : Nat)]) (ak (aF (ds := []) aK (aq rfl)) (ak (aC (aF (ak (aF (ak cJ (ak cJ (ak (aF (ak (iZ (ah aj)) (ak aj aK)) (aq rfl)) aK))) (aq rfl)) aK) (aq rfl)) rfl) (ak (v_ E.sE.1) aK))) (aq rfl)) (t2 := .sh (fM r)) (by rw [hr]; rfl)) aK) (aq rfl))) (qL fun y hy => zv (q3 y hy).b) (qL (f := fM) (l := [r]) fun y hy => by rw [aiw.mp hy]; exact ir) (by rw [ahK, aic]; show _ + 1 <= _; omega)) (t2 := .lst ((((iM R2 fu x) ++ [r]).map fM).map T.sh)) (by rw [er, ah2]; rfl)) (vt (j := 4) (f9 E.aP.1 rfl) rfl rfl (ah aj) rfl) (pF (ah (aF (ds := [.int (fu : Nat), .str x]) (ak (v_ E.sE.1) (ak (v_ E.fH.1) aK)) (aq rfl))) rfl) rfl rfl hvT (by rw [iu, kN]; exact tb.c) (aE ⟨some (.sh (.str x)), sA R2 hs fu, (fun z => by omega), fun _ => rfl, ?_⟩)
   show [_, some (T.g6 [.ix 4] (.dct ((aJ (cg R2)).map fun kv => if kv.1 = mq fu x then (kv.1, T.lst ((((iM R2 fu x) ++ [r]).map fM).map T.sh)) else kv)) (.pin y (.lst [.lst ((bs.map bJ).map T.sh), .lst ((hs.map .str).map T.sh), .sh (.tup (bg.map It.d)), .lst (pr.map T.sh), .dct (aJ (cg R2))]))), some (T.g6 [.fld "rows", .key (mq fu x)] (.lst (((iM R2 fu x).map fM).map T.sh ++ [T.sh (fM r)])) (.pin z (.ins "Table" (dI (bs.map bJ) (hs.map .str) (bg.map It.d) pr (.dct (aJ (cg R2))))))), _, _] = _
   rw [Fz hvT, BI R2 tb.c, ← er, yb, aea]
   rfl
 case fin =>
   rintro δ ⟨o, R2, hR1, hR2, rfl⟩
   rw [ahK] at hR2
   rw [hR2 rfl]
   exact aE ⟨rfl, V2⟩
theorem fJ : mw (au lT) ([("script", av), ("parts", av), ("table", av), ("at", av), ("sign", av), ("_law_cell_at", az), ("len", az)]) = true := Q.i
theorem tF : aQ ["script", "parts", "table", "at", "sign"] ["script", "parts", "table"] (au lT) := bD
abbrev FN : Stmt := top 36
abbrev MQ : Type := List Int
def oV : MQ -> List L3.D := fun a => [.lst (a.map .int)]
def oW : MQ -> Prop := fun a => a.length <= 63
def oX : MQ -> T := fun a => (.sh (.bl true) : T)
structure aaW (X : Cx) (CL : Q.d) : Prop extends cV X where
 aN : Ln X 0 "script"
 aP : Ln X 1 "parts"
 aR : Ln X 2 "table"
 aT : Ln X 3 "found"
 dg : Ln X 4 "least"
 Ah : Ln X 5 "again"
 Ai : Gl X "_law_parts"
 Aj : Gl X "_law_table"
 jx : Gl X "classes"
 nF : Gl X "merged"
 jq : Gl X "_law_right"
 pJ : Gl X "_law_longer"
 xo : Gl X "_law_stayed"
 tT : Gl X "_law_row_more"
 Ry : Fc X CL "_law_parts" 6 3 oj om oq
 Rz : Fc X CL "_law_table" 3 1 oz oA oB
 oJ : Fc X CL "classes" 4 1 iQ iR iS
 v9 : Fc X CL "merged" 5 1 lO lP jM
 uT : Fc X CL "_law_right" 3 3 oQ oR oS
 BX : FcM X CL "_law_longer" 1 2 jN jO jP iy
 MR : Fc X CL "_law_stayed" 1 2 lQ lR lS
 DB : FcM X CL "_law_row_more" 2 3 gV jo gW fO
theorem aaX {b : Bx} (E : aaW X CL) {a} (h : oW a) :
   aH X CL b FN ["script", "parts", "table", "found", "least", "again"] (oV a) (oX a) := by
 dsimp only [aH, oW, oV, oX] at h ⊢
 have hs : a.length <= 1000 := by omega
 have Ak := Wr a (q := 40) Q.c false
 have hn := Fw a 40
 have hnb := aaw a (q := 40) Q.c
 have hsg := zm a
 have nd := C9 a
 have Yl := Fb a
 have gl : (TQ a).length <= 1000 := by show 3 <= 1000; decide
 refine bw E.g E.aP (aC (c_ (a, 40, false) E.Ry E.Ai (ai (aS E.aN) (ai (ah aj) (ai (ah SY) aD))) ⟨hs, by decide⟩ (Hu Ak)) (t2 := BG (vG a) (jh a) (TQ a) (TN a 40) (Hr a 40 false)) rfl) ?_
 have h5 := aax a 40 false
 generalize Hr a 40 false = R at Ak h5 ⊢
 generalize vG a = bs at Ak Yl ⊢
 generalize TQ a = bg at Ak gl ⊢
 generalize jh a = cO at Ak hsg nd ⊢
 generalize TN a 40 = pr at Ak hn ⊢
 generalize n7 a 40 = n at hn hnb
 have tb := Ak.t
 have ib : D.bq (bs.map bJ) = true := iL (fun _ => rfl) _
 have hbs : (bs.map bJ).length <= 999 := by rw [ahK, Yl]; omega
 refine bw E.g E.aR (aC (c_ (bs, cO, bg, pr, R) E.Rz E.Aj (ai (vE E.aP.1 rfl (nQ ..)) aD) ⟨Ak.i, tb.c, tb.d, fun q hq r hr => ((tb.b q hq).2 r hr).b⟩ (Hv Ak)) (t2 := .ins "Table" (fG (bs.map bJ) (cO.map .str) (bg.map It.d) pr (cg R))) rfl) ?_
 obtain ⟨F, hF⟩ : ∃ F, F = eV R cO pr.length := ⟨_, rfl⟩
 have hl : F.length = pr.length := by rw [hF]; exact iB _
 have hN : bZ F = F := by rw [hF]; exact ji _
 have tl := tb.least nd hN hl
 refine bw E.g E.aT (aC (c_ (bs.map bJ, bg.map It.d, pr, cO, R) E.oJ E.jx (ai (vE E.aR.1 rfl (fY ..)) aD) tb (bB (jY _))) (t2 := .lst (((cN (eV R cO pr.length)).map .int).map T.sh)) rfl) ?_
 have lim := uv Ak.i F
 have lpl : (jZ pr F).length = cn F := by unfold jZ; rw [ahK, ah4]
 have tl2 : tS (eW R cO F (cn F * cO.length)) cO (jZ pr F).length := by rw [lpl]; exact tl
 have lcl : (T.ins "Table" (fG (bs.map bJ) (cO.map .str) ((bg.filter It.told).map It.d) (jZ pr F) (cg (eW R cO F (cn F * cO.length))))).clean = true := by
   rw [T.clean]
   exact jJ ib (cL _) (bR _) lim (iw tl)
 refine bw E.g E.dg (aC (c_ (bs.map bJ, pr, bg, cO, R) E.v9 E.nF (ai (vE E.aR.1 rfl (fY ..)) aD) ⟨tb, nd, ib, Ak.i, gl⟩ (by rw [hF] at lcl; exact lcl)) (t2 := .ins "Table" (fG (bs.map bJ) (cO.map .str) ((bg.filter It.told).map It.d) (jZ pr F) (cg (eW R cO F (cn F * cO.length))))) (by rw [hF]; rfl)) ?_
 have SR : jM (bs.map bJ, jZ pr F, bg.filter It.told, cO, eW R cO F (cn F * cO.length)) = .ins "Table" (fG (bs.map bJ) (cO.map .str) ((bg.filter It.told).map It.d) (jZ pr F) (cg (eW R cO F (cn F * cO.length)))) := by
   have e0 : eV (eW R cO F (cn F * cO.length)) cO (jZ pr F).length = List.range (cn F) := by rw [lpl]; exact Hx tb nd hF
   show T.ins "Table" (fG (bs.map bJ) (cO.map .str) (((bg.filter It.told).filter It.told).map It.d) (jZ (jZ pr F) (eV (eW R cO F (cn F * cO.length)) cO (jZ pr F).length)) (cg (eW (eW R cO F (cn F * cO.length)) cO (eV (eW R cO F (cn F * cO.length)) cO (jZ pr F).length) (cn (eV (eW R cO F (cn F * cO.length)) cO (jZ pr F).length) * cO.length)))) = _
   rw [e0, BL, vP, Hy, BO tb nd hF]
 have aed : (bg.filter It.told).length <= 1000 := aiD (aj2 _ _) gl
 rw [← hF]
 refine jQ (kg (jT (aC (c_ (bs, cO, bg, pr, R) E.uT E.jq (ai (vE E.aP.1 rfl (nQ ..)) (ai (pF (vL E.aT.1) (by rw [hF])) (ai (pF (vE E.dg.1 rfl (fY ..)) (by rw [hF])) aD))) ⟨Ak, nd, gl⟩ rfl) (t2 := .sh (.bl true)) rfl))) (fun hp => by cases hp) (fun _ => aE ?_)
 refine bw E.g E.Ah (aC (c_ (bs.map bJ, jZ pr F, bg.filter It.told, cO, eW R cO F (cn F * cO.length)) E.v9 E.nF (ai (vE E.dg.1 rfl (fY ..)) aD) ⟨tl2, nd, ib, lim, aed⟩ (by rw [SR]; exact lcl)) (t2 := .ins "Table" (fG (bs.map bJ) (cO.map .str) ((bg.filter It.told).map It.d) (jZ pr F) (cg (eW R cO F (cn F * cO.length))))) SR) ?_
 refine jQ (kg (jT (aC (c_ (bs, cO, bg, pr, R) E.uT E.jq (ai (vE E.aP.1 rfl (nQ ..)) (ai (pF (vL E.aT.1) (by rw [hF])) (ai (pF (vE E.Ah.1 rfl (fY ..)) (by rw [hF])) aD))) ⟨Ak, nd, gl⟩ rfl) (t2 := .sh (.bl true)) rfl))) (fun hp => by cases hp) (fun _ => aE ?_)
 obtain ⟨p0, hpr⟩ : ∃ p0, pr[0]? = some p0 := ⟨_, ahN Q.a⟩
 have aee : p0.iY = true := qy Ak.i p0 (ah3 hpr)
 have lng : ∀ y z : Addr, jO (y, z, bs, cO, bg, p0, pr, R, bs.map bJ, cO.map .str, (bg.filter It.told).map It.d, jZ pr F, cg (eW R cO F (cn F * cO.length)))   := fun _ _ => ⟨hpr, aee, by omega, by rw [ahK]; omega, by rw [lpl]; have := tl.f; omega, by unfold cg; rw [ahK]; exact tl.d, by rw [kN]; exact tl.c, fun q hq => by
   obtain ⟨z, hz, rfl⟩ := ahY.mp hq
   have := (tl.b z hz).1
   show (z.2.map fM).length <= 1000
   rw [ahK]
   omega⟩
 refine t9 (cM2 (fun y z => (y, z, bs, cO, bg, p0, pr, R, bs.map bJ, cO.map .str, (bg.filter It.told).map It.d, jZ pr F, cg (eW R cO F (cn F * cO.length)))) (BG bs cO bg pr R) Q.A E.BX E.pJ (xT E.aP.1 rfl rfl (xT E.Ah.1 rfl rfl CN)) (fun y z _ => lng y z) (t := .sh .non) (fun _ _ _ => rfl) (fun y z _ => ⟨rfl, .inl rfl, rfl, .inl rfl, trivial⟩)) ?_
 show dh X CL b _ [some (.sh (.lst (a.map .int))), some (BG bs cO bg pr R), some (.ins "Table" (fG (bs.map bJ) (cO.map .str) (bg.map It.d) pr (cg R))), some (.lst (((cN F).map .int).map T.sh)), some (.ins "Table" (fG (bs.map bJ) (cO.map .str) ((bg.filter It.told).map It.d) (jZ pr F) (cg (eW R cO F (cn F * cO.length))))), some Q.A] _
 refine jQ (kg (jT (aC (c_ (bs, cO, bg, pr, R) E.uT E.jq (ai (vE E.aP.1 rfl (nQ ..)) (ai (pF (vL E.aT.1) (by rw [hF])) (ai (pF (vE E.dg.1 rfl (fY ..)) (by rw [hF])) aD))) ⟨Ak, nd, gl⟩ rfl) (t2 := .sh (.bl true)) rfl))) (fun hp => by cases hp) (fun _ => aE ?_)
 refine t9 (cM2 (fun y z => (y, z, bs, cO, bg, p0, pr, R, bs.map bJ, cO.map .str, (bg.filter It.told).map It.d, jZ pr F, cg (eW R cO F (cn F * cO.length)))) (BG bs cO bg pr R) Q.A E.BX E.pJ (xT E.aP.1 rfl rfl (xT E.dg.1 rfl rfl CN)) (fun y z _ => lng y z) (t := .sh .non) (fun _ _ _ => rfl) (fun y z _ => ⟨rfl, .inl rfl, rfl, .inl rfl, trivial⟩)) ?_
 show dh X CL b _ [some (.sh (.lst (a.map .int))), some (BG bs cO bg pr R), some (.ins "Table" (fG (bs.map bJ) (cO.map .str) (bg.map It.d) pr (cg R))), some (.lst (((cN F).map .int).map T.sh)), some Q.A, some Q.A] _
 refine jQ (kg (jT (aC (c_ (bs, cO, bg, pr, R) E.MR E.xo (ai (vE E.aR.1 rfl (fY ..)) (ai (vE E.aP.1 rfl (nQ ..)) aD)) Ak rfl) (t2 := .sh (.bl true)) rfl))) (fun hp => by cases hp) (fun _ => aE ?_)
 obtain ⟨w0, w1⟩ := E9 (x := bf a 1) (n := pr.length) Q.a
 obtain ⟨fu, w4⟩ : ∃ i : Nat, i = (bf a 1 % (pr.length : Int)).toNat := ⟨_, rfl⟩
 rw [← w4] at w1
 have aef : (fu : Int) = bf a 1 % (pr.length : Int) := by rw [w4, ajK w0]
 refine t9 (cM2 (fun y z => (y, z, a, bs, cO, bg, pr, R, fu)) (BG bs cO bg pr (sA R cO fu)) (.ins "Table" (fG (bs.map bJ) (cO.map .str) (bg.map It.d) pr (cg (sA R cO fu)))) E.DB E.tT (ZS (v_ E.aN.1) (xT E.aP.1 rfl rfl (xT E.aR.1 rfl rfl CN))) (fun y z _ => ⟨tb, aef, w1, h5⟩) (t := .sh .non) (fun _ _ _ => rfl) (fun y z _ => ⟨rfl, .inl rfl, rfl, .inl rfl, trivial⟩)) ?_
 have Yk : zx bs cO bg pr (sA R cO fu) := QS Ak w1 h5
 have tbm := Yk.t
 show dh X CL b _ [some (.sh (.lst (a.map .int))), some (BG bs cO bg pr (sA R cO fu)), some (.ins "Table" (fG (bs.map bJ) (cO.map .str) (bg.map It.d) pr (cg (sA R cO fu)))), some (.lst (((cN F).map .int).map T.sh)), some Q.A, some Q.A] _
 generalize sA R cO fu = R2 at Yk tbm ⊢
 have tm := tbm.least nd (ji (R := R2) (hs := cO) (n := pr.length) pr.length) (iB _)
 exact cj (aC (c_ (bs, cO, bg, pr, R2) E.uT E.jq (ai (vE E.aP.1 rfl (nQ ..)) (ai (cD (aC (c_ (bs.map bJ, bg.map It.d, pr, cO, R2) E.oJ E.jx (ai (vE E.aR.1 rfl (fY ..)) aD) tbm (bB (jY _))) (t2 := .lst (((cN (eV R2 cO pr.length)).map .int).map T.sh)) rfl)) (ai (ah (EG (c_ (bs.map bJ, pr, bg, cO, R2) E.v9 E.nF (ai (vE E.aR.1 rfl (fY ..)) aD) ⟨tbm, nd, ib, Ak.i, gl⟩ (by show (T.ins "Table" _).clean = true; rw [T.clean]; exact jJ ib (cL _) (bR _) (uv Ak.i _) (iw tm))) (fY ..))) aD))) ⟨Yk, nd, gl⟩ rfl) (t2 := .sh (.bl true)) rfl) rfl
theorem gX : mw (au FN) ([("script", av), ("parts", av), ("table", av), ("found", av), ("least", av), ("again", av), ("_law_parts", az), ("_law_table", az), ("classes", az), ("merged", az), ("_law_right", az), ("_law_longer", az), ("_law_stayed", az), ("_law_row_more", az)]) = true := Q.i
theorem MS : aQ ["script", "parts", "table", "found", "least", "again"] ["script"] (au FN) := bD
def cl (aG : Addr) : Str -> Addr := fun c => if c = "Table" then aG else 0
theorem dN {aG : Addr} : cl aG "Table" = aG := by unfold cl; rw [ah7 rfl]
theorem Xc {aG : Addr} (h : Ew x = true) : cl aG x = 0 := by unfold cl; rw [ahX (fun e => by rw [e] at h; exact absurd h Q.b)]
theorem all_mk {l : PySem.W.OpenLaw} {w : World} {K : Q.h} {h : Heap} {mg : Str -> Option Value} {fa MT yh FP FQ FT MV MX T6 MY FU MZ BZ M0 FW jr FY wc M3 yi M4 T7 yj pK B3 yk FZ M5 F0 wg B4 qe T8 aG : Addr} (XX : K.In h) (G : h.Ns mainGlobals mg) (hfa : mg "law" = some (.ref fa))
   {Xd HW RA RB RC Xe Xf aaY Xg RD Xh M6 Xi RG Al RH lN Du HX Xj aaZ jx kj nF HY RJ Xk RK M7 M8 DC T9 : FuncData}
   (Am : mW K "Table" aG) (wj : PySem.W.plainGet K aG Str.empty = true) (wk : PySem.W.hasDictIn K aG = true) (wm : PySem.W.plainOver K aG = true) (wo : PySem.W.findIn K (.ref aG) "__setattr__" = some (some (.builtin "object.__setattr__"))) (nG : PySem.W.makesIn K aG = true) (nI : PySem.W.keepIn K (.ref aG) = true)
   (ko : PySem.W.findIn K (.ref aG) "boxes" = some none)
   (kr : PySem.W.findIn K (.ref aG) "signs" = some none)
   (ku : PySem.W.findIn K (.ref aG) "begin" = some none)
   (kB : PySem.W.findIn K (.ref aG) "flats" = some none)
   (lV : PySem.W.findIn K (.ref aG) "rows" = some none)
   (DE : PySem.W.findIn K (.ref aG) "__class__" = some (some (.builtin "object.__class__"))) (DF : PySem.W.specialIn K (.builtin "object.__class__") "__get__" = some (some (.builtin "getset_descriptor.__get__"))) (DG : PySem.W.takesIn K (.builtin "object.__class__") = some true) (DH : PySem.W.mroIn K aG (.type "object") = some true)
   (nE : PySem.W.kitOne K (.ref aG) (.ref aG) = some true)
   (DI : mW K "_law_name" MT) (Xl : kG K "_law_name" "_law_name" zB MT Xd)
   (sI : mW K "_law_cell_at" yh) (HZ : kG K "_law_cell_at" "_law_cell_at" nW yh HW)
   (An : mW K "_law_mixed" FP) (RL : kG K "_law_mixed" "_law_mixed" ux FP RA)
   (Ao : mW K "_law_signs" FQ) (RM : kG K "_law_signs" "_law_signs" uz FQ RB)
   (Aq : mW K "_law_small" FT) (RN : kG K "_law_small" "_law_small" uA FT RC)
   (DJ : mW K "_law_term" MV) (Xm : kG K "_law_term" "_law_term" zG MV Xe)
   (DK : mW K "_law_deed" MX) (Xn : kG K "_law_deed" "_law_deed" zL MX Xf)
   (M9 : mW K "_law_ask" T6) (aa0 : kG K "_law_ask" "_law_ask" FD T6 aaY)
   (DL : mW K "_law_face" MY) (Xo : kG K "_law_face" "_law_face" zN MY Xg)
   (As : mW K "_law_faces" FU) (RP : kG K "_law_faces" "_law_faces" uE FU RD)
   (DM : mW K "_law_next" MZ) (Xp : kG K "_law_next" "_law_next" zS MZ Xh)
   (wu : mW K "_law_marked" BZ) (Nb : kG K "_law_marked" "_law_marked" qV BZ M6)
   (DN : mW K "_law_flat" M0) (Xq : kG K "_law_flat" "_law_flat" zU M0 Xi)
   (Au : mW K "_law_parts" FW) (RQ : kG K "_law_parts" "_law_parts" uH FW RG)
   (gY : PySem.W.findIn K (.ref aG) "__init__" = some (some (.ref jr))) (gZ : PySem.W.isFn K (.ref jr) = true) (rL : kG K "__init__" "Table.__init__" jk jr Al)
   (Av : mW K "_law_table" FY) (RT : kG K "_law_table" "_law_table" uK FY RH)
   (qf : mW K "numbered" wc) (DP : kG K "numbered" "numbered" lJ wc lN)
   (DQ : mW K "told" M3) (Xr : kG K "told" "told" z7 M3 Du)
   (sJ : mW K "seen_at" yi) (Ic : kG K "seen_at" "seen_at" oE yi HX)
   (DR : mW K "seen" M4) (Xs : kG K "seen" "seen" z9 M4 Xj)
   (Nf : mW K "led" T7) (aa1 : kG K "led" "led" FI T7 aaZ)
   (sL : mW K "classes" yj) (Ie : kG K "classes" "classes" oG yj jx)
   (kC : mW K "merged_rows" pK) (xq : kG K "merged_rows" "merged_rows" iE pK kj)
   (wA : mW K "merged" B3) (Ng : kG K "merged" "merged" rz B3 nF)
   (sM : mW K "_law_told" yk) (Ig : kG K "_law_told" "_law_told" oK yk HY)
   (Aw : mW K "_law_whole" FZ) (RV : kG K "_law_whole" "_law_whole" uQ FZ RJ)
   (DS : mW K "_law_rows" M5) (Xu : kG K "_law_rows" "_law_rows" Ac M5 Xk)
   (Ax : mW K "_law_right" F0) (RW : kG K "_law_right" "_law_right" uR F0 RK)
   (wB : mW K "_law_longer" wg) (wC : kG K "_law_longer" "_law_longer" rG wg M7)
   (wF : mW K "_law_stayed" B4) (Nh : kG K "_law_stayed" "_law_stayed" rJ B4 M8)
   (qg : mW K "_law_row_more" qe) (qh : kG K "_law_row_more" "_law_row_more" lT qe DC)
   (F2 : mW K "law" T8) (Ni : kG K "law" "law" FN T8 T9)
   (Ay : PySem.W.nsIn K mainGlobals "range" = some none)
   (Nj : PySem.W.nsIn K mainGlobals "len" = some none)
   (Nk : PySem.W.nsIn K mainGlobals "max" = some none)
   (Az : PySem.W.nsIn K mainGlobals "tuple" = some none)
   (DT : PySem.W.nsIn K mainGlobals "list" = some none)
   (Nm : PySem.W.nsIn K mainGlobals "min" = some none)
   (Nn : PySem.W.nsIn K mainGlobals "str" = some none)
   {F3 : Addr} {Np : Option Addr} {z8 : Nat} {Nq : Array (Option Value)} {DU DV DW DX : Tok} (AA : PySem.W.nsIn K mainGlobals "MARKS" = some (some (.ref F3))) (wG : K.lookup F3 = some ⟨.type "tuple", Np, .seq #[.str "out" DU, .str "keep" DV, .str "way" DW, .str "in" DX] z8, Nq⟩)
   (Nr : PySem.W.nsIn K mainGlobals "set" = some none)
   (nJ : PySem.W.nsIn K mainGlobals "enumerate" = some none)
   (lW : PySem.W.nsIn K mainGlobals "isinstance" = some none)
   (Nt : PySem.W.nsIn K mainGlobals "int" = some none)
   (y_bool : PySem.W.nsIn K mainGlobals "bool" = some none)
   : ∃ fd : FuncData, (∀ (s : Shared) (v : Value), BindsTo s fd ⟨[v], []⟩ [("script", v)]) /\ ∀ base : Heap, K.In base -> base.Ns mainGlobals mg -> gH l.prog w K mg base sR 7 fa fd ["script"] (IC K (fun _ => 0) 1 oV oW oX) := by
 have e := hfa.symm.trans (ajO XX G F2)
 cases e
 have lX := rL.binds (ps := ["self", "boxes", "signs", "begin", "flats", "rows"]) fun _ _ _ _ _ _ => by refine vz ?_; exact fun _ _ _ _ _ _ => rfl
 have Nu := ajO XX G wB
 have Nv := wC.binds (ps := ["parts", "least"]) fun _ _ _ _ _ _ => by refine vz ?_; exact fun _ _ => rfl
 have DY := ajO XX G qg
 have DZ := qh.binds (ps := ["script", "parts", "table"]) fun _ _ _ _ _ _ => by refine vz ?_; exact fun _ _ _ => rfl
 have afk := ajO XX G F2
 have afl := Ni.binds (ps := ["script"]) fun _ _ _ _ _ _ => by refine vz ?_; exact fun _ => rfl
 have uU := ajO XX G Am
 have aL : tK K aG := ⟨wj, wk, wm, wo⟩
 have g5 : tK K ((cl aG) "Table") := by rw [dN]; exact aL
 have f6 : aZ K ((cl aG) "Table") "boxes" := by rw [dN]; exact ko
 have eS : aZ K ((cl aG) "Table") "signs" := by rw [dN]; exact kr
 have iG : aZ K ((cl aG) "Table") "begin" := by rw [dN]; exact ku
 have fj : aZ K ((cl aG) "Table") "flats" := by rw [dN]; exact kB
 have eN : aZ K ((cl aG) "Table") "rows" := by rw [dN]; exact lV
 have jt := aiM XX G Ay
 have nK := aiM XX G Nj
 have B5 := aiM XX G Nk
 have ju := aiM XX G Az
 have wH := aiM XX G DT
 have aa2 := aiM XX G Nm
 have aa3 := aiM XX G Nn
 have RX := ajO XX G AA
 have aa4 := aiM XX G Nr
 have B6 := aiM XX G nJ
 have lY := aiM XX G lW
 have aa5 := aiM XX G Nt
 have Xv := aiM XX G y_bool
 refine ⟨T9, ?bind, fun base _ _ => ?_⟩
 case bind =>
   obtain ⟨oc, od, kV, doc, pm, an, i7, ct, Jh, rfl, lk, kE⟩ := Ni.ex
   exact fun s v => .of_eq rfl
 have q := @VZ l.prog w mg base K h (cl aG) XX G
 have Nx := q 0 m7 m8 m9 Xl QT DI fun _ _ _ _ _ _ _ _ hr u p => Wv (by exact ⟨u, bS nV 0, bS nV 1, bS nV 2, bS nV 3, bS nV 4, dU nV 5, jt⟩) p
 have iz := q 0 dw dz dB HZ Dm sI fun _ _ _ _ _ _ _ _ hr u p => HF (by exact ⟨u, bS qa 0, bS qa 1, dU qa 2, nK⟩) p
 have lZ := q 0 e9 fc fh RL L8 An fun _ _ _ _ _ _ _ _ hr u p => QW (by exact ⟨u, bS vR 0, bS vR 1, bS vR 2⟩) p
 have RZ := q 1 nY n5 n6 RM Ma Ao fun _ _ _ _ _ _ _ _ hr u p => QY (by exact ⟨u, bS gQ 0, bS gQ 1, bS gQ 2, bS gQ 3, bS gQ 4, bS gQ 5, dU gQ 6, dU gQ 7, dU gQ 8, dH Nx hr, dH iz hr, dH lZ hr⟩) p
 have F4 := q 0 kO kP kQ RN Mb Aq fun _ _ _ _ _ _ _ _ hr u p => Q0 (by exact ⟨u, bS BP 0, bS BP 1⟩) p
 have Ny := q 1 ng nh ni Xm Q5 DJ fun _ _ _ _ _ _ _ _ hr u p => Wy (by exact ⟨u, bS zK 0, bS zK 1, dU zK 2, dH F4 hr⟩) p
 have Nz := q 2 nj jK nk Xn Q6 DK fun _ _ _ _ _ _ _ _ hr u p => WB (by exact ⟨u, bS j4 0, bS j4 1, bS j4 2, bS j4 3, bS j4 4, dU j4 5, dU j4 6, dU j4 7, dH Nx hr, nK, dH Ny hr⟩) p
 have aa6 := q 2 uB uC uD aa0 WC M9 fun _ _ _ _ _ _ _ _ hr u p => aaE (by exact ⟨u, bS vV 0, bS vV 1, bS vV 2, dU vV 3, dU vV 4, dH lZ hr, dH Ny hr⟩) p
 have Xw := q 3 qP kR qQ Xo Q8 DL fun _ _ _ _ _ _ _ _ hr u p => WH (by exact ⟨u, bS b7 0, xS b7 1, ck b7 1 rfl, bS b7 2, xS b7 3, ck b7 3 rfl, xS b7 4, ck b7 4 rfl, bS b7 5, xS b7 6, ck b7 6 rfl, bS b7 7, bS b7 8, xS b7 9, ck b7 9 rfl, bS b7 10, bS b7 11, dU b7 12, dU b7 13, dU b7 14, dU b7 15, dU b7 16, dU b7 17, dU b7 18, dH iz hr, B5, nK, dH lZ hr, jt, ju, dH Nz hr, dH aa6 hr⟩) p
 have R0 := q 4 n9 oh oi RP Mp As fun _ _ _ _ _ _ _ _ hr u p => Ra (by exact ⟨u, bS cZ 0, bS cZ 1, bS cZ 2, bS cZ 3, bS cZ 4, bS cZ 5, bS cZ 6, bS cZ 7, bS cZ 8, bS cZ 9, bS cZ 10, dU cZ 11, dU cZ 12, dU cZ 13, dU cZ 14, dU cZ 15, dH lZ hr, dH iz hr, jt, dH Xw hr, nK⟩) p
 have Xx := q 1 qS qT qU Xp Rc DM fun _ _ _ _ _ _ _ _ hr u p => WM (by exact ⟨u, bS eo 0, xS eo 1, ck eo 1 rfl, bS eo 2, bS eo 3, bS eo 4, bS eo 5, bS eo 6, xS eo 7, ck eo 7 rfl, bS eo 8, dU eo 9, dU eo 10, dU eo 11, dU eo 12, dU eo 13, dU eo 14, B5, dH lZ hr, dH iz hr, jt, nK, wH⟩) p
 have NB := q 0 lD lE lF Nb HG wu fun _ _ _ _ _ _ _ _ hr u p => Mt (by exact ⟨u, bS kT 0, bS kT 1, bS kT 2, bS kT 3, bS kT 4⟩) p
 have Xy := q 1 qX nA qY Xq Rf DN fun _ _ _ _ _ _ _ _ hr u p => WO (by exact ⟨u, bS lG 0, bS lG 1, bS lG 2, bS lG 3, dU lG 4, dU lG 5, dU lG 6, dH lZ hr, dH iz hr, ju⟩) p
 have R1 := q 5 oj om oq RQ Mx Au fun _ _ _ _ _ _ _ _ hr u p => Rk (by exact ⟨u, xS aU 0, ck aU 0 rfl, bS aU 1, bS aU 2, xS aU 3, ck aU 3 rfl, bS aU 4, bS aU 5, xS aU 6, ck aU 6 rfl, bS aU 7, bS aU 8, bS aU 9, bS aU 10, bS aU 11, bS aU 12, bS aU 13, bS aU 14, bS aU 15, bS aU 16, bS aU 17, dU aU 18, dU aU 19, dU aU 20, dU aU 21, dU aU 22, dU aU 23, dU aU 24, dU aU 25, dU aU 26, dU aU 27, dU aU 28, B5, aa2, nK, dH RZ hr, jt, dH lZ hr, dH iz hr, dH R0 hr, dH Xx hr, dH NB hr, dH Nz hr, aa3, dH F4 hr, dH Xy hr⟩) p
 have mh : gH l.prog w K mg base sR 1 jr _ ["self", "boxes", "signs", "begin", "flats", "rows"] (spI K (cl aG) "Table" 6 gS gT gU) := Pp rL pI fun i7 Ar outer s H E b a y hr hp => by
   obtain ⟨p0, p1, p2, p3, p4, p5⟩ := a; refine z6 ?_ p0 p1 p2 p3 p4 p5 y hp
   exact ⟨⟨⟨pI.nd, rfl, .never⟩, hr.units⟩, bS cH 0, bS cH 1, bS cH 2, bS cH 3, bS cH 4, bS cH 5, bS cH 6, dU cH 7, dU cH 8, wH, ju, g5, f6, eS, iG, fj, eN⟩
 have R3 := q 2 oz oA oB RT My Av fun _ _ _ _ _ _ _ _ hr u p => Rm (by exact ⟨u, bS kU 0, bS kU 1, bS kU 2, bS kU 3, dU kU 4, dU kU 5, wH, ⟨⟨_, _, _, by rw [dN]; exact ⟨nG, gY, gZ, nI⟩, mh, by rw [dN]; exact uU, lX⟩, hr.mono Q.c⟩⟩) p
 have D0 := q 0 jl jm jn DP BR qf fun _ _ _ _ _ _ _ _ hr u p => Dq (by exact ⟨u, bS iP 0, xS iP 1, ck iP 1 rfl, bS iP 2, dU iP 3, nK⟩) p
 have D3 := q 0 kW kX kY Xr Ro DQ fun _ _ _ _ _ _ _ _ hr u p => W0 (by exact ⟨u, bS Rn 0, ZL RX wG (aq rfl) (.cons ⟨_, rfl⟩ (.cons ⟨_, rfl⟩ (.cons ⟨_, rfl⟩ (.cons ⟨_, rfl⟩ (.nil)))))⟩) p
 have Ih := q 1 j6 j7 j8 Ic Ds sJ fun _ _ _ _ _ _ _ _ hr u p => HL (by exact ⟨u, bS lK 0, bS lK 1, bS lK 2, dU lK 3, ju, dH D3 hr, g5, eN⟩) p
 have Xz := q 2 rg rj rm Xs Rp DR fun _ _ _ _ _ _ _ _ hr u p => W4 (by exact ⟨u, xS rq 0, ck rq 0 rfl, xS rq 1, ck rq 1 rfl, dU rq 2, ju, dH Ih hr, g5, eS⟩) p
 have aa7 := q 0 uN uO uP aa1 W5 Nf fun _ _ _ _ _ _ _ _ hr u p => aaO (by exact ⟨u, bS qd 0, bS qd 1, bS qd 2, bS qd 3, bS qd 4, bS qd 5, dU qd 6, ju, g5, eS, eN⟩) p
 have ym := q 3 iQ iR iS Ie Dt sL fun _ _ _ _ _ _ _ _ hr u p => HP (by exact ⟨u, xS eY 0, ck eY 0 rfl, xS eY 1, ck eY 1 rfl, bS eY 2, dU eY 3, dU eY 4, dU eY 5, dU eY 6, dH D0 hr, jt, nK, aa4, dH Xz hr, dH aa7 hr, g5, fj⟩) p
 have xr := q 1 gb gf gi xq v7 kC fun _ _ _ _ _ _ _ _ hr u p => xj (by exact ⟨u, bS jL 0, xS jL 1, ck jL 1 rfl, ju, dH D3 hr⟩) p
 have NC := q 4 lO lP jM Ng HQ wA fun _ _ _ _ _ _ _ _ hr u p => MC (by exact ⟨u, xS b6 0, ck b6 0 rfl, xS b6 1, ck b6 1 rfl, bS b6 2, bS b6 3, bS b6 4, bS b6 5, bS b6 6, bS b6 7, dU b6 8, dU b6 9, dU b6 10, dU b6 11, dU b6 12, dU b6 13, dU b6 14, dH ym hr, jt, nK, B6, dH xr hr, ⟨⟨_, _, _, by rw [dN]; exact ⟨nG, gY, gZ, nI⟩, mh, by rw [dN]; exact uU, lX⟩, hr.mono Q.c⟩, dH D3 hr, g5, eS, f6, fj, iG, eN⟩) p
 have yo := q 0 iU iV iW Ig Dw sM fun _ _ _ _ _ _ _ _ hr u p => HS (by exact ⟨u, bS Dv 0⟩) p
 have R4 := q 0 oM oN oO RV MD Aw fun _ _ _ _ _ _ _ _ hr u p => Rr (by exact ⟨u, bS rB 0, dU rB 1, dU rB 2, dU rB 3, lY, aa5, Xv⟩) p
 have XA := q 1 rC rD rE Xu Ru DS fun _ _ _ _ _ _ _ _ hr u p => Xa (by exact ⟨u, bS eL 0, bS eL 1, bS eL 2, bS eL 3, bS eL 4, bS eL 5, bS eL 6, bS eL 7, bS eL 8, dU eL 9, dU eL 10, dU eL 11, dU eL 12, dU eL 13, dU eL 14, dU eL 15, dU eL 16, jt, B5, ju, dH yo hr, lY, wH, dH R4 hr, nK, g5, eN⟩) p
 have R5 := q 2 oQ oR oS RW MH Ax fun _ _ _ _ _ _ _ _ hr u p => Rx (by exact ⟨u, xS e7 0, ck e7 0 rfl, xS e7 1, ck e7 1 rfl, bS e7 2, dU e7 3, dU e7 4, dU e7 5, dU e7 6, dU e7 7, dU e7 8, dU e7 9, lY, ⟨⟨_, _, _, by rw [dN]; exact ⟨nG, gY, gZ, nI⟩, mh, by rw [dN]; exact uU, lX⟩, hr.mono Q.c⟩, ju, dH yo hr, jt, B5, dH XA hr, g5, fj, f6, eS, iG, by rw [dN]; exact ⟨DE, DF, DG, DH⟩, by rw [dN]; exact nE, by rw [dN]; exact uU⟩) p
 have NF : gH l.prog w K mg base sR 1 wg _ ["parts", "least"] (ZQ K (cl aG) 2 jN jO jP iy) := Kl wC yf (fun a hp => by
   obtain ⟨p0, p1, p2, p3, p4, p5, p6, p7, p8, p9, p10, p11, p12⟩ := a; dsimp only [jN, iy]
   repeat (first | exact trivial | refine ⟨rfl, ?_⟩)) fun i7 Ar outer s H E b a hr hp => by
   obtain ⟨p0, p1, p2, p3, p4, p5, p6, p7, p8, p9, p10, p11, p12⟩ := a; refine ML ?_ p0 p1 p2 p3 p4 p5 p6 p7 p8 p9 p10 p11 p12 hp
   exact ⟨⟨⟨yf.nd, rfl, .never⟩, hr.units⟩, bS oU 0, bS oU 1, bS oU 2, dU oU 3, wH, g5, eN, fj, eS, f6⟩
 have NK := q 0 lQ lR lS Nh HV wF fun _ _ _ _ _ _ _ _ hr u p => MP (by exact ⟨u, bS yg 0, bS yg 1, g5, f6, eS, iG, fj, eN⟩) p
 have D4 : gH l.prog w K mg base sR 2 qe _ ["script", "parts", "table"] (ZQ K (cl aG) 3 gV jo gW fO) := Kl qh tF (fun a hp => by
   obtain ⟨p0, p1, p2, p3, p4, p5, p6, p7, p8⟩ := a; dsimp only [gV, fO]
   repeat (first | exact trivial | refine ⟨rfl, ?_⟩)) fun i7 Ar outer s H E b a hr hp => by
   obtain ⟨p0, p1, p2, p3, p4, p5, p6, p7, p8⟩ := a; refine Dz ?_ p0 p1 p2 p3 p4 p5 p6 p7 p8 hp
   exact ⟨⟨⟨tF.nd, rfl, .never⟩, hr.units⟩, bS fJ 0, bS fJ 1, bS fJ 2, bS fJ 3, bS fJ 4, dU fJ 5, dU fJ 6, dH iz hr, nK, g5, eN⟩
 have aa8 : gH l.prog w K mg base sR 7 _ _ ["script"] (IC K (cl aG) 1 oV oW oX) := EB Ni MS fun i7 Ar outer s H E b a hr hp => by
   refine aaX ?_ hp
   exact ⟨⟨⟨MS.nd, rfl, .never⟩, hr.units⟩, bS gX 0, bS gX 1, bS gX 2, bS gX 3, bS gX 4, bS gX 5, dU gX 6, dU gX 7, dU gX 8, dU gX 9, dU gX 10, dU gX 11, dU gX 12, dU gX 13, dH R1 hr, dH R3 hr, dH ym hr, dH NC hr, dH R5 hr, ⟨⟨_, _, _, NF, Nu, wC.kp, Nv⟩, hr.mono Q.c⟩, dH NK hr, ⟨⟨_, _, _, D4, DY, qh.kp, DZ⟩, hr.mono Q.c⟩⟩
 exact aa8.imp (Vx (fun _ => rfl) (fun _ => rfl) fun x hx => Xc hx)
theorem walk {l : PySem.W.OpenLaw} {q : Program} {loose : List Str} {XP : (Str -> Option Value) -> Heap -> Prop} {YP : World -> Heap -> Prop} {d : DefRec} {K : Params -> PySem.W.Frag} (hn : l.most = some 63) (Zh : d.params.defaults = [])
   (hY : ∀ (w : World) (h : Heap), YP w h -> (K w.params).In h)
   (F : ∀ (w : World) (mg : Str -> Option Value) (fa : Addr) (h : Heap), (K w.params).In h -> h.Ns mainGlobals mg -> mg d.name = some (.ref fa) →
     ∃ fd : FuncData, (∀ (s : Shared) (u : Value), BindsTo s fd ⟨[u], []⟩ [("script", u)]) /\ ∀ base : Heap, (K w.params).In base -> base.Ns mainGlobals mg -> gH l.prog w (K w.params) mg base sR 7 fa fd ["script"] (IC (K w.params) (fun _ => 0) 1 oV oW oX)) :
   PySem.W.WalkO q loose XP YP l.row.toRowW d [] (fun f vs => PySem.call f vs) :=
 L2.O2 (n := 63) (k := 7) (x := "script") (CX := fun _ => sR) (sp := fun w => IC (K w.params) (fun _ => 0) 1 oV oW oX) hn Q.c Zh ⟨rfl, by decide, by decide⟩ hY F (fun _ _ a ns hl _ hS => Vr rfl hl rfl hS) fun _ _ _ _ _ z => z
end Law
end
namespace PySem.W.Fast
 def tw9309255134985939970 := 0
 def tw4656489972844750353 := 0
 def tw12776618349600790183 := 0
 def tw2360230395740204340 := 0
 def tw15275613984210429708 := 0
 def tw10543319444927664566 := 0
 def tw18033497819500224655 := 0
 def tw861750914973324429 := 0
 def tw9210690542815891776 := 0
 def tw6929444890052475417 := 0
 def tw15766981847352759904 := 0
 def tw16095113696903113451 := 0
 def tw13397666504047446296 := 0
 def tw439091087683197969 := 0
 def tw12965587251725813449 := 0
 def tw3218972725157528683 := 0
 def tw3336167233583740617 := 0
 def tw13793069962550608533 := 0
 def tw17714353619761220421 := 0
 def tw3910669351375622811 := 0
 def tw11363053624134457561 := 0
 def tw10219717887813574746 := 0
 def tw5843159565789428798 := 0
 def tw12674575801215236332 := 0
 def tw9550334804781198672 := 0
 def tw8379427589496222988 := 0
 def tw15787734101533147169 := 0
 def tw4550142095469586805 := 0
 def tw9327867273831573622 := 0
 def tw15915528102406592084 := 0
 def tw1871171154088653975 := 0
 def tw15370743176535553870 := 0
 def tw4126406640900750306 := 0
 def tw11209113493064154270 := 0
 def tw1884062490487586593 := 0
 def tw5841435554897636334 := 0
 def tw11933695086950533041 := 0
 def tw11045329507162726468 := 0
 def tw16801011936272384388 := 0
 def tw1475123101528963648 := 0
 def tw14995988786865372232 := 0
 def tw13232459682933614667 := 0
 def tw16161030381535163472 := 0
 def tw3717694681496336104 := 0
end PySem.W.Fast
open PySem PySem.W PyProof.Rows
set_option maxRecDepth 100000 in
set_option maxHeartbeats 0 in
theorem PySem.Challenge.cw_moodtree_k59_the_least_table_holds : PySem.Challenge.rw_moodtree_k59_the_least_table.Holds := by
 w_on; o_law; k_head; (case hw => w_witness2)
 k_fill
 refine Law.walk (l := PySem.Challenge.rw_moodtree_k59_the_least_table) rfl rfl (fun w h Y => PySem.W.kIn_of Y) ?F
 case F =>
   intro w mg fa h KX G SR
   refine' Law.all_mk KX G SR ?Am ?wj ?wk ?wm ?wo ?nG ?nI ?ko ?kr ?ku ?kB ?lV ?DE ?DF ?DG ?DH ?nE ?DI (L2.bX ?ki ?XC ?XD) ?sI (L2.bX ?Ii ?Ij ?Ik) ?An (L2.bX ?b5 ?R6 ?R8) ?Ao (L2.bX ?zZ ?R9 ?Sb) ?Aq (L2.bX ?Sd ?Se ?Sf) ?DJ (L2.bX ?XE ?XF ?XG) ?DK (L2.bX ?XH ?XI ?XJ) ?M9 (L2.bX ?aa9 ?abb ?abd) ?DL (L2.bX ?XM ?XO ?XQ) ?As (L2.bX ?j5 ?Sg ?Sh) ?DM (L2.bX ?XR ?XS ?XT) ?wu (L2.bX ?NP ?NQ ?NR) ?DN (L2.bX ?gy ?XU ?k_flat) ?Au (L2.bX ?aP ?Si ?Ag) ?gY ?gZ (L2.bX ?AF ?AG ?AH) ?Av (L2.bX ?aR ?Sj ?j9) ?qf (L2.bX ?D5 ?D6 ?D7) ?DQ (L2.bX ?XW ?XY ?XZ) ?sJ (L2.bX ?Il ?Im ?Io) ?DR (L2.bX ?X3 ?X4 ?X5) ?Nf (L2.bX ?abe ?abf ?abg) ?sL (L2.bX ?Ip ?Iq ?Ir) ?kC (L2.bX ?xu ?xx ?xA) ?wA (L2.bX ?NS ?NT ?NW) ?sM (L2.bX ?Iu ?Iv ?Iw) ?Aw (L2.bX ?Sl ?Sn ?k_whole) ?DS (L2.bX ?bC ?X6 ?X7) ?Ax (L2.bX ?Sq ?Ss ?Sv) ?wB (L2.bX ?NX ?NZ ?N1) ?wF (L2.bX ?N2 ?N3 ?N4) ?qg (L2.bX ?D8 ?D9 ?Ea) ?F2 (L2.bX ?abh ?abi ?abj) ?Ay ?Nj ?Nk ?Az ?DT ?Nm ?Nn ?AA ?wG ?Nr ?nJ ?lW ?Nt ?y_bool
   case Am | wj | wk | wm | wo | nG | nI | ko | kr | ku | kB | lV | DE | DF | DG | DH => (try delta L3.mW); k_is
   case nE => kit_is
   case DI | ki | XC | XD | sI | Ii | Ij | Ik | An | b5 | R6 | R8 | Ao | zZ | R9 | Sb | Aq | Sd | Se | Sf | DJ | XE | XF | XG | DK | XH | XI | XJ | M9 | aa9 | abb | abd | DL | XM | XO | XQ | As | j5 | Sg | Sh | DM | XR | XS | XT | wu | NP | NQ | NR | DN | gy | XU | k_flat | Au | aP | Si | Ag | gY | gZ | AF | AG | AH | Av | aR | Sj | j9 | qf | D5 | D6 | D7 | DQ | XW | XY | XZ | sJ | Il | Im | Io | DR | X3 | X4 | X5 | Nf | abe | abf | abg | sL | Ip | Iq | Ir | kC | xu | xx | xA | wA | NS | NT | NW | sM | Iu | Iv | Iw | Aw | Sl | Sn | k_whole | DS | bC | X6 | X7 | Ax | Sq | Ss | Sv | wB | NX | NZ | N1 | wF | N2 | N3 | N4 | qg | D8 | D9 | Ea | F2 | abh | abi | abj | Ay | Nj | Nk | Az | DT | Nm | Nn | AA | wG | Nr | nJ | lW | Nt | y_bool => (try delta L3.mW); k_is
