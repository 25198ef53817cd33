import PyProof.Rows.All
import Wide.All
import OpenK.AllK
import Wide.FinOn
import Lean
import PyProof.EqAt
import PyProof.EqKinds
import PyProof.TupleCall
import PySem.Challenge.RW_moodtree_k42_whole_moves_walked_back
set_option Elab.async false
set_option linter.all false
set_option maxRecDepth 100000
set_option maxHeartbeats 4000000
set_option hygiene false
local macro_rules | `($x:ident) => let u:=Lean.Macro.throwUnsupported; match x.getId with
 | .str (.str .anonymous "Q") s => (match s.front with
|'a'=>(match s with
|"a"=>`((by omega))
|"aa"=>`(di aC isAll es ss mem)
|"ab"=>`(cA K CL b H Z δ σ ts vs)
|"ac"=>`(fun _ _ _ => trivial)
|"ad"=>`(gI ks es w)
|"ae"=>`(s.heap.objs.size + 1)
|"af"=>`(cD fG fc hs)
|"ag"=>`(cY Q.a Q.a)
|"ah"=>`(.sh (.lst (s.map .int)))
|"ai"=>`(cO X CL b e δ t δ1)
|"aj"=>`(f1 ++ (g ++ f3))
|"ak"=>`(fun _ => .nil)
|"al"=>`(d8 b8 (asr _))
|"am"=>`(dF (i := 0) rfl Q.d)
|"an"=>`((by dsimp only [bE]; exact (⟨by omega, by omega, hs⟩)))
|"ao"=>`(es.getD src.toNat 0)
|"ap"=>`(EP X pins σ Q)
|"aq"=>`(List (Str × V))
|"ar"=>`(ah (fW Q.c))
|"as"=>`((backTo pos (starEach es X.env)).any (·.1) = false)
|"at"=>`(List.replicate es.length (-1))
|"au"=>`(ne c (by simp [hc]))
|"av"=>`(0 + (i : Int))
|"aw"=>`(r fun a ha => k a (arO _ ha))
|"ax"=>`(eN X CL b e1 δ (.int i) δ1)
|"ay"=>`(show false = true from hs)
|"az"=>`(ah (cW (aA E.b5) (ah aj) ⟨by decide, by decide⟩))
|"aA"=>`(fun j δ ⟨_, _, e⟩ => by subst e; exact arN rfl)
|"aB"=>`(fun p => !decide (p ∈ bZ es u tg))
|"aC"=>`(0 <= i /\ i < ws.length)
|"aD"=>`(ha pins s σ H _ I h)
|"aE"=>`(ai (aA E.bU) aB)
|"aF"=>`(ah (v_ Q.am))
|"aG"=>`(fun j δ ⟨_, e⟩ => by subst e; exact arN rfl)
|"aH"=>`((x == ("__classdict__" : Str)) = false)
|"aI"=>`(eN X CL b e2 δ1 (.int j) δ2)
|"aJ"=>`(fun z => hc (by simp [z]))
|"aK"=>`(ha pos pins s σ H _ I h)
|"aL"=>`(eN X CL b e δ d δ1)
|"aM"=>`(zY s es es.length)
|"aN"=>`(fun _ => trivial)
|"aO"=>`(ah (v_ (iy (i := 1) rfl Q.d)))
|"aP"=>`(aE (aA E.jc) Q.c rfl)
|"aQ"=>`(fun _ _ h r k => .cons (h fun a ha => k a (arW _ ha)) (r fun a ha => k a (arQ _ ha)))
|"aR"=>`(fun p => ju (aR ks) (aq ks) es ss mem false es.length false p)
|"aS"=>`(List (Str × NameKind))
|"aT"=>`(ds.length <= sizeLine)
|"aU"=>`(gI ks es (dg ws i))
|"aV"=>`(wZ X CL b e δ p δ1)
|"aW"=>`(iQ ks es ss is os ws)
|"aX"=>`(.Call Q.U Q.D [] pos)
|"aY"=>`(fun _ _ _ k => by rw [D.pM] at k; cases k)
|"aZ"=>`(cA K CL b H Z δ σ (t :: ts) (v :: vs))
|_=>u)
|'b'=>(match s with
|"b"=>`(List Int)
|"ba"=>`(.Compare e1 [.NotEq] [e2] pos)
|"bb"=>`(aA E.bf)
|"bc"=>`(fun x => decide (x ≠ u))
|"bd"=>`(fun _ _ h r => .cons h r)
|"be"=>`(fB X scope Nc C s0 H0 f0)
|"bf"=>`(.ref s.heap.objs.size)
|"bg"=>`(X.fn x = true \/ X.env.scope.names.lookup x = some .local)
|"bh"=>`(.ListComp elt [⟨tg, iter, ifs, 0⟩] scope pos)
|"bi"=>`(∀ x, foldedSetIterable iter X.env x = pure x)
|"bj"=>`((by intro z; cases dd <;> cases z))
|"bk"=>`(asu (bS (by simp [bV]; omega)))
|"bl"=>`((by rw [T.clean] at k; exact k))
|"bm"=>`(eN X CL b e δ (.lst ds) δ1)
|"bn"=>`(.sh (.lst (mem.map .int)))
|"bo"=>`(fN E.bX E.cB (aA E.bF) jD)
|"bp"=>`(200 + 12 * (k : Int) + 7)
|"bq"=>`(.sh (.lst (bs.map .int)))
|"br"=>`(ai Q.H (ai Q.c aB))
|"bs"=>`(ah (bW (aA E.b5) Q.c Q.i))
|"bt"=>`(fun hp => absurd hp Q.i)
|"bu"=>`(fB X scope Nc s3.heap.objs.size s3 (upd H s.heap.objs.size (.lst [])) fp)
|"bv"=>`(fun h _ r a ha => (arP.mp ha).elim (fun q => ⟨_, q ▸ h⟩) (r a))
|"bw"=>`(fun _ _ h r a ha => (arV.mp ha).elim (h a) (r a))
|"bx"=>`(PySem.revObj l ((its.toArray.size : Int) - 1))
|"by"=>`(fun a c => Ap es (gI ks es a) (gI ks es c))
|"bz"=>`(fun b o hb e => eb b o hb e)
|"bA"=>`(eN X CL b e2 δ1 (.int k) δ2)
|"bB"=>`(.Call (.Attribute Q.U "extend" pa) [e] [] pb)
|"bC"=>`(.sh (gF bs es ks ss is os Q.O))
|"bD"=>`(ah (bW Q.az Q.c Q.i))
|"bE"=>`(((backTo pb (starEach [e] X.env)).all (fun x => !x.1) && (backToKw pb (keywordEach [] X.env)).all (fun x => x.1.isSome) && decide ([e].length + ([] : List Keyword).length + (if ([] : List Keyword).isEmpty then 0 else 1) < 30)) = true)
|"bF"=>`((δc = K3 δ1 ix /\ ∀ d ∈ ds, (g d).clean = true) \/ δc = K4 δ1 ix)
|"bG"=>`(swapsWith e (some (.Name x pos')) pos.line X.env = pure false)
|"bH"=>`(∀ a o, H a = some o -> pL o = true -> Z a = some o)
|"bI"=>`(0 <= (dg ws i).src /\ (dg ws i).src < es.length)
|"bJ"=>`(iM X.prog X.w X.K X.mg X.base CX k f fd ps sp)
|"bK"=>`(envOfC qual (ak st) s.heap.objs.size f mj)
|"bL"=>`(PySem.W.keepIn X.K (.ref f) = true)
|"bM"=>`(fun p => ju (aR ks) Q.g es ss mem (cS mode) es.length false p)
|"bN"=>`(ah (v_ (iy (i := 2) rfl Q.d)))
|"bO"=>`(Aa X CL scope Nc xs.length tg parts ifs elt δc ds p g)
|"bP"=>`(aE (aA E.lV) (ah (fH E.lZ E.lY)) (cV (j := 4) rfl))
|"bQ"=>`(.builtin "type.__call__" ⟨.ref C :: us, kw⟩)
|"bR"=>`(fun w hw => sZ rx fx r fs w (by simpa using hw))
|"bS"=>`(ck (cG E.bI (aE (aA E.dB) Q.c rfl) (bJ _) E.bH aT))
|"bT"=>`(.Call (.Attribute Q.U "append" pa) [e] [] pb)
|"bU"=>`(fun x => !decide (x ∈ ia ks es ops Q.y))
|"bV"=>`(fun x => !(gs.any fun w => EW es Q.ad x))
|"bW"=>`(fun _ _ _ _ _ _ => by refine xq ?_; exact fun _ _ _ _ => rfl)
|"bX"=>`(fun r s' => r = .ok (.ret (.bool true)) /\ OldK s₁.heap s'.heap /\ s'.os = s₁.os /\ AllBare s'.gens)
|"bY"=>`(.lst ((((List.range j).map fun k => E4 s es n k ((lN s es.length).getD k 0)).map cR).map T.sh))
|"bZ"=>`(decide (w.mode = "far") && (decide (w.tgt = -1) || decide (w.tgt ∈ bD es m)))
|_=>u)
|'c'=>(match s with
|"c"=>`(ah aj)
|"ca"=>`(PySem.W.fnOf x qual (yc st) (g5 st) (ak st) .none kV doc pm an mj ct)
|"cb"=>`(starEach [e1, e2] X.env = (false, eval e1 X.env) :: starEach [e2] X.env)
|"cc"=>`(.tup [.lst (xs.map It.d), .lst (o2.map .int), .lst (m2.map .int)])
|"cd"=>`(starEach [a] X.env = (false, eval a X.env) :: starEach [] X.env)
|"ce"=>`(bW (ah (cW (ah (c_ ((s, 0)) E.c5 E.aV (ai Q.H (ai Q.c aB)) Q.an rfl)) Q.c ⟨by decide, by decide⟩)) Q.c Q.i)
|"cf"=>`(nM bs ((Bt es.length).map .str) (.ins "Tree" (tL ks es ss)) (is.map .tup) (os.map .tup) Q.O)
|"cg"=>`(attributeBase Q.U "extend" X.env (eval Q.U X.env) = eval Q.U X.env)
|"ch"=>`(aE (bz Q.M (aA E.bM) (dP (f := cR) w0 i0 i1)) Q.c (cV (j := 4) rfl))
|"ci"=>`(pO (tF (Hz (ah (isL E.bO E.bI E.bN E.bH (aA E.j6))) (ah (isL E.bO E.bI E.bN E.bH (aA E.bL)))).1 (fun _ => pP (Hz (ah (isT E.bO E.oO E.bN E.oN (aA E.j6))) (ah (isT E.bO E.oO E.bN E.oN (aA E.bL)))).1)))
|"cj"=>`(∀ b ∈ ch, (b ∈ X.ex \/ X.s₀.heap.objs.size <= b) /\ b ≠ X.env.locals /\ (∀ x c, X.env.cells.lookup x = some c -> c ≠ b) /\ ∀ p ∈ X.pn ++ pins, p.1 ≠ b)
|"ck"=>`(if (k' == NameKind.free && env.scope.kind == .function && env.kindOf n == some .cell) = true then (n, NameKind.cell) else (n, k'))
|"cl"=>`(if fY ks es ws m = true then [L3.D.tup [.str "keep", .int m, .int (mem.getD m.toNat 0), .int (bh.getD m.toNat 0)]] else [])
|"cm"=>`(if (e : Int) = u \/ (g9 es u t e /\ (e : Int) ≠ t) then st e else if xV es u e then jg ss mem (fl e) e else ch.getD e 0)
|"cn"=>`(aP (c_ ((s, q + 1 + (j : Int))) E.c5 E.aV (ai Q.H (ai (ah (dM (ah (dM (aA E.fL) Q.c)) Q.G)) aB)) Q.an rfl) (t2 := .sh (.int (az s (q + 1 + (j : Int))))) rfl)
|"co"=>`(ah (bW (ah (c_ ((s, q)) E.c5 E.aV (ai Q.H (ai (aA E.fL) aB)) (by dsimp only [bE]; exact (⟨q0, by omega, hs⟩)) rfl)) Q.c Q.i))
|"cp"=>`(ai Q.bN (ai (ah (dM Q.c (ah (C3 Q.c (ah (v_ Q.am)) (.inl ⟨by decide, by decide⟩))))) (ai Q.aO aB)))
|_=>u)
|'d'=>(match s with
|"d"=>`((by decide +kernel))
|_=>u)
|'e'=>(match s with
|"e"=>`(Str -> Addr)
|_=>u)
|'f'=>(match s with
|"f"=>`(es.length - 1)
|_=>u)
|'g'=>(match s with
|"g"=>`(aq ks)
|_=>u)
|'h'=>(match s with
|"h"=>`(List Str)
|_=>u)
|'i'=>(match s with
|"i"=>`((by decide))
|_=>u)
|'j'=>(match s with
|"j"=>`((by decide +kernel))
|_=>u)
|'k'=>(match s with
|"k"=>`(List L3.D)
|_=>u)
|'l'=>(match s with
|"l"=>`(j + 1)
|_=>u)
|'m'=>(match s with
|"m"=>`(.refl _)
|_=>u)
|'n'=>(match s with
|"n"=>`(PySem.W.Frag)
|_=>u)
|'o'=>(match s with
|"o"=>`(model X.prog X.w)
|_=>u)
|'p'=>(match s with
|"p"=>`((by simp))
|_=>u)
|'q'=>(match s with
|"q"=>`(Inv X pins σ H s)
|_=>u)
|'r'=>(match s with
|"r"=>`(aD rfl)
|_=>u)
|'s'=>(match s with
|"s"=>`(List (Option T))
|_=>u)
|'t'=>(match s with
|"t"=>`(List Addr)
|_=>u)
|'u'=>(match s with
|"u"=>`(List Value)
|_=>u)
|'v'=>(match s with
|"v"=>`(List (Addr × Obj))
|_=>u)
|'w'=>(match s with
|"w"=>`(Int -> Bool)
|_=>u)
|'x'=>(match s with
|"x"=>`(cu Q.g es ch Q.f)
|_=>u)
|'y'=>(match s with
|"y"=>`(gi ws so)
|_=>u)
|'z'=>(match s with
|"z"=>`((by simp; omega))
|_=>u)
|'A'=>(match s with
|"A"=>`(Str × T)
|_=>u)
|'B'=>(match s with
|"B"=>`((x == ("__debug__" : Str)) = false)
|_=>u)
|'C'=>(match s with
|"C"=>`(z1.trans z2)
|_=>u)
|'D'=>(match s with
|"D"=>`(e :: es)
|_=>u)
|'E'=>(match s with
|"E"=>`(CL "Chart")
|_=>u)
|'F'=>(match s with
|"F"=>`(.inl rfl)
|_=>u)
|'G'=>(match s with
|"G"=>`(aA E.k7)
|_=>u)
|'H'=>(match s with
|"H"=>`(aA E.aF)
|_=>u)
|'I'=>(match s with
|"I"=>`(Value -> Shared -> Prop)
|_=>u)
|'J'=>(match s with
|"J"=>`(Str -> Option Value)
|_=>u)
|'K'=>(match s with
|"K"=>`(k1.trans k2)
|_=>u)
|'L'=>(match s with
|"L"=>`(Option T)
|_=>u)
|'M'=>(match s with
|"M"=>`(aE Q.bb Q.c rfl)
|_=>u)
|'N'=>(match s with
|"N"=>`(model prog w)
|_=>u)
|'O'=>(match s with
|"O"=>`(ws.map cR)
|_=>u)
|'P'=>(match s with
|"P"=>`(es.map .int)
|_=>u)
|'Q'=>(match s with
|"Q"=>`(gi ws some)
|_=>u)
|'R'=>(match s with
|"R"=>`(starEach [e] X.env = (false, eval e X.env) :: starEach [] X.env)
|_=>u)
|'S'=>(match s with
|"S"=>`(.Name x pos)
|_=>u)
|'T'=>(match s with
|"T"=>`(cX I q Q.p)
|_=>u)
|'U'=>(match s with
|"U"=>`(.Name x pp)
|_=>u)
|'V'=>(match s with
|"V"=>`(fun x => !decide (x = m))
|_=>u)
|'W'=>(match s with
|"W"=>`(ek ks es ss)
|_=>u)
|'X'=>(match s with
|"X"=>`(CL "Tree")
|_=>u)
|'Y'=>(match s with
|"Y"=>`(starEach (e :: es) X.env = (false, eval e X.env) :: starEach es X.env)
|_=>u)
|'Z'=>(match s with
|"Z"=>`(fun _ _ _ _ => trivial)
|_=>u)
 |_=>u)
 | _ => u
noncomputable section
namespace L2
open PySem PySem.Spec PyProof.Rows
abbrev arK := @List.mem_cons_self
abbrev arL := @List.length_map
abbrev arM := @List.getD_eq_getElem?_getD
abbrev arN := @Nat.le_of_ble_eq_true
abbrev arO := @List.mem_cons_of_mem
abbrev arP := @List.mem_cons
abbrev arQ := @List.mem_append_right
abbrev arR := @List.append_assoc
abbrev arS := @if_neg
abbrev arT := @Int.toNat_natCast
abbrev arU := @if_pos
abbrev arV := @List.mem_append
abbrev arW := @List.mem_append_left
abbrev arX := @wpAny_bind
abbrev arY := @List.length_append
abbrev arZ := @List.getElem?_eq_getElem
abbrev ar0 := @of_decide_eq_true
abbrev ar3 := @Int.emod_lt_of_pos
abbrev ar4 := @Heap.get?_push_of_some
abbrev ar5 := @Nat.le_refl
abbrev ar6 := @Bool.false_ne_true
abbrev ar7 := @List.size_toArray
abbrev ar8 := @List.length_cons
abbrev ar9 := @Heap.lt_size
abbrev asa := @Bool.and_eq_true
abbrev asb := @List.cons_append
abbrev asd := @Int.emod_nonneg
abbrev ase := @List.mem_map
abbrev asf := @List.mem_filter
abbrev ash := @List.map_append
abbrev asi := @decide_eq_false
abbrev asj := @List.append_nil
abbrev asl := @List.map_cons
abbrev asn := @List.map_map
abbrev aso := @List.perm_append_comm
abbrev asp := @List.getElem?_eq_some_iff
abbrev asq := @of_decide_eq_false
abbrev asr := @Nat.zero_le
abbrev ass := @List.nodup_append
abbrev asu := @Nat.le_of_lt
abbrev asv := @List.Sublist.append
abbrev asw := @List.not_mem_nil
abbrev asx := @List.Perm.append_left
abbrev asy := @List.Sublist.refl
abbrev asz := @List.reverse_cons
abbrev asA := @List.getElem?_map
abbrev asB := @List.pairwise_cons
abbrev asC := @Heap.get?_push_size
abbrev asD := @Nat.le_trans
abbrev asE := @wpAny_pure
abbrev asF := @Nat.lt_of_lt_of_le
abbrev asG := @List.lookup_cons
abbrev asH := @Option.some.inj
abbrev asI := @decide_eq_true_eq
abbrev asJ := @Nat.ne_of_lt
abbrev asK := @decide_eq_true
abbrev asL := @PySem.W.mg_none_of
abbrev asM := @decide_eq_false_iff_not
abbrev asN := @List.take_length
abbrev asO := @List.mem_flatMap
abbrev asP := @PyProof.Rows.callWith_type1
abbrev asQ := @List.mem_singleton
abbrev asR := @List.length_reverse
abbrev asS := @List.pairwise_singleton
abbrev asT := @List.mem_of_getElem?
abbrev asU := @List.length_set
abbrev asV := @PySem.W.mg_of
abbrev asW := @List.filterMap_cons
abbrev asX := @List.flatMap_append
abbrev asY := @List.length_replicate
abbrev asZ := @List.length_filter_le
abbrev as1 := @Bool.not_eq_true'
abbrev as2 := @List.nodup_cons
abbrev as3 := @Int.zero_add
abbrev as4 := @List.getElem?_set_self
abbrev as5 := @sizeLine_eq
abbrev as6 := @List.sublist_append_right
abbrev as7 := @List.replicate_succ
abbrev as8 := @List.getElem?_range
abbrev as9 := @List.length_singleton
abbrev ata := @List.getElem?_eq_none
abbrev atb := @List.foldl_cons
abbrev atc := @List.filter_append
abbrev atd := @List.all_eq_true
abbrev ate := @List.map_congr_left
abbrev atf := @List.filter_map
abbrev atg := @List.range_succ
abbrev ath := @Nat.lt_of_le_of_lt
abbrev ati := @List.foldl_append
abbrev atj := @PySem.mem_of_lookup
abbrev atk := @Heap.get?_update_other
abbrev atl := @List.getElem?_append_right
abbrev atm := @List.length_take
abbrev atn := @List.getElem_mem
abbrev ato := @wpAny_Call_Name_kw
abbrev atp := @Heap.get?_update_self
abbrev atq := @builtinLookup_eq_fast
abbrev atr := @List.getElem?_set_ne
abbrev ats := @List.map_set
abbrev att := @Ne.symm
abbrev atu := @List.flatten_cons
abbrev atv := @List.mem_range
abbrev atw := @List.mem_reverse
abbrev atx := @List.filter_cons
abbrev aty := @wpAny_passesOwn
abbrev atz := @wpAny_truthy_bool
abbrev atA := @List.flatMap_cons
abbrev atB := @List.length_range
abbrev atD := @wpAny_mono
abbrev atE := @List.pairwise_append
abbrev atF := @Bool.or_eq_false_iff
abbrev atG := @Nat.le_succ
abbrev atH := @List.perm_middle
abbrev atJ := @List.length_filterMap_le
abbrev atL := @PySem.F.plainAttrs_list
abbrev atM := @Bool.eq_iff_iff
abbrev atN := @PySem.W.kia_one
abbrev atO := @List.filter_nil
abbrev atP := @typeLookup_type
abbrev atQ := @List.eq_nil_iff_forall_not_mem
abbrev atR := @wpAny_of_eq
abbrev atU := @List.takeWhile_sublist
abbrev atV := @List.take_add_one
abbrev atW := @Bool.and_false
abbrev atX := @List.takeWhile_append_of_pos
abbrev atY := @List.take_append_drop
abbrev atZ := @Nat.lt_succ_self
abbrev at0 := @List.Pairwise.filter
abbrev at3 := @or_false
abbrev at4 := @Nat.lt_irrefl
abbrev at5 := @beq_eq_false_iff_ne
abbrev at6 := @List.nil_append
abbrev at7 := @List.getElem?_append_left
abbrev at8 := @wpAny_specialOf
abbrev at9 := @List.drop_eq_getElem_cons
abbrev aua := @Bool.or_eq_true
abbrev aub := @List.map_nil
abbrev auc := @PySem.F.slot_list_extend
abbrev aud := @PySem.F.type_list_extend
abbrev aue := @Obj.data_mapFields
abbrev auf := @List.Pairwise.imp_of_mem
abbrev auh := @beq_iff_eq
abbrev aui := @List.Perm.refl
abbrev auj := @List.getElem?_replicate
abbrev auk := @List.filter_cons_of_neg
abbrev aul := @List.filter_cons_of_pos
abbrev aum := @List.ext_getElem?
abbrev aun := @wpAny_newObj_type
abbrev auo := @List.filter_congr
abbrev aup := @List.any_cons
abbrev auq := @List.map_take
abbrev aur := @Bool.and_true
abbrev aus := @Bool.true_and
abbrev Key := Sum Int Str
def aeb : Key -> Value -> Bool
 | .inl k, v => Value.isInt k v
 | .inr x, v => Value.isStrOf x v
def alU (w : World) : Key -> Int
 | .inl k => hashInt k
 | .inr x => hashStr w x
theorem fE : ∀ {k : Key} {v : Value}, aeb k v = true -> (∃ i t, k = Sum.inl i /\ v = Value.int i t) \/ (∃ x t, k = Sum.inr x /\ v = Value.str x t)
 | .inl i, v, h => by
   obtain ⟨t, e⟩ := Value.isInt_shape (k := i) (v := v) h
   exact .inl ⟨i, t, rfl, e⟩
 | .inr x, v, h => by
   obtain ⟨t, e⟩ := Value.isStrOf_shape (x := x) (v := v) h
   exact .inr ⟨x, t, rfl, e⟩
theorem aeR (a b : Int) : decide ((Sum.inl a : Key) = Sum.inl b) = (a == b) := by
 by_cases e : a = b
 . subst e; simp
 . have h : ¬ (Sum.inl a : Key) = Sum.inl b := fun q => e (Sum.inl.inj q)
   rw [asi h]
   exact (at5.mpr e).symm
theorem aeS (a b : Str) : decide ((Sum.inr a : Key) = Sum.inr b) = decide (a = b) := by
 by_cases e : a = b
 . subst e; simp
 . have h : ¬ (Sum.inr a : Key) = Sum.inr b := fun q => e (Sum.inr.inj q)
   rw [asi h, asi e]
theorem aeT (a : Int) (b : Str) : decide ((Sum.inl a : Key) = Sum.inr b) = false := asi (fun q => nomatch q)
theorem aeU (a : Str) (b : Int) : decide ((Sum.inr a : Key) = Sum.inl b) = false := asi (fun q => nomatch q)
def Q7 (prog : Program) (w : World) : PySem.KeyKind prog w Key where
 is := aeb
 hash := alU w
 inj := fun v a b ha hb => by
   rcases fE ha with ⟨i, t, rfl, rfl⟩ | ⟨x, t, rfl, rfl⟩
   . rcases fE hb with ⟨j, u, rfl, e⟩ | ⟨y, u, rfl, e⟩
     . injection e with e1 _; rw [e1]
     . exact nomatch e
   . rcases fE hb with ⟨j, u, rfl, e⟩ | ⟨y, u, rfl, e⟩
     . exact nomatch e
     . injection e with e1 _; rw [e1]
 byValue := fun k v h => by
   rcases fE h with ⟨i, t, rfl, rfl⟩ | ⟨x, t, rfl, rfl⟩ <;> rfl
 pyHash := fun hv h => by
   rcases fE hv with ⟨i, t, rfl, rfl⟩ | ⟨x, t, rfl, rfl⟩
   . exact wpAny_pyHash_int h
   . exact wpAny_pyHash_str h
 eqBool := fun hu hv h => by
   rcases fE hu with ⟨i, t, rfl, rfl⟩ | ⟨x, t, rfl, rfl⟩
   . rcases fE hv with ⟨j, u, rfl, rfl⟩ | ⟨y, u, rfl, rfl⟩
     . rw [aeR] at h; exact wpAny_eqBool_int h
     . rw [aeT] at h; exact SeqAt.EqAt.int_str i t y u _ _ _ _ h
   . rcases fE hv with ⟨j, u, rfl, rfl⟩ | ⟨y, u, rfl, rfl⟩
     . rw [aeU] at h; exact SeqAt.EqAt.str_int x t j u _ _ _ _ h
     . rw [aeS] at h; exact wpAny_eqBool_str h
 «strs» := fun k x t v h => by
   rcases fE h with ⟨i, u, rfl, e⟩ | ⟨y, u, rfl, e⟩
   . exact nomatch e
   . injection e with e1 _
     subst e1
     cases v <;> rfl
inductive V where
 | non | bl (b : Bool) | int (i : Int) | str (x : Str) | SR (b : Array UInt8) | flt (b : UInt64) | ref (a : Addr) | ty (n : String)
 deriving DecidableEq
def RelV : V -> Value -> Prop
 | .non, u => u = Value.none
 | .bl b, u => u = Value.bool b
 | .int i, u => ∃ t, u = Value.int i t
 | .str x, u => ∃ t, u = Value.str x t
 | .SR b, u => ∃ t, u = Value.bytes b t
 | .flt b, u => ∃ t, u = Value.float b t
 | .ref a, u => u = Value.ref a
 | .ty n, u => u = Value.type n
abbrev Vals : List V -> List Value -> Prop := Paired RelV
variable {us : Q.u}
theorem Vals.length {xs : List V} (r : Vals xs us) : xs.length = us.length := Paired.length r
theorem Vals.get : ∀ {xs : List V} {us : Q.u} {i : Nat} {x : V}, Vals xs us -> xs[i]? = some x -> ∃ u, us[i]? = some u /\ RelV x u
 | _, _, _, _, .nil, e => by simp at e
 | _, _, 0, _, .cons r _, e => by simp at e; subst e; exact ⟨_, rfl, r⟩
 | _, _, i + 1, x, .cons _ t, e => by
   obtain ⟨u, h1, h2⟩ := Vals.get (i := i) (x := x) t (by simpa using e)
   exact ⟨u, by simpa using h1, h2⟩
theorem Vals.set {x : V} {u : Value} (r : RelV x u) : ∀ {xs : List V} {us : Q.u} (i : Nat), Vals xs us -> Vals (xs.set i x) (us.set i u)
 | _, _, _, .nil => .nil
 | _, _, 0, .cons _ t => .cons r t
 | _, _, i + 1, .cons q t => .cons q (Vals.set r i t)
theorem Vals.append : ∀ {xs ys : List V} {us ws : Q.u}, Vals xs us -> Vals ys ws -> Vals (xs ++ ys) (us ++ ws)
 | _, _, _, _, .nil, s => s
 | _, _, _, _, .cons r t, s => .cons r (Vals.append t s)
theorem Vals.take : ∀ {xs : List V} {us : Q.u} (n : Nat), Vals xs us -> Vals (xs.take n) (us.take n)
 | _, _, 0, _ => .nil
 | _, _, _ + 1, .nil => .nil
 | _, _, n + 1, .cons r t => .cons r (Vals.take n t)
theorem Vals.drop : ∀ {xs : List V} {us : Q.u} (n : Nat), Vals xs us -> Vals (xs.drop n) (us.drop n)
 | _, _, 0, r => r
 | _, _, _ + 1, .nil => .nil
 | _, _, n + 1, .cons _ t => Vals.drop n t
def N1 : Option V -> Option Value -> Prop
 | some v, some u => RelV v u
 | none, none => True
 | _, _ => False
def KV {κ : Type} : List (κ × V) -> List (κ × Value) -> Prop := Paired fun (p : κ × V) (q : κ × Value) => p.1 = q.1 /\ RelV p.2 q.2
def kV : Key -> V
 | .inl i => .int i
 | .inr x => .str x
inductive HO where
 | lst (xs : List V)
 | tup (xs : List V)
 | dK (ql : List (Key × V)) | dT (ql : List (List Key × V))
 | set (S : Q.w) (n : Nat)
 | ins (C dx : Addr) (fs : Q.aq)
 | own (x : Addr)
 | xd (fs : Q.aq)
 | met (f x : Addr)
 | rng (lo hi : Int)
 | dJ (o : Obj) (u : HO)
 | tbl (ps : Array Value)
 | tabs (q : Str)
 | cod (q : Str)
 | ext (φ : Heap -> Prop)
abbrev Hp := Addr -> Option HO
def upd (H : Hp) (a : Addr) (o : HO) : Hp := fun b => if b = a then some o else H b
variable {H : Hp} {a : Addr} {o : HO}
theorem b9 : upd H a o a = some o := by unfold upd; rw [arU rfl]
variable {b : Addr}
theorem aL (h : b ≠ a) : upd H a o b = H b := by unfold upd; rw [arS h]
theorem cE (h : H a = some o) (h' : H b = none) : a ≠ b := by
 intro e; subst e; rw [h] at h'; cases h'
section
variable (P : Program) (w : World)
def kG (H : Hp) (h : Heap) (a : Addr) : HO -> Prop
 | .lst xs => xs.length <= sizeLine /\ ∃ (its : Q.u) (n : Nat), Vals xs its /\ h.get? a = some { cls := .type "list", data := .seq its.toArray n }
 | .tup xs => xs.length <= sizeLine /\ ∃ its : List Value, Vals xs its /\ IsTup h a its.toArray
 | .dK ql => ql.length <= sizeLine /\ (a == sysModules) = false /\ ∃ vs, KV ql vs /\ h.DictOf (Q7 P w) a vs
 | .dT ql => ql.length <= sizeLine /\ (a == sysModules) = false /\ ∃ xs : List (List Key × Addr × Value),
     Paired (fun (p : List Key × V) (q : List Key × Addr × Value) => p.1 = q.1 /\ H q.2.1 = some (.tup (p.1.map kV)) /\ RelV p.2 q.2.2) ql xs ∧
     ∃ o es ep, h.get? a = some o /\ o.ExactDict /\ o.data = .dict es ep /\ es.toList = xs.map (entryOfKey (tupleKind (Q7 P w))) /\ (xs.map (·.1)).Nodup
 | .set S n => h.SetOf (intKind P w) a S n
 | .ins C dx fs => H dx = some (.own a) /\ fs.length <= 1000 /\ dx ≠ a /\ h.get? a = some (PySem.W.instObj C dx) ∧
     ∃ mA, h.Ns1 dx mA /\ (∀ f, N1 (fs.lookup f) (mA f)) /\ PySem.Within mA (fs.map (·.1))
 | .own _ => ∃ o, h.get? a = some o
 | .xd fs => ∃ mA, h.Ns1 a mA /\ ∀ f, N1 (fs.lookup f) (mA f)
 | .rng lo hi => ∃ t u v, h.get? a = some { cls := .type "range", data := .fields #[.int lo t, .int hi u, .int 1 v] }
 | .dJ o u => h.get? a = some o /\ kG H h a u
 | .tbl ps => h.get? a = some { cls := .none, data := .fields ps }
 | .tabs q => ∃ ps : Array Value, h.get? a = some { cls := .none, data := .fields ps } /\ TriplesOk ps.toList /\ ∀ pos cv, codeAmong pos ps.toList = some cv -> ∃ c, cv = .ref c /\ H c = some (.cod q)
 | .cod q => ∃ o vs t, h.get? a = some o /\ o.data = .fields vs /\ vs[1]? = some (.str q t)
 | .met f x => h.get? a = some (PySem.W.methodObj (.ref f) (.ref x))
 | .ext φ => φ h /\ (∃ o, h.get? a = some o) /\ ∀ h1 h2 : Heap, φ h1 -> (∀ o, h1.get? a = some o -> h2.get? a = some o) -> φ h2
def Bv (H : Hp) (h : Heap) : Prop := ∀ a o, H a = some o -> kG P w H h a o
end
variable {P : Program} {w : World} {H' : Hp} {h h' : Heap}
theorem kG.lt (x : kG P w H h a o) : a < h.objs.size := by
 cases o with
 | lst xs => obtain ⟨_, _, _, _, e⟩ := x; exact ar9 e
 | tup xs => obtain ⟨_, _, _, p⟩ := x; exact p.lt
 | dK ql => obtain ⟨_, _, _, _, o, _, _, e, _⟩ := x; exact ar9 e
 | dT ql => obtain ⟨_, _, _, _, o, _, _, e, _⟩ := x; exact ar9 e
 | set S n => obtain ⟨o, _, _, _, e, _⟩ := x; exact ar9 e
 | ins C dx fs => obtain ⟨_, _, _, e, _⟩ := x; exact ar9 e
 | own y => obtain ⟨_, e⟩ := x; exact ar9 e
 | xd fs => obtain ⟨_, ⟨_, _, _, e, _⟩, _⟩ := x; exact ar9 e
 | rng lo hi => obtain ⟨_, _, _, e⟩ := x; exact ar9 e
 | dJ ob u => obtain ⟨e, _⟩ := x; exact ar9 e
 | tbl ps => exact ar9 (show h.get? a = some _ from x)
 | tabs q => obtain ⟨_, e, _⟩ := x; exact ar9 e
 | cod q => obtain ⟨_, _, _, e, _⟩ := x; exact ar9 e
 | met f y => exact ar9 (show h.get? a = some _ from x)
 | ext φ => obtain ⟨_, ⟨_, e⟩, _⟩ := x; exact ar9 e
theorem Paired.ai5 {α β : Type} {F G : α -> β -> Prop} : ∀ {l₁ : List α} {l₂ : List β}, Paired F l₁ l₂ -> (∀ a b, F a b -> G a b) -> Paired G l₁ l₂
 | _, _, .nil, _ => .nil
 | _, _, .cons r t, f => .cons (f _ _ r) (Paired.ai5 t f)
theorem kG.G6 (x : kG P w H h a o) (k : ∀ b u, (b = a \/ H b = some (.own a)) -> h.get? b = some u -> h'.get? b = some u)
   (ho : ∀ b, H b = some (.own a) -> H' b = some (.own a)) (ht : ∀ b xs, H b = some (.tup xs) -> H' b = some (.tup xs)) (qS : ∀ b q, H b = some (.cod q) -> H' b = some (.cod q) := by intro _ _ q; exact q) : kG P w H' h' a o := by
 induction o with
 | lst xs => obtain ⟨z, its, n, r, e⟩ := x; exact ⟨z, its, n, r, k _ _ Q.F e⟩
 | tup xs => obtain ⟨z, its, r, ob, e, c⟩ := x; exact ⟨z, its, r, ob, k _ _ Q.F e, c⟩
 | dK ql => obtain ⟨z, y, vs, r, ob, es, ep, e, c⟩ := x; exact ⟨z, y, vs, r, ob, es, ep, k _ _ Q.F e, c⟩
 | dT ql =>
   obtain ⟨z, y, xs, r, ob, es, ep, e, c⟩ := x
   exact ⟨z, y, xs, Paired.ai5 r fun p q z => ⟨z.1, ht _ _ z.2.1, z.2.2⟩, ob, es, ep, k _ _ Q.F e, c⟩
 | set S n => obtain ⟨ob, es, ep, t, e, c⟩ := x; exact ⟨ob, es, ep, t, k _ _ Q.F e, c⟩
 | ins C dx fs =>
   obtain ⟨d, z, ne, e, mA, ⟨od, es, ep, e2, c⟩, r⟩ := x
   exact ⟨ho _ d, z, ne, k _ _ Q.F e, mA, ⟨od, es, ep, k _ _ (.inr d) e2, c⟩, r⟩
 | own y => obtain ⟨ob, e⟩ := x; exact ⟨ob, k _ _ Q.F e⟩
 | xd fs => obtain ⟨mA, ⟨od, es, ep, e, c⟩, r⟩ := x; exact ⟨mA, ⟨od, es, ep, k _ _ Q.F e, c⟩, r⟩
 | rng lo hi => obtain ⟨t, u, v, e⟩ := x; exact ⟨t, u, v, k _ _ Q.F e⟩
 | dJ ob u ih => obtain ⟨e, q⟩ := x; exact ⟨k _ _ Q.F e, ih q⟩
 | tbl ps =>
   have e : h.get? a = some { cls := .none, data := .fields ps } := x
   show h'.get? a = some { cls := .none, data := .fields ps }
   exact k a _ Q.F e
 | met f y =>
   have e : h.get? a = some (PySem.W.methodObj (.ref f) (.ref y)) := x
   show h'.get? a = some (PySem.W.methodObj (.ref f) (.ref y))
   exact k a _ Q.F e
 | tabs q => obtain ⟨ps, e, tr, cs⟩ := x; exact ⟨ps, k _ _ Q.F e, tr, fun pos cv z => let ⟨c, e1, e2⟩ := cs pos cv z; ⟨c, e1, qS _ _ e2⟩⟩
 | cod q => obtain ⟨ob, vs, t, e, r⟩ := x; exact ⟨ob, vs, t, k _ _ Q.F e, r⟩
 | ext φ => obtain ⟨p, ⟨o, e⟩, st⟩ := x; exact ⟨st _ _ p fun o q => k _ _ Q.F q, ⟨o, k _ _ Q.F e⟩, st⟩
theorem Bv.lt (x : Bv P w H h) (e : H a = some o) : a < h.objs.size := (x a o e).lt
theorem Bv.fresh (x : Bv P w H h) (e : h.objs.size <= a) : H a = none := by
 cases q : H a with
 | none => rfl
 | some u => exact absurd (asF (x.lt q) e) (at4 _)
theorem Bv.kept (x : Bv P w H h) (k : ∀ b u, h.get? b = some u -> h'.get? b = some u) : Bv P w H h' := fun a o e =>
 (x a o e).G6 (fun b u _ q => k b u q) (fun _ q => q) fun _ _ q => q
theorem Bv.laid (x : Bv P w H h) (k : ∀ b u, h.get? b = some u -> h'.get? b = some u) (hp : h.objs.size <= a) (new : kG P w (upd H a o) h' a o) : Bv P w (upd H a o) h' := fun b u e => by
 have hn := x.fresh hp
 by_cases hb : b = a
 . subst hb; rw [b9] at e; cases e; exact new
 . rw [aL hb] at e
   exact (x b u e).G6 (fun c v _ q => k c v q) (fun c q => by rw [aL (cE q hn)]; exact q) (fun c xs q => by rw [aL (cE q hn)]; exact q) fun c z q => by rw [aL (cE q hn)]; exact q
def Rd (H : Hp) (a : Addr) (u : HO) : Prop := H a = some u \/ ∃ o, H a = some (.dJ o u)
theorem Rd.ok {u : HO} (r : Rd H a u) (x : Bv P w H h) : kG P w H h a u := by
 rcases r with r | ⟨o, r⟩
 . exact x a u r
 . obtain ⟨_, q⟩ := x a _ r
   exact q
def Mut : Option HO -> Prop
 | some (.lst _) => True
 | some (.dK _) => True
 | some (.dT _) => True
 | some (.set _ _) => True
 | some (.ins _ _ _) => True
 | some (.ext _) => True
 | some (.tabs _) => True
 | _ => False
variable {x e : Addr} {o' : HO}
theorem Bv.write (ok : Bv P w H h) (mu : Mut (H x)) (he : e = x \/ H e = some (.own x)) (k : ∀ b u, b ≠ e -> h.get? b = some u -> h'.get? b = some u) (heo : ∃ u, h'.get? e = some u)
   (new : kG P w (upd H x o') h' x o') : Bv P w (upd H x o') h' := fun b u q => by
 have ai6 : ∀ c y, H c = some (.own y) -> c ≠ x := fun c y r z => by subst z; rw [r] at mu; exact mu
 have alW : ∀ c xs, H c = some (.tup xs) -> c ≠ x := fun c xs r z => by subst z; rw [r] at mu; exact mu
 have alX : ∀ c q, H c = some (.cod q) -> c ≠ x := fun c q r z => by subst z; rw [r] at mu; exact mu
 by_cases hb : b = x
 . subst hb; rw [b9] at q; cases q; exact new
 . rw [aL hb] at q
   by_cases hbe : b = e
   . have q' : H b = some (.own x) := by
       rcases he with z | z
       . exact absurd (hbe.trans z) hb
       . rw [hbe]; exact z
     rw [q] at q'; cases q'
     obtain ⟨v, hv⟩ := heo
     exact ⟨v, by rw [hbe]; exact hv⟩
   . refine (ok b u q).G6 (fun c v hc r => k c v ?_ r) (fun c r => by rw [aL (ai6 c b r)]; exact r) (fun c xs r => by rw [aL (alW c xs r)]; exact r) fun c z r => by rw [aL (alX c z r)]; exact r
     rcases hc with rfl | hc
     . exact hbe
     . rintro rfl
       rcases he with z | z
       . exact ai6 c b hc z
       . rw [hc] at z; cases z; exact hb rfl
structure Un (fs ex : Q.t) (H H' : Hp) (h h' : Heap) : Prop where
 keep : ∀ b o, h.get? b = some o -> H b = none -> b ∉ fs -> b ∉ ex -> h'.get? b = some o
 slot : ∀ b o, h.get? b = some o -> H b = none -> b ∈ fs -> b ∉ ex -> ∃ sl, h'.get? b = some { o with slots := sl }
 free : ∀ b o, h.get? b = some o -> H b = none -> b ∉ ex -> H' b = none
 there : ∀ b o, h.get? b = some o -> b ∉ ex -> ∃ o', h'.get? b = some o'
 G7 : ∀ b xs, H b = some (.tup xs) -> H' b = some (.tup xs)
 ez : ∀ b o u, H b = some (.dJ o u) -> H' b = some (.dJ o u)
 G8 : ∀ b ps, H b = some (.tbl ps) -> ∃ more, H' b = some (.tbl (ps ++ more))
section
variable {fs ex : Q.t} {H1 : Hp} {h1 : Heap}
theorem Un.any (u : Un fs ex H H1 h h1) {ob : Obj} (q : h.get? b = some ob) (n : H b = none) (hx : b ∉ ex) : ∃ sl, h1.get? b = some { ob with slots := sl } := by
 by_cases hb : b ∈ fs
 . exact u.slot b ob q n hb hx
 . exact ⟨ob.slots, u.keep b ob q n hb hx⟩
theorem Un.kept (k : ∀ b u, h.get? b = some u -> h'.get? b = some u) : Un fs ex H H h h' :=
 ⟨fun b ob q _ _ _ => k b ob q, fun b ob q _ _ _ => ⟨ob.slots, k b ob q⟩, fun _ _ _ n _ => n, fun b ob q _ => ⟨ob, k b ob q⟩, fun _ _ q => q, fun _ _ _ q => q, fun _ ps q => ⟨#[], by rw [q]; simp⟩⟩
theorem Un.refl : Un fs ex H H h h := Un.kept fun _ _ q => q
theorem Un.laid (k : ∀ b u, h.get? b = some u -> h'.get? b = some u) (hp : h.objs.size <= a) (hn : H a = none) : Un fs ex H (upd H a o) h h' where
 keep := fun b u q _ _ _ => k b u q
 slot := fun b u q _ _ _ => ⟨u.slots, k b u q⟩
 free := fun b u q n _ => by rw [aL (asJ (asF (ar9 q) hp))]; exact n
 there := fun b u q _ => ⟨u, k b u q⟩
 G7 := fun b xs q => by rw [aL (cE q hn)]; exact q
 ez := fun b u xs q => by rw [aL (cE q hn)]; exact q
 G8 := fun b ps q => ⟨#[], by rw [aL (cE q hn), q]; simp⟩
theorem Un.write (mu : Mut (H x)) (he : e = x \/ H e = some (.own x)) (k : ∀ b u, b ≠ e -> h.get? b = some u -> h'.get? b = some u) (heo : ∃ u, h'.get? e = some u) : Un fs ex H (upd H x o) h h' := by
 have hx : ∀ b, H b = none -> b ≠ x := fun b n z => by subst z; rw [n] at mu; exact mu
 have hb : ∀ b, H b = none -> b ≠ e := fun b n z => by
   subst z
   rcases he with r | r
   . exact hx b n r
   . rw [n] at r; cases r
 have hm : ∀ b u, H b = some u -> ¬ Mut (some u) -> b ≠ x := fun b u q nm z => by subst z; rw [q] at mu; exact nm mu
 refine ⟨fun b u q n _ _ => k b u (hb b n) q, fun b u q n _ _ => ⟨u.slots, k b u (hb b n) q⟩, fun b u q n _ => by rw [aL (hx b n)]; exact n, fun b u q _ => ?_,
   fun b xs q => by rw [aL (hm b _ q fun z => z)]; exact q, fun b u xs q => by rw [aL (hm b _ q fun z => z)]; exact q, fun b ps q => ⟨#[], by rw [aL (hm b _ q fun z => z), q]; simp⟩⟩
 by_cases hbe : b = e
 . subst hbe; exact heo
 . exact ⟨u, k b u hbe q⟩
end
def trk (h : Heap) (H : Hp) : List Addr := (List.range h.objs.size).filter fun a => (H a).isSome
def G9 (h : Heap) (H : Hp) : Heap := PySem.W.hideAll h (trk h H)
theorem SV (h : Heap) (H : Hp) : (G9 h H).objs.size = h.objs.size := PySem.W.hideAll_size _ _
theorem Vm {o : Obj} (e : h.get? b = some o) (n : H b = none) : (G9 h H).get? b = some o :=
 PySem.W.hideAll_get _ e fun hm => by
   have q : (H b).isSome = true := (asf.mp hm).2
   rw [n] at q; simp at q
theorem aas {o : Obj} (e : (G9 h H).get? b = some o) : h.get? b = some o /\ H b = none := by
 have e' : h.get? b = some o := PySem.W.of_hideAll (trk h H) e
 refine ⟨e', ?_⟩
 cases q : H b with
 | none => rfl
 | some x =>
   have hm : b ∈ trk h H := asf.mpr ⟨atv.mpr (ar9 e'), by simp [q]⟩
   have z : (G9 h H).get? b = none := PySem.W.hideAll_none (trk h H) hm
   rw [z] at e; cases e
def aat (g h : Heap) (L : Addr) : List (Addr × Obj) := (List.range h.objs.size).filterMap fun a => if a = L \/ (g.get? a).isSome = true then none else (h.get? a).map fun o => (a, o)
def rest (g h : Heap) (L d : Addr) : List (Addr × Obj) := (aat g h L).filter fun p => decide (p.1 ≠ d)
structure Mod (K : Q.n) (mg : Q.J) (base : Heap) : Prop where
 kin : K.In base
 glob : base.Ns mainGlobals mg
 blt : ∃ mb, base.Ns builtinsNs mb /\ ∀ x : Str, x ≠ "__name__" -> mb x = bootBuiltins x
 nolimit : base.NoLimit
structure Cx where
 prog : Program
 w : World
 K : PySem.W.Frag
 mg : Str -> Option Value
 base : Heap
 A : Around
 N : List Str
 s₀ : Shared
 H₀ : Hp
 env : Env
 outer : List Env
 stack : List Env
 ex : List Addr
 fn : Str -> Bool
 calm : Bool
 pn : List (Addr × Obj)
 xe : Value -> Shared -> Prop
def Vb (l : List Env) : List Addr := l.filterMap (·.frame)
abbrev Cx.fs (X : Cx) : List Addr := Vb X.outer
def Vis (sc : Scope) (x : Str) : Prop := sc.names.lookup x = some .local \/ sc.names.lookup x = some .cell \/ sc.names.lookup x = some .free
def Loc (sc : Scope) (x : Str) : Prop := sc.names.lookup x = some .local \/ sc.names.lookup x = some .cell
def Look (env : Env) (h : Heap) (m : Q.J) (x : Str) (u : Value) : Prop :=
 (env.kindOf x = some .local /\ m x = some u) \/ ((env.kindOf x = some .cell \/ env.kindOf x = some .free) /\ ∃ c, env.cells.lookup x = some c /\ h.IsCell c (some u))
structure Cx.Ok (X : Cx) : Prop where
 mod : Mod X.K X.mg X.base
 kind : X.env.scope.kind = .function
 glob : X.env.globals = mainGlobals
 blt : X.env.builtins = builtinsNs
 above : X.s₀.heap.objs.size <= X.env.locals
 inj : ∀ x y c, X.env.cells.lookup x = some c -> X.env.cells.lookup y = some c -> x = y
 has : ∀ x, (X.env.kindOf x = some .cell \/ X.env.kindOf x = some .free) -> ∃ c, X.env.cells.lookup x = some c
 cab : ∀ x c, X.fn x = true -> X.env.cells.lookup x = some c -> X.s₀.heap.objs.size <= c
 hd : X.calm = true -> X.A.handled = none
 frames : X.A.frames = some X.stack
 stk : X.stack = X.outer \/ (X.stack = X.env :: X.outer /\ X.env.frame = some X.env.locals)
 exf : ∀ b ∈ X.ex, b ≠ X.env.locals /\ ∀ x c, X.env.cells.lookup x = some c -> c ≠ b
 bs : ∀ b o, X.base.get? b = some o -> X.s₀.heap.get? b = some o /\ X.H₀ b = none
 bsz : X.base.objs.size <= X.s₀.heap.objs.size
 Vo : ∀ b o, X.base.get? b = some o -> b ∉ X.ex
 aav : ∀ b ∈ X.ex, b ∉ X.fs
 Bh : X.s₀.heap.FunFrames X.base X.outer
 frf : ∀ b ∈ X.fs, X.H₀ b = none
structure Inv (X : Cx) (pins : Q.v) (σ : List (Option V)) (H : Hp) (s : Shared) : Prop where
 ok : X.Ok
 os : s.os = X.s₀.os
 bare : AllBare s.gens
 base : Un X.fs X.ex X.H₀ H X.s₀.heap s.heap
 loc : ∃ m, s.heap.Ns X.env.locals m /\ ∀ (i : Nat) (x : Str) (v : V), X.N[i]? = some x -> σ[i]? = some (some v) -> Vis X.env.scope x -> ∃ u, RelV v u /\ Look X.env s.heap m x u
 cell : ∀ x c, X.env.cells.lookup x = some c -> ∃ v, s.heap.IsCell c v
 free : H X.env.locals = none
 wA : ∀ x c, X.env.cells.lookup x = some c -> H c = none
 pin : ∀ p ∈ X.pn ++ pins, s.heap.get? p.1 = some p.2 /\ H p.1 = none /\ p.1 ≠ X.env.locals /\ p.1 ∉ X.fs /\ ∀ v, p.2.data ≠ .cell v
 gX : Bv X.prog X.w H s.heap
 len : σ.length = X.N.length
variable {X : Cx} {pins : Q.v} {σ : List (Option V)} {s : Shared}
theorem Cx.Ok.alY (ok : X.Ok) {o : Obj} (e : X.base.get? b = some o) : b ∉ X.fs := fun hb => by
 have := (ok.Bh.mem hb).1
 rw [e] at this; cases this
theorem Inv.bs (I : Q.q) : ∀ b o, X.base.get? b = some o -> s.heap.get? b = some o /\ H b = none := fun b o e =>
 ⟨I.base.keep b o (I.ok.bs b o e).1 (I.ok.bs b o e).2 (I.ok.alY e) (I.ok.Vo b o e), I.base.free b o (I.ok.bs b o e).1 (I.ok.bs b o e).2 (I.ok.Vo b o e)⟩
theorem Inv.bk (I : Q.q) : ∀ b o, X.base.get? b = some o -> s.heap.get? b = some o := fun b o e => (I.bs b o e).1
theorem Inv.mod (I : Q.q) : Mod X.K X.mg X.base := I.ok.mod
theorem Inv.KG (I : Q.q) : X.K.In s.heap := I.ok.mod.kin.keeps I.bk
theorem Inv.lt (I : Q.q) : X.env.locals < s.heap.objs.size := let ⟨_, hn, _⟩ := I.loc; hn.lt
theorem Inv.sz (I : Q.q) : X.s₀.heap.objs.size <= s.heap.objs.size := asD I.ok.above (asu I.lt)
theorem Inv.alZ (I : Q.q) (h : s.heap.objs.size <= a) : a ∉ X.fs := fun hb => by
 obtain ⟨_, o, ho, _⟩ := I.ok.Bh.mem hb
 exact absurd (asF (ar9 ho) (asD I.sz h)) (at4 _)
theorem Inv.cne (I : Q.q) : ∀ x c, X.env.cells.lookup x = some c -> c ≠ X.env.locals := fun x c e z => by
 obtain ⟨v, o, ho, hd⟩ := I.cell x c e
 obtain ⟨m, ⟨o', es, ep, ho', hd', _⟩, _⟩ := I.loc
 rw [z, ho'] at ho; cases ho; rw [hd'] at hd; cases hd
theorem Inv.Bh (I : Q.q) : s.heap.FunFrames X.base X.outer := by
 have all : ∀ (l : List Env), (∀ b ∈ Vb l, b ∈ X.fs) -> X.s₀.heap.FunFrames X.base l -> s.heap.FunFrames X.base l := by
   intro l
   induction l with
   | nil => intro _ _; trivial
   | cons env r ih =>
     intro hs hl
     obtain ⟨hk, ⟨L, o, hf, hn, ho, hd⟩, hr⟩ := hl
     have hL : L ∈ X.fs := hs L (by unfold Vb; rw [asW, hf]; exact arK)
     obtain ⟨sl, e⟩ := I.base.slot L o ho (I.ok.frf L hL) hL fun z => I.ok.aav L z hL
     exact ⟨hk, ⟨L, _, hf, hn, e, hd⟩, ih (fun b hb => hs b (by unfold Vb; rw [asW, hf]; exact arO _ hb)) hr⟩
 exact all X.outer (fun _ hb => hb) I.ok.Bh
theorem Inv.stack (I : Q.q) : s.heap.FunFrames X.base X.stack := by
 rcases I.ok.stk with e | ⟨e, hf⟩
 . rw [e]; exact I.Bh
 . rw [e]
   obtain ⟨m, hn, _⟩ := I.loc
   refine .cons (by rw [I.ok.kind]; decide) hf hn ?_ I.Bh
   exact Heap.get?_none_of_le (asD I.ok.bsz I.ok.above)
theorem Inv.Hf (I : Q.q) : ∀ b ∈ Vb X.stack, b ∈ X.env.locals :: X.fs := fun b hb => by
 rcases I.ok.stk with e | ⟨e, hf⟩
 . rw [e] at hb; exact arO _ hb
 . rw [e] at hb
   unfold Vb at hb
   rw [asW, hf] at hb
   exact hb
theorem Inv.Q8 (I : Q.q) : ∀ b ∈ Vb X.stack, H b = none := fun b hb => by
 rcases arP.mp (I.Hf b hb) with e | hb
 . rw [e]; exact I.free
 . obtain ⟨_, o, ho, _⟩ := I.ok.Bh.mem hb
   exact I.base.free b o ho (I.ok.frf b hb) fun z => I.ok.aav b z hb
variable {t' : Nat}
theorem Inv.step {g' : Array GenState} {d' : Drawn} {ch : Q.t} (I : Q.q)
   (KL : Q.cj)
   (keep : ∀ b o, b ≠ X.env.locals -> b ∉ X.fs -> b ∉ ch -> s.heap.get? b = some o -> H b = none -> h'.get? b = some o)
   (slot : ∀ b o, b ≠ X.env.locals -> b ∈ X.fs -> b ∉ ch -> s.heap.get? b = some o -> H b = none -> ∃ sl, h'.get? b = some { o with slots := sl }) (free : ∀ b o, b ∉ ch -> s.heap.get? b = some o -> H b = none -> H' b = none)
   (there : ∀ b o, b ∉ ch -> s.heap.get? b = some o -> ∃ o', h'.get? b = some o')
   (G7 : ∀ b xs, H b = some (.tup xs) -> H' b = some (.tup xs)) (ez : ∀ b o u, H b = some (.dJ o u) -> H' b = some (.dJ o u)) (G8 : ∀ b ps, H b = some (.tbl ps) -> ∃ more, H' b = some (.tbl (ps ++ more)))
   (ns : ∀ m, s.heap.Ns X.env.locals m -> h'.Ns X.env.locals m) (gX : Bv X.prog X.w H' h') (hg : AllBare g') :
   Inv X pins σ H' { s with heap := h', gens := g', drawn := d', toks := t' } := by
 have neL : ∀ b o, X.s₀.heap.get? b = some o -> b ≠ X.env.locals := fun b o e => asJ (asF (ar9 e) I.ok.above)
 have neC : ∀ b o, X.s₀.heap.get? b = some o -> b ∉ X.ex -> b ∉ ch := fun b o e hx hb => by
   rcases (KL b hb).1 with z | z
   . exact hx z
   . exact absurd (asF (ar9 e) z) (at4 _)
 have cellK : ∀ x c, X.env.cells.lookup x = some c -> ∀ v, s.heap.IsCell c v -> h'.IsCell c v := fun x c e v ⟨o, ho, hd⟩ => by
   have nch : c ∉ ch := fun z => (KL c z).2.2.1 x c e rfl
   by_cases hc : c ∈ X.fs
   . obtain ⟨sl, q⟩ := slot c o (I.cne x c e) hc nch ho (I.wA x c e)
     exact ⟨_, q, hd⟩
   . exact ⟨o, keep c o (I.cne x c e) hc nch ho (I.wA x c e), hd⟩
 refine ⟨I.ok, I.os, hg, ⟨fun b o e n hb hx => ?_, fun b o e n hb hx => ?_, fun b o e n hx => ?_, fun b o e hx => ?_, fun b xs e => G7 b xs (I.base.G7 b xs e), fun b o xs e => ez b o xs (I.base.ez b o xs e), fun b ps e => ?_⟩, ?_, fun x c e => ?_, ?_, fun x c e => ?_, fun p hp => ?_, gX, I.len⟩
 . exact keep b o (neL b o e) hb (neC b o e hx) (I.base.keep b o e n hb hx) (I.base.free b o e n hx)
 . obtain ⟨sl, e1⟩ := I.base.slot b o e n hb hx
   obtain ⟨sl', e2⟩ := slot b _ (neL b o e) hb (neC b o e hx) e1 (I.base.free b o e n hx)
   exact ⟨sl', e2⟩
 . obtain ⟨o', e1⟩ := I.base.there b o e hx
   exact free b o' (neC b o e hx) e1 (I.base.free b o e n hx)
 . obtain ⟨o', e1⟩ := I.base.there b o e hx
   exact there b o' (neC b o e hx) e1
 . obtain ⟨m1, e1⟩ := I.base.G8 b ps e
   obtain ⟨m2, e2⟩ := G8 b _ e1
   exact ⟨m1 ++ m2, by rw [e2, Array.append_assoc]⟩
 . obtain ⟨m, hn, hl⟩ := I.loc
   refine ⟨m, ns m hn, fun i x v e1 e2 e3 => ?_⟩
   obtain ⟨u, r, l⟩ := hl i x v e1 e2 e3
   refine ⟨u, r, ?_⟩
   rcases l with l | ⟨k, c, e, z⟩
   . exact .inl l
   . exact .inr ⟨k, c, e, cellK x c e _ z⟩
 . obtain ⟨v, z⟩ := I.cell x c e
   exact ⟨v, cellK x c e v z⟩
 . obtain ⟨m, ⟨o, _, _, ho, _⟩, _⟩ := I.loc
   exact free _ o (fun z => (KL _ z).2.1 rfl) ho I.free
 . obtain ⟨v, o, ho, hd⟩ := I.cell x c e
   exact free c o (fun z => (KL c z).2.2.1 x c e rfl) ho (I.wA x c e)
 . obtain ⟨e, n, ne, nf, d⟩ := I.pin p hp
   have nch : p.1 ∉ ch := fun z => (KL p.1 z).2.2.2 p hp rfl
   exact ⟨keep p.1 p.2 ne nf nch e n, free p.1 p.2 nch e n, ne, nf, d⟩
theorem Inv.un (I : Q.q) (u : Un X.fs [] H H' s.heap h') (gX : Bv X.prog X.w H' h') : Inv X pins σ H' { s with heap := h', toks := t' } := by
 obtain ⟨m, ⟨o, es, ep, ho, r⟩, _⟩ := id I.loc
 obtain ⟨sl, hL⟩ := u.any ho I.free Q.p
 exact I.step (g' := s.gens) (d' := s.drawn) (ch := []) (fun _ z => nomatch z) (fun b o _ hb _ e n => u.keep b o e n hb Q.p) (fun b o _ hb _ e n => u.slot b o e n hb Q.p) (fun b o _ e n => u.free b o e n Q.p) (fun b o _ e => u.there b o e Q.p) u.G7 u.ez u.G8 (fun m' hm => by
   obtain ⟨o', es', ep', ho', r'⟩ := hm
   rw [ho] at ho'; cases ho'
   exact ⟨_, es', ep', hL, r'⟩) gX I.bare
theorem Inv.call {g' : Array GenState} {d' : Drawn} {ch : Q.t} (I : Q.q) (u : Un (Vb X.stack) ch H H' s.heap h') (gX : Bv X.prog X.w H' h') (hg : AllBare g')
   (KL : Q.cj) :
   Inv X pins σ H' { s with heap := h', gens := g', drawn := d', toks := t' } := by
 obtain ⟨m, ⟨o, es, ep, ho, r⟩, _⟩ := id I.loc
 obtain ⟨sl, hL⟩ := u.any ho I.free fun z => (KL _ z).2.1 rfl
 exact I.step (ch := ch) KL (fun b o hL hb hc e n => u.keep b o e n (fun z => (arP.mp (I.Hf b z)).elim hL hb) hc) (fun b o _ _ hc e n => u.any e n hc) (fun b o hc e n => u.free b o e n hc) (fun b o hc e => u.there b o e hc) u.G7 u.ez u.G8 (fun m' hm => by
   obtain ⟨o', es', ep', ho', r'⟩ := hm
   rw [ho] at ho'; cases ho'
   exact ⟨_, es', ep', hL, r'⟩) gX hg
theorem Inv.turned {it : Addr} (I : Q.q) (k : ∀ b o, b ≠ it -> s.heap.get? b = some o -> h'.get? b = some o) (hn : H it = none) (hL : it ≠ X.env.locals)
   (h1 : it ∈ X.ex \/ X.s₀.heap.objs.size <= it) (h2 : ∀ x c, X.env.cells.lookup x = some c -> c ≠ it) (h3 : ∀ p ∈ X.pn ++ pins, p.1 ≠ it) : Inv X pins σ H { s with heap := h', toks := t' } := by
 have nit : ∀ b u, H b = some u -> b ≠ it := fun b u e z => by rw [z, hn] at e; cases e
 refine I.step (g' := s.gens) (d' := s.drawn) (ch := [it]) (fun b hb => ?_) (fun b o _ _ hc e _ => k b o Q.aJ e) (fun b o _ _ hc e _ => ⟨o.slots, k b o Q.aJ e⟩) (fun _ _ _ _ n => n)
   (fun b o hc e => ⟨o, k b o Q.aJ e⟩) (fun _ _ e => e) (fun _ _ _ e => e) (fun b ps e => ⟨#[], by rw [e]; simp⟩) (fun m hm => ?_) (fun b u e => ?_) I.bare
 . have e : b = it := by simpa using hb
   subst e
   exact ⟨h1, hL, h2, h3⟩
 . obtain ⟨o, es, ep, ho, r⟩ := hm
   exact ⟨o, es, ep, k _ o (att hL) ho, r⟩
 . refine (I.gX b u e).G6 (fun c v hc q => k c v ?_ q) (fun _ q => q) fun _ _ q => q
   rcases hc with z | z
   . rw [z]; exact nit b u e
   . exact nit c _ z
theorem Inv.tok (I : Q.q) (t : Nat) : Inv X pins σ H { s with toks := t } := I.un (h' := s.heap) (t' := t) Un.refl I.gX
theorem Inv.kept (I : Q.q) (k : ∀ b u, s.heap.get? b = some u -> h'.get? b = some u) : Inv X pins σ H { s with heap := h', toks := t' } := I.un (Un.kept k) (I.gX.kept k)
theorem Inv.laid (I : Q.q) (k : ∀ b u, s.heap.get? b = some u -> h'.get? b = some u) (hp : s.heap.objs.size <= a) (new : kG X.prog X.w (upd H a o) h' a o) :
   Inv X pins σ (upd H a o) { s with heap := h', toks := t' } := I.un (Un.laid k hp (I.gX.fresh hp)) (I.gX.laid k hp new)
theorem Inv.write (I : Q.q) (mu : Mut (H x)) (he : e = x \/ H e = some (.own x)) (k : ∀ b u, b ≠ e -> s.heap.get? b = some u -> h'.get? b = some u) (heo : ∃ u, h'.get? e = some u)
   (new : kG X.prog X.w (upd H x o) h' x o) : Inv X pins σ (upd H x o) { s with heap := h', toks := t' } := I.un (Un.write mu he k heo) (I.gX.write mu he k heo new)
theorem Inv.Bw {Q9 : Q.v} (I : Q.q) (h : ∀ p ∈ Q9, s.heap.get? p.1 = some p.2 /\ H p.1 = none /\ p.1 ≠ X.env.locals /\ p.1 ∉ X.fs /\ ∀ v, p.2.data ≠ .cell v) : Inv X Q9 σ H s :=
 ⟨I.ok, I.os, I.bare, I.base, I.loc, I.cell, I.free, I.wA, fun p hp => (arV.mp hp).elim (fun z => I.pin p (arW _ z)) (h p), I.gX, I.len⟩
variable {i : Nat}
theorem KN {N : Q.h} (hN : N.Nodup) {j : Nat} {x : Str} (a : N[i]? = some x) (b : N[j]? = some x) : i = j := by
 obtain ⟨h1, e1⟩ := asp.mp a
 obtain ⟨h2, e2⟩ := asp.mp b
 exact (List.getElem_inj hN).mp (e1.trans e2.symm)
variable {M : Model} {A : Around} {E : Q.I} {v : V} {u : Value} {Q : Unit -> Shared -> Prop}
theorem SW {x : Str} (I : Q.q) (hN : X.N.Nodup) (hi : X.N[i]? = some x) (hx : Loc X.env.scope x) (r : RelV v u)
   (h : ∀ s', Inv X pins (σ.set i (some v)) H s' -> (∃ a, Heap.SameBut a s.heap s'.heap /\ (a = X.env.locals \/ X.env.cells.lookup x = some a)) -> Q () s') (hf : Q.bg := by first | exact .inl rfl | exact .inr rfl | assumption) : wpAny M A (storeName X.env x u) Q E s := by
 obtain ⟨m, hn, hl⟩ := id I.loc
 have al2 : (X.env.scope.kind == .class || (X.env.scope.kind == .module && X.env.locals != X.env.globals)) = false := by rw [I.ok.kind]; rfl
 have hiσ : i < σ.length := by rw [I.len]; exact (asp.mp hi).1
 have cne := I.cne
 have tracked : ∀ {a : Addr} {h' : Heap}, (∃ o, s.heap.get? a = some o /\ H a = none) -> Heap.SameBut a s.heap h' -> Bv X.prog X.w H h' := fun {a h'} ha hs b ob e => by
   obtain ⟨_, _, aec⟩ := ha
   refine (I.gX b ob e).G6 (fun c w' hc q => (hs.2 c ?_).trans q) (fun _ q => q) fun _ _ q => q
   rintro rfl
   rcases hc with rfl | hc
   . rw [aec] at e; cases e
   . rw [aec] at hc; cases hc
 rcases hx with hk | hk
 . refine wpAny_storeName_local hk hn (fun h' hn' hs => ?_) al2
   obtain ⟨oL, _, _, hoL, _⟩ := id hn
   refine h _ ⟨I.ok, I.os, I.bare, ⟨fun b o e n hb hx => ?_, fun b o e n hb hx => ?_, I.base.free, fun b o e hx => ?_, I.base.G7, I.base.ez, I.base.G8⟩, ⟨_, hn', fun j y v' e1 e2 e3 => ?_⟩, fun y c e => ?_, I.free, I.wA, fun p hp => ?_, tracked ⟨oL, hoL, I.free⟩ hs, by simpa using I.len⟩ ⟨_, hs, .inl rfl⟩
   . exact (hs.2 b (asJ (asF (ar9 e) I.ok.above))).trans (I.base.keep b o e n hb hx)
   . obtain ⟨sl, e1⟩ := I.base.slot b o e n hb hx
     exact ⟨sl, (hs.2 b (asJ (asF (ar9 e) I.ok.above))).trans e1⟩
   . obtain ⟨o', e1⟩ := I.base.there b o e hx
     exact ⟨o', (hs.2 b (asJ (asF (ar9 e) I.ok.above))).trans e1⟩
   . by_cases hj : j = i
     . subst hj
       rw [hi] at e1; cases e1
       rw [as4 hiσ] at e2
       cases e2
       exact ⟨u, r, .inl ⟨hk, by simp⟩⟩
     . rw [atr (att hj)] at e2
       obtain ⟨u', r', q⟩ := hl j y v' e1 e2 e3
       refine ⟨u', r', ?_⟩
       rcases q with ⟨k, e⟩ | ⟨k, c, e, z⟩
       . refine .inl ⟨k, ?_⟩
         have : y ≠ x := fun e => hj (KN hN e1 (e ▸ hi))
         simp [this, e]
       . exact .inr ⟨k, c, e, z.sameBut hs (cne y c e)⟩
   . obtain ⟨w', z⟩ := I.cell y c e
     exact ⟨w', z.sameBut hs (cne y c e)⟩
   . obtain ⟨e, n, ne, nf, d⟩ := I.pin p hp
     exact ⟨(hs.2 p.1 ne).trans e, n, ne, nf, d⟩
 . have hfn : X.fn x = true := by
     rcases hf with z | z
     . exact z
     . rw [z] at hk; cases hk
   obtain ⟨c, hc⟩ := I.ok.has x (.inl hk)
   obtain ⟨w', z⟩ := I.cell x c hc
   refine wpAny_storeName_cell I.ok.kind hk hc z (fun h' hc' hs => ?_)
   obtain ⟨oc, hoc, al3⟩ := id z
   refine h { s with heap := h' } ⟨I.ok, I.os, I.bare, ⟨fun b o e n hb hx => ?_, fun b o e n hb hx => ?_, I.base.free, fun b o e hx => ?_, I.base.G7, I.base.ez, I.base.G8⟩, ⟨m, hn.sameBut hs (Ne.symm (cne x c hc)), fun j y v' e1 e2 e3 => ?_⟩, fun y c' e => ?_, I.free, I.wA, fun p hp => ?_, tracked ⟨oc, hoc, I.wA x c hc⟩ hs, by simpa using I.len⟩ ⟨c, hs, .inr hc⟩
   . exact (hs.2 b (asJ (asF (ar9 e) (I.ok.cab x c hfn hc)))).trans (I.base.keep b o e n hb hx)
   . obtain ⟨sl, e1⟩ := I.base.slot b o e n hb hx
     exact ⟨sl, (hs.2 b (asJ (asF (ar9 e) (I.ok.cab x c hfn hc)))).trans e1⟩
   . obtain ⟨o', e1⟩ := I.base.there b o e hx
     exact ⟨o', (hs.2 b (asJ (asF (ar9 e) (I.ok.cab x c hfn hc)))).trans e1⟩
   . by_cases hj : j = i
     . subst hj
       rw [hi] at e1; cases e1
       rw [as4 hiσ] at e2
       cases e2
       exact ⟨u, r, .inr ⟨.inl hk, c, hc, hc'⟩⟩
     . rw [atr (att hj)] at e2
       obtain ⟨u', r', q⟩ := hl j y v' e1 e2 e3
       refine ⟨u', r', ?_⟩
       rcases q with q | ⟨k, c', e, z'⟩
       . exact .inl q
       . refine .inr ⟨k, c', e, z'.sameBut hs ?_⟩
         rintro rfl
         exact hj (KN hN e1 (I.ok.inj _ _ _ e hc ▸ hi))
   . by_cases hcc : c' = c
     . subst hcc; exact ⟨_, hc'⟩
     . obtain ⟨w2, z2⟩ := I.cell y c' e
       exact ⟨w2, z2.sameBut hs hcc⟩
   . obtain ⟨e, n, ne, nf, d⟩ := I.pin p hp
     refine ⟨(hs.2 p.1 ?_).trans e, n, ne, nf, d⟩
     intro q
     rw [q, hoc] at e
     have q' : oc = p.2 := asH e
     exact d w' (by rw [← q']; exact al3)
theorem KP {x : Str} (I : Q.q) (hN : X.N.Nodup) (hi : X.N[i]? = some x) (hx : Loc X.env.scope x) (r : RelV v u)
   (h : ∀ s', Inv X pins (σ.set i (some v)) H s' -> Q () s') (hf : Q.bg := by first | exact .inl rfl | exact .inr rfl | assumption) : wpAny M A (storeName X.env x u) Q E s :=
 SW I hN hi hx r (fun s' I' _ => h s' I') hf
abbrev XK := Value -> Option Addr -> Hp -> Prop
abbrev St := List (Option V)
abbrev VK := V -> Hp -> Prop
abbrev TE := St -> Hp -> VK -> Prop
abbrev TT := St -> Hp -> (Bool -> Hp -> Prop) -> Prop
abbrev TA := St -> Hp -> (List V -> Hp -> Prop) -> Prop
structure Ends where
 nx : St -> Hp -> Prop
 rt : VK
 bk : St -> Hp -> Prop := fun _ _ => False
 ct : St -> Hp -> Prop := fun _ _ => False
abbrev TS := Ends -> St -> Hp -> Prop
def EP (X : Cx) (pins : Q.v) (σ : St) (Q : VK) (u : Value) (s' : Shared) : Prop := ∃ v H', Inv X pins σ H' s' /\ RelV v u /\ Q v H'
def TP (X : Cx) (pins : Q.v) (σ : St) (Q : Bool -> Hp -> Prop) (b : Bool) (s' : Shared) : Prop := ∃ H', Inv X pins σ H' s' /\ Q b H'
def AP (X : Cx) (pins : Q.v) (σ : St) (Q : List V -> Hp -> Prop) (us : Q.u) (s' : Shared) : Prop := ∃ vs H', Inv X pins σ H' s' /\ Vals vs us /\ Q vs H'
def SP (X : Cx) (pins : Q.v) (D : Ends) (f : Flow) (s' : Shared) : Prop :=
 match f with
 | .next => ∃ σ' H', Inv X pins σ' H' s' /\ D.nx σ' H'
 | .brk => ∃ σ' H', Inv X pins σ' H' s' /\ D.bk σ' H'
 | .cont => ∃ σ' H', Inv X pins σ' H' s' /\ D.ct σ' H'
 | .ret u => ∃ v σ' H', Inv X pins σ' H' s' /\ RelV v u /\ D.rt v H'
def PE (X : Cx) (e : Expr) (t : TE) : Prop :=
 ∀ (pins : Q.v) (s : Shared) (σ : St) (H : Hp) (Q : VK), Inv X pins σ H s -> t σ H Q -> wpAny Q.o X.A (eval e X.env) Q.ap X.xe s
def PT (X : Cx) (e : Expr) (t : TT) : Prop :=
 ∀ (pins : Q.v) (s : Shared) (σ : St) (H : Hp) (Q : Bool -> Hp -> Prop), Inv X pins σ H s -> t σ H Q -> wpAny Q.o X.A (isTrue e X.env (eval e X.env)) (TP X pins σ Q) X.xe s
def PW (X : Cx) (e : Expr) (t : TT) : Prop :=
 ∀ (whole : Sem Value) (pins : Q.v) (s : Shared) (σ : St) (H : Hp) (Q : Bool -> Hp -> Prop), Inv X pins σ H s -> t σ H Q -> wpAny Q.o X.A (isTrue e X.env whole) (TP X pins σ Q) X.xe s
def PA (X : Cx) (es : List Expr) (t : TA) : Prop :=
 ∀ (pos : Pos) (pins : Q.v) (s : Shared) (σ : St) (H : Hp) (Q : List V -> Hp -> Prop), Inv X pins σ H s -> t σ H Q -> wpAny Q.o X.A (spliced (backTo pos (starEach es X.env))) (AP X pins σ Q) X.xe s
def PS (X : Cx) (st : Stmt) (t : TS) : Prop :=
 ∀ (pins : Q.v) (s : Shared) (σ : St) (H : Hp) (D : Ends), Inv X pins σ H s -> t D σ H -> wpAny Q.o X.A (exec st X.env) (SP X pins D) X.xe s
def Ra (X : Cx) (st : List Stmt) (t : TS) : Prop :=
 ∀ (pins : Q.v) (s : Shared) (σ : St) (H : Hp) (D : Ends), Inv X pins σ H s -> t D σ H -> wpAny Q.o X.A (execs st X.env) (SP X pins D) X.xe s
theorem gk {α : Type} {t : Sem α} {Q Q' : α -> Shared -> Prop} (h : wpAny M A t Q E s) (hQ : ∀ a s, Q a s -> Q' a s) : wpAny M A t Q' E s := atD h hQ fun _ _ x => x
section
def al4 (i : Nat) : TE := fun σ H Q => ∃ v, σ[i]? = some (some v) /\ Q v H
def tC (v : V) : TE := fun _ H Q => Q v H
theorem mq {x : Str} {pos : Pos} (hN : X.N[i]? = some x) (hv : Vis X.env.scope x) (hd : Q.B := by decide) (qS : Q.aH := by decide) : PE X Q.S (al4 i) := by
 intro pins s σ H Q I h
 obtain ⟨v, e, h⟩ := h
 obtain ⟨m, hn, hl⟩ := I.loc
 obtain ⟨u, r, l⟩ := hl i x v hN e hv
 have fin : EP X pins σ Q u s := ⟨v, H, I, r, h⟩
 rcases l with ⟨hk, hm⟩ | ⟨hk, c, hc, FY⟩
 . exact wpAny_Name (wpAny_loadName_local I.ok.kind hk hn hm fin) hd
 . rcases hk with hk | hk
   . exact wpAny_Name (wpAny_loadName_cell I.ok.kind hk hc FY fin) hd
   . exact wpAny_Name (wpAny_loadName_free I.ok.kind hk hc FY fin qS) hd
theorem Vp {i j pos} : PE X (.Constant (.int i) j pos) (tC (.int i)) := fun _ _ _ H _ I h => wpAny_Constant_int ⟨.int i, H, I.tok _, ⟨_, rfl⟩, h⟩
theorem aee {b j pos} : PE X (.Constant (.bool b) j pos) (tC (.bl b)) := fun _ _ _ H _ I h => Constant_bool ⟨.bl b, H, I, rfl, h⟩
theorem ae0 {x j pos} : PE X (.Constant (.str x) j pos) (tC (.str x)) := fun _ _ _ H _ I h => Calls.Constant_str ⟨.str x, H, I.tok _, ⟨_, rfl⟩, h⟩
def Gl (X : Cx) (x : Str) : Prop := X.env.kindOf x = some .globalImplicit
theorem By {σ : St} {x : Str} {pos : Pos} {Q : Q.I} (I : Q.q) (hg : Gl X x) (hm : X.mg x = some u) (h : Q u s)
   (hd : Q.B := by decide) : wpAny Q.o X.A (eval Q.S X.env) Q E s :=
 Calls.Name_function_global I.ok.kind hg (Calls.loadGlobal_global (by rw [I.ok.glob]; exact I.mod.glob.keeps I.bk) hm h) hd
theorem nu {σ : St} {x : Str} {pos : Pos} {Q : Q.I} (I : Q.q) (hg : Gl X x) (hm : X.mg x = none) (hv : bootBuiltins x = some u) (h : Q u s)
   (hn : x ≠ "__name__" := by decide) (hd : Q.B := by decide) : wpAny Q.o X.A (eval Q.S X.env) Q E s := by
 obtain ⟨mb, h1, h2⟩ := I.mod.blt
 exact Calls.Name_function_global I.ok.kind hg (Calls.loadGlobal_builtin (by rw [I.ok.glob]; exact I.mod.glob.keeps I.bk) hm (by rw [I.ok.blt]; exact h1.keeps I.bk) ((h2 x hn).trans hv) h) hd
theorem Rb {x : Str} {pos : Pos} (hg : Gl X x) (hm : X.mg x = some u) (r : RelV v u) (hd : Q.B := by decide) : PE X Q.S (tC v) :=
 fun _ _ _ H _ I h => By I hg hm ⟨v, H, I, r, h⟩ hd
theorem aax {x : Str} {pos : Pos} (hg : Gl X x) (hm : X.mg x = none) (hv : bootBuiltins x = some u) (r : RelV v u) (hn : x ≠ "__name__" := by decide) (hd : Q.B := by decide) : PE X Q.S (tC v) :=
 fun _ _ _ H _ I h => nu I hg hm hv ⟨v, H, I, r, h⟩ hn hd
variable {a b : Expr} {ta tb : TE} {pos : Pos}
def PC (X : Cx) (op : CmpOp) (a b : Expr) (t : TE) : Prop :=
 ∀ (pins : Q.v) (s : Shared) (σ : St) (H : Hp) (Q : VK), Inv X pins σ H s -> t σ H Q →
   wpAny Q.o X.A (eval a X.env) (fun v s₁ => wpAny Q.o X.A (eval b X.env) (fun u s₂ => wpAny Q.o X.A (compareOp op v u) Q.ap X.xe s₂) X.xe s₁) X.xe s
theorem Vq (b : Expr) {op : CmpOp} (h : op ≠ .In) (h2 : op ≠ .NotIn) : behindInMarks op b = false := by
 have e1 : (op == CmpOp.In) = false := by cases op <;> first | rfl | exact absurd rfl h
 have e2 : (op == CmpOp.NotIn) = false := by cases op <;> first | rfl | exact absurd rfl h2
 cases b <;> simp [behindInMarks, e1, e2]
def al5 (ta : TE) : TE := fun σ H Q => ta σ H fun x H1 => Q (.bl (decide (x = .non))) H1
theorem RelV.Vr {x : V} {v : Value} (r : RelV x v) : (v == Value.none) = decide (x = .non) := by
 cases x with
 | non => cases r; rfl
 | bl _ => cases r; rfl
 | int _ => obtain ⟨t, rfl⟩ := r; rfl
 | str _ => obtain ⟨t, rfl⟩ := r; rfl
 | SR _ => obtain ⟨t, rfl⟩ := r; rfl
 | flt _ => obtain ⟨t, rfl⟩ := r; rfl
 | ref _ => cases r; rfl
 | ty _ => cases r; rfl
theorem ae1 {j pos'} (ha : PE X a ta) : PC X .Is a (.Constant .none j pos') (al5 ta) := by
 intro pins s σ H Q I h
 refine gk Q.aD fun v s1 zz => ?_
 obtain ⟨x, H1, I1, r1, q1⟩ := zz
 exact Constant_none (is_none_gen ⟨.bl _, H1, I1, by rw [r1.Vr]; rfl, q1⟩)
def tB (t : TE) : TT := fun σ H Q => t σ H fun x H1 => ∃ c, x = .bl c /\ Q c H1
theorem ae2 {op : CmpOp} {t : TE} (h : PC X op a b t) (h1 : behindInMarks op b = false := by first | exact Vq _ Q.i Q.i | rfl) : PT X (.Compare a [op] [b] pos) (tB t) := by
 intro pins s σ H Q I hw
 refine wpAny_isTrue_Compare1 (gk (h pins s σ H _ I hw) fun v s1 h1 => gk h1 fun u s2 h2 => gk h2 fun c s3 zz => ?_) h1
 obtain ⟨x, H1, I1, r1, q1⟩ := zz
 obtain ⟨d, rfl, q⟩ := q1
 cases r1
 exact atz ⟨H1, I1, q⟩
theorem ae3 {e : Expr} {t : TE} (h : PE X e t) (he : ∀ whole, isTrue e X.env whole = (do let v ← whole; standAt e.pos; holding [v] (truthy v)) := by intro _; rfl) : PT X e (tB t) := by
 intro pins s σ H Q I hw
 refine isTrue_plain (gk (h pins s σ H _ I hw) fun v s1 zz => ?_) (he _)
 obtain ⟨x, H1, I1, r1, q1⟩ := zz
 obtain ⟨d, rfl, q⟩ := q1
 cases r1
 exact atz ⟨H1, I1, q⟩
variable {tA tB' : TT} {rest : List Expr}
def al6 (t u : TT) : TT := fun σ H Q => t σ H fun c H1 => if c = true then u σ H1 Q else Q false H1
def tOr (t u : TT) : TT := fun σ H Q => t σ H fun c H1 => if c = true then Q true H1 else u σ H1 Q
def al7 (t : TT) : TT := fun σ H Q => t σ H fun c H1 => Q (!c) H1
theorem aay (ha : PT X a tA) : PW X (.BoolOp .And [a] pos) tA := by
 intro wh pins s σ H Q I h
 refine isTrue_and (gk (ha pins s σ H Q I h) fun c s1 e => ?_)
 cases c with
 | true => exact isTrue_and_nil e
 | false => exact e
theorem ae4 (ha : PT X a tA) : PW X (.BoolOp .Or [a] pos) tA := by
 intro wh pins s σ H Q I h
 refine isTrue_or (gk (ha pins s σ H Q I h) fun c s1 e => ?_)
 cases c with
 | false => exact isTrue_or_nil e
 | true => exact e
theorem ae5 (ha : PT X a tA) (hb : PW X (.BoolOp .And (b :: rest) pos) tB') : PW X (.BoolOp .And (a :: b :: rest) pos) (al6 tA tB') := by
 intro wh pins s σ H Q I h
 refine isTrue_and (gk Q.aD fun c s1 zz => ?_)
 obtain ⟨H1, I1, q1⟩ := zz
 cases c with
 | true => exact hb wh pins s1 σ H1 Q I1 q1
 | false => exact ⟨H1, I1, q1⟩
theorem ajb (ha : PT X a tA) (hb : PW X (.BoolOp .Or (b :: rest) pos) tB') : PW X (.BoolOp .Or (a :: b :: rest) pos) (tOr tA tB') := by
 intro wh pins s σ H Q I h
 refine isTrue_or (gk Q.aD fun c s1 zz => ?_)
 obtain ⟨H1, I1, q1⟩ := zz
 cases c with
 | true => exact ⟨H1, I1, q1⟩
 | false => exact hb wh pins s1 σ H1 Q I1 q1
theorem ae6 (ha : PT X a tA) : PT X (.UnaryOp .Not a pos) (al7 tA) := by
 intro pins s σ H Q I h
 exact isTrue_not (ha pins s σ H (fun c H1 => Q (!c) H1) I h)
def ajc (ta tb : TE) : TE := fun σ H Q => ta σ H fun x H1 => ∃ c, x = .bl c /\ if c = true then tb σ H1 Q else Q (.bl false) H1
def al8 (ta tb : TE) : TE := fun σ H Q => ta σ H fun x H1 => ∃ c, x = .bl c /\ if c = true then Q (.bl true) H1 else tb σ H1 Q
def ajd (ta : TE) : TE := fun σ H Q => ta σ H fun x H1 => ∃ c, x = .bl c /\ Q (.bl (!c)) H1
theorem ae7 {op} {t : TE} (h : PE X a t) : PE X (.BoolOp op [a] pos) t := fun pins s σ H Q I hw => BoolOp_one (h pins s σ H Q I hw)
theorem ae8 (ha : PE X a ta) (hb : PE X (.BoolOp .And (b :: rest) pos) tb) : PE X (.BoolOp .And (a :: b :: rest) pos) (ajc ta tb) := by
 intro pins s σ H Q I h
 refine BoolOp_and (gk Q.aD fun v s1 zz => ?_)
 obtain ⟨x, H1, I1, r1, q1⟩ := zz
 obtain ⟨c, rfl, q1⟩ := q1
 cases r1
 refine atz ?_
 cases c with
 | true => exact hb pins s1 σ H1 Q I1 q1
 | false => exact ⟨.bl false, H1, I1, rfl, q1⟩
theorem aje (ha : PE X a ta) (hb : PE X (.BoolOp .Or (b :: rest) pos) tb) : PE X (.BoolOp .Or (a :: b :: rest) pos) (al8 ta tb) := by
 intro pins s σ H Q I h
 refine BoolOp_or (gk Q.aD fun v s1 zz => ?_)
 obtain ⟨x, H1, I1, r1, q1⟩ := zz
 obtain ⟨c, rfl, q1⟩ := q1
 cases r1
 refine atz ?_
 cases c with
 | false => exact hb pins s1 σ H1 Q I1 q1
 | true => exact ⟨.bl true, H1, I1, rfl, q1⟩
theorem ae9 (ha : PE X a ta) : PE X (.UnaryOp .Not a pos) (ajd ta) := by
 intro pins s σ H Q I h
 refine UnaryOp_ (gk Q.aD fun v s1 zz => ?_)
 obtain ⟨x, H1, I1, r1, q1⟩ := zz
 obtain ⟨c, rfl, q1⟩ := q1
 cases r1
 exact not_of (atz ⟨.bl (!c), H1, I1, rfl, q1⟩)
def tIf (t : TT) (ta tb : TE) : TE := fun σ H Q => t σ H fun c H1 => if c = true then ta σ H1 Q else tb σ H1 Q
theorem Vs {c : Expr} (hc : PT X c tA) (ha : PE X a ta) (hb : PE X b tb) : PE X (.IfExp c a b pos) (tIf tA ta tb) := by
 intro pins s σ H Q I h
 refine wpAny_IfExp (gk (hc pins s σ H _ I h) fun d s1 zz => ?_)
 obtain ⟨H1, I1, q1⟩ := zz
 cases d with
 | true => exact ha pins s1 σ H1 Q I1 q1
 | false => exact hb pins s1 σ H1 Q I1 q1
end
def qT (K : Q.n) (H : Hp) (a : Addr) (xs : List V) : Prop :=
 Rd H a (.lst xs) ∨
   ∃ (o : Obj) (its : Array Value) (n : Nat), K.lookup a = some o /\ o.cls = .type "list" /\ o.dict = none /\ o.data = .seq its n /\ its.size <= sizeLine /\ Vals xs its.toList
def xW (K : Q.n) (H : Hp) (a : Addr) (xs : List V) : Prop :=
 Rd H a (.tup xs) ∨
   ∃ (o : Obj) (its : Array Value) (n : Nat), K.lookup a = some o /\ o.cls = .type "tuple" /\ o.data = .seq its n /\ its.size <= sizeLine /\ Vals xs its.toList
def al9 : Value -> Option V
 | .none => some .non
 | .bool b => some (.bl b)
 | .int i _ => some (.int i)
 | .str x _ => some (.str x)
 | .bytes b _ => some (.SR b)
 | .float b _ => some (.flt b)
 | .ref a => some (.ref a)
 | .type n => some (.ty n)
 | _ => none
theorem RelV.abs {x : V} (r : RelV x u) : al9 u = some x := by
 cases x with
 | non => cases r; rfl
 | bl _ => cases r; rfl
 | int _ => obtain ⟨t, rfl⟩ := r; rfl
 | str _ => obtain ⟨t, rfl⟩ := r; rfl
 | SR _ => obtain ⟨t, rfl⟩ := r; rfl
 | flt _ => obtain ⟨t, rfl⟩ := r; rfl
 | ref _ => cases r; rfl
 | ty _ => cases r; rfl
theorem RelV.inj {x y : V} (r : RelV x u) (q : RelV y u) : x = y := asH (r.abs.symm.trans q.abs)
theorem Vals.inj {xs ys : List V} (h : Vals xs us) (q : Vals ys us) : xs = ys := by
 induction h generalizing ys with
 | nil => cases q; rfl
 | cons r _ i => cases q with
   | cons r' t' => rw [r.inj r', i t']
variable {σ : St} {xs ys : List V} {K : Q.n}
theorem qT.of (h : H a = some (.lst xs)) : qT K H a xs := .inl (.inl h)
theorem xW.of (h : H a = some (.tup xs)) : xW K H a xs := .inl (.inl h)
theorem Inv.list (I : Q.q) (h : qT X.K H a xs) : ∃ its : List Value, Vals xs its /\ PlainL s.heap a its.toArray /\ xs.length <= sizeLine := by
 rcases h with h | ⟨o, its, n, hk, hc, hd, hs, hz, r⟩
 . obtain ⟨z, its, n, r, e⟩ := h.ok I.gX
   exact ⟨its, r, ⟨_, n, e, rfl, rfl, rfl⟩, z⟩
 . refine ⟨its.toList, r, ⟨o, n, I.KG a o hk, hc, hd, by simpa using hs⟩, ?_⟩
   have e := r.length
   simp only [Array.length_toList] at e
   omega
theorem Inv.tuple (I : Q.q) (h : xW X.K H a xs) : ∃ its : List Value, Vals xs its /\ IsTup s.heap a its.toArray /\ xs.length <= sizeLine := by
 rcases h with h | ⟨o, its, n, hk, hc, hs, hz, r⟩
 . obtain ⟨z, its, r, p⟩ := h.ok I.gX
   exact ⟨its, r, p, z⟩
 . refine ⟨its.toList, r, ⟨o, I.KG a o hk, hc, n, by simpa using hs⟩, ?_⟩
   have e := r.length
   simp only [Array.length_toList] at e
   omega
theorem Inv.CV (I : Q.q) (h : qT X.K H a xs) (h' : qT X.K H a ys) : xs = ys := by
 obtain ⟨its, r, ⟨o, n, e, _, _, d⟩, _⟩ := I.list h
 obtain ⟨its', r', ⟨o', n', e', _, _, d'⟩, _⟩ := I.list h'
 rw [e] at e'; cases e'
 rw [d] at d'
 injection d' with d1 _
 have : its = its' := by simpa using congrArg Array.toList d1
 subst this
 exact r.inj r'
theorem Inv.FZ (I : Q.q) (h : xW X.K H a xs) (h' : xW X.K H a ys) : xs = ys := by
 obtain ⟨its, r, ⟨o, e, _, n, d⟩, _⟩ := I.tuple h
 obtain ⟨its', r', ⟨o', e', _, n', d'⟩, _⟩ := I.tuple h'
 rw [e] at e'; cases e'
 rw [d] at d'
 injection d' with d1 _
 have : its = its' := by simpa using congrArg Array.toList d1
 subst this
 exact r.inj r'
abbrev Cx.wish (X : Cx) (E : Q.I) : Cx := { X with xe := E }
abbrev Cx.nox (X : Cx) : Cx := X.wish fun _ _ => False
theorem Cx.Ok.wish (ok : X.Ok) (E : Q.I) : (X.wish E).Ok :=
 ⟨ok.mod, ok.kind, ok.glob, ok.blt, ok.above, ok.inj, ok.has, ok.cab, ok.hd, ok.frames, ok.stk, ok.exf, ok.bs, ok.bsz, ok.Vo, ok.aav, ok.Bh, ok.frf⟩
theorem Cx.Ok.sW (ok : (X.wish E).Ok) : X.Ok :=
 ⟨ok.mod, ok.kind, ok.glob, ok.blt, ok.above, ok.inj, ok.has, ok.cab, ok.hd, ok.frames, ok.stk, ok.exf, ok.bs, ok.bsz, ok.Vo, ok.aav, ok.Bh, ok.frf⟩
theorem Inv.wish (I : Q.q) (E : Q.I) : Inv (X.wish E) pins σ H s := ⟨I.ok.wish E, I.os, I.bare, I.base, I.loc, I.cell, I.free, I.wA, I.pin, I.gX, I.len⟩
theorem Inv.sW (I : Inv (X.wish E) pins σ H s) : Inv X pins σ H s := ⟨I.ok.sW, I.os, I.bare, I.base, I.loc, I.cell, I.free, I.wA, I.pin, I.gX, I.len⟩
theorem SP.sW {D : Ends} {f : Flow} {s' : Shared} (h : SP (X.wish E) pins D f s') : SP X pins D f s' := by
 cases f with
 | next => obtain ⟨σ', H', I, q⟩ := h; exact ⟨σ', H', I.sW, q⟩
 | brk => obtain ⟨σ', H', I, q⟩ := h; exact ⟨σ', H', I.sW, q⟩
 | cont => obtain ⟨σ', H', I, q⟩ := h; exact ⟨σ', H', I.sW, q⟩
 | ret u => obtain ⟨v, σ', H', I, r, q⟩ := h; exact ⟨v, σ', H', I.sW, r, q⟩
theorem Ra.nox {st : List Stmt} {t : TS} (h : Ra X.nox st t) : Ra X st t := fun pins s σ H D I hw =>
 atD (h pins s σ H D (I.wish _) hw) (fun _ _ q => q.sW) fun _ _ z => False.elim z
section
variable {st : Stmt} {rest : List Stmt} {t u : TS} {e : Expr} {te : TE} {pos : Pos}
def ajf : TS := fun D σ H => D.nx σ H
def ama (t u : TS) : TS := fun D σ H => t { D with nx := u D } σ H
theorem aaA : Ra X [] ajf := fun _ _ σ H _ I h => wpAny_execs_nil ⟨σ, H, I, h⟩
theorem Vt (h1 : PS X st t) (h2 : Ra X rest u) : Ra X (st :: rest) (ama t u) := by
 intro pins s σ H D I h
 refine wpAny_execs_cons (gk (h1 pins s σ H { D with nx := u D } I h) fun f s1 q => ?_)
 cases f with
 | next =>
   obtain ⟨σ', H', I', q⟩ := q
   exact h2 pins s1 σ' H' D I' q
 | ret v => exact q
 | brk => exact q
 | cont => exact q
def afa : TS := fun D σ H => D.bk σ H
theorem Vu : PS X (.Break pos) afa := fun _ _ σ H _ I h => wpAny_Break ⟨σ, H, I, h⟩
theorem Inv.quiet (I : Q.q) : interactive X.env = false := by simp [interactive, I.ok.kind]
def ajg (te : TE) : TS := fun D σ H => te σ H fun _ H1 => D.nx σ H1
theorem BD (he : PE X e te) (hs : swapsWith e none pos.line X.env = pure false := by rfl) : PS X (.Expr e pos) (ajg te) := by
 intro pins s σ H D I h
 exact wpAny_Expr_any (gk (he pins s σ H _ I h) fun v s1 ⟨x, H1, I1, r1, q1⟩ => ⟨σ, H1, I1, q1⟩) I.quiet hs
def amb (te : TE) : TS := fun D σ H => te σ H D.rt
theorem afb (he : PE X e te) : PS X (.Return (some e) pos) (amb te) := by
 intro pins s σ H D I h
 exact wpAny_Return_some (gk (he pins s σ H _ I h) fun v s1 ⟨x, H1, I1, r1, q1⟩ => ⟨x, σ, H1, I1, r1, q1⟩)
def amc (c : TT) (t u : TS) : TS := fun D σ H => c σ H fun b H1 => if b = true then t D σ H1 else u D σ H1
theorem ajh {c : Expr} {a b : List Stmt} {tc : TT} (hc : PT X c tc) (ha : Ra X a t) (hb : Ra X b u) : PS X (.If c a b pos) (amc tc t u) := by
 intro pins s σ H D I h
 refine wpAny_If (gk (hc pins s σ H _ I h) fun d s1 zz => ?_)
 obtain ⟨H1, I1, q1⟩ := zz
 cases d with
 | true => exact ha pins s1 σ H1 D I1 q1
 | false => exact hb pins s1 σ H1 D I1 q1
end
abbrev TG := V -> St -> Hp -> (St -> Hp -> Prop) -> Prop
abbrev TGs := List V -> St -> Hp -> (St -> Hp -> Prop) -> Prop
def PG (X : Cx) (target : Expr) (t : TG) : Prop :=
 ∀ (pins : Q.v) (s : Shared) (σ : St) (H : Hp) (v : V) (u : Value) (Q : St -> Hp -> Prop), Inv X pins σ H s -> RelV v u -> t v σ H Q →
   wpAny Q.o X.A (assign target X.env u) (fun _ s' => ∃ σ' H', Inv X pins σ' H' s' /\ Q σ' H') X.xe s
def PGs (X : Cx) (ts : List Expr) (t : TGs) : Prop :=
 ∀ (pins : Q.v) (s : Shared) (σ : St) (H : Hp) (vs : List V) (us : Q.u) (Q : St -> Hp -> Prop), Inv X pins σ H s -> Vals vs us -> t vs σ H Q →
   wpAny Q.o X.A (assignInOrder ((assignEach ts X.env).map (·.2)) us) (fun _ s' => ∃ σ' H', Inv X pins σ' H' s' /\ Q σ' H') X.xe s
abbrev afd := V -> V -> V -> Hp -> (Hp -> Prop) -> Prop
def aji (X : Cx) (t : afd) : Prop :=
 ∀ (pins : Q.v) (s : Shared) (σ : St) (H : Hp) (o i v : V) (ov iv u : Value) (Q : Hp -> Prop), Inv X pins σ H s -> RelV o ov -> RelV i iv -> RelV v u -> t o i v H Q →
   wpAny Q.o X.A (setItem ov iv u) (fun _ s' => ∃ H', Inv X pins σ H' s' /\ Q H') X.xe s
variable {pos : Pos}
def AF (i : Nat) : TG := fun v σ H Q => Q (σ.set i (some v)) H
theorem xX {x : Str} (hN : X.N.Nodup) (hi : X.N[i]? = some x) (hx : Loc X.env.scope x) (hf : Q.bg := by first | exact .inl rfl | exact .inr rfl | assumption) : PG X Q.S (AF i) := by
 intro pins s σ H v u Q I r h
 exact wpAny_assign_Name (KP I hN hi hx r (fun s' I' => ⟨_, H, I', h⟩) hf)
def afe : TGs := fun vs σ H Q => vs = [] /\ Q σ H
def KQ (t : TG) (u : TGs) : TGs := fun vs σ H Q => ∃ v r, vs = v :: r /\ t v σ H fun σ' H' => u r σ' H' Q
theorem aaB : PGs X [] afe := by
 intro pins s σ H vs us Q I r h
 obtain ⟨e, h⟩ := h
 subst e
 cases r
 exact assignInOrder_nil ⟨σ, H, I, h⟩
variable {es : List Expr}
theorem KR {e : Expr} {t : TG} {u : TGs} (h1 : PG X e t) (h2 : PGs X es u)
   (hs : (assignEach Q.D X.env).map (·.2) = assign e X.env :: (assignEach es X.env).map (·.2) := by rfl) : PGs X Q.D (KQ t u) := by
 intro pins s σ H vs us Q I r h
 obtain ⟨v, vr, e1, h⟩ := h
 subst e1
 cases r with
 | cons r rr =>
   rw [hs]
   refine assignInOrder_cons (gk (h1 pins s σ H _ _ _ I r h) fun _ s1 zz => ?_)
   obtain ⟨σ1, H1, I1, q1⟩ := zz
   exact h2 pins s1 σ1 H1 _ _ Q I1 rr q1
def afg (K : Q.n) (n : Nat) (t : TGs) : TG := fun v σ H Q => ∃ a xs, v = .ref a /\ xW K H a xs /\ xs.length = n /\ t xs σ H Q
variable {k : Nat}
theorem afh {t : TGs} {n : Nat} (hc : X.calm = true) (h : PGs X es t)
   (hn : (assignEach es X.env).length = n := by rfl) (F0 : (assignEach es X.env).findIdx? (·.1) = none := by rfl) : PG X (.Tuple es k pos) (afg X.K n t) := by
 intro pins s σ H v u Q I r hw
 obtain ⟨a, xs, e1, hq, hl, hw⟩ := hw
 subst e1
 cases r
 obtain ⟨its, rv, ht, hz⟩ := I.tuple hq
 refine assign_Tuple_tuple (I.ok.hd hc) ht (by simp [hn, ← hl, rv.length]) F0 fun h' hx => ?_
 have I1 : Inv X pins σ H { s with heap := h' } := I.kept (t' := s.toks) fun b o e => hx b o (asJ (ar9 e)) e
 exact h pins _ σ H xs _ Q I1 (by simpa using rv) hw
def amd (to ti : TE) (t : afd) : TG := fun v σ H Q => to σ H fun o H1 => ti σ H1 fun i H2 => t o i v H2 fun H3 => Q σ H3
theorem afi {o i : Expr} {to ti : TE} {t : afd} (ho : PE X o to) (hi : PE X i ti) (hs : aji X t)
   (ha : ∀ v, assign (.Subscript o i pos) X.env v = (do
     let ov ← holding [v] (eval o X.env)
     let iv ← holding [v, ov] (eval i X.env)
     standAt pos
     holding [v, ov, iv] (setItem ov iv v)
     release [v, ov, iv] []) := by intro _; rfl) : PG X (.Subscript o i pos) (amd to ti t) := by
 intro pins s σ H v u Q I r h
 rw [ha]
 refine arX (wpAny_holding (gk (ho pins s σ H _ I h) fun ov s1 zz => ?_))
 obtain ⟨x, H1, I1, r1, q1⟩ := zz
 refine arX (wpAny_holding (gk (hi pins s1 σ H1 _ I1 q1) fun iv s2 zz => ?_))
 obtain ⟨y, H2, I2, r2, q2⟩ := zz
 refine arX (wpAny_standAt (arX (wpAny_holding (gk (hs pins s2 σ H2 x y v ov iv u _ I2 r1 r2 r q2) fun _ s3 zz => ?_))))
 obtain ⟨H3, I3, q3⟩ := zz
 exact wpAny_release ⟨σ, H3, I3, q3⟩
def ajj (te : TE) (g : TG) : TS := fun D σ H => te σ H fun x H1 => g x σ H1 D.nx
variable {tg : Expr} {te : TE}
theorem afj {e : Expr} {g : TG} (he : PE X e te) (hg : PG X tg g) (hs : swapsWithSole [tg] e pos.line X.env = pure false := by rfl) (hw : swappedStores [tg] e X.env = pure none := by rfl)
   (h1 : (assignEach [tg] X.env).map (·.2) = [assign tg X.env] := by rfl) : PS X (.Assign [tg] e pos) (ajj te g) := by
 intro pins s σ H D I h
 refine wpAny_Assign_stores (gk (he pins s σ H _ I h) fun v s1 zz => ?_) hs hw
 obtain ⟨x, H1, I1, r1, q1⟩ := zz
 rw [h1]
 exact gk (hg pins s1 σ H1 x v _ I1 r1 q1) fun _ s2 q => q
theorem Vv {x : Str} {e : Expr} {pos' : Pos} (hN : X.N.Nodup) (hi : X.N[i]? = some x) (hx : Loc X.env.scope x) (he : PE X e te) (hs : Q.bG := by rfl) (hf : Q.bg := by first | exact .inl rfl | exact .inr rfl | assumption) :
   PS X (.Assign [.Name x pos'] e pos) (ajj te (AF i)) := by
 intro pins s σ H D I h
 refine wpAny_Assign_Name (gk (he pins s σ H _ I h) fun v s1 zz => ?_) hs
 obtain ⟨y, H1, I1, r1, q1⟩ := zz
 exact KP I1 hN hi hx r1 (fun s2 I2 => ⟨_, H1, I2, q1⟩) hf
def afk (c : TT) (tb : TS) : TS := fun D σ H => ∃ W : Nat -> St -> Hp -> Prop, (∃ m, W m σ H) /\ ∀ m σ H, W m σ H →
 c σ H fun b H1 => if b = true then ∃ N : St -> Hp -> Prop, (∀ σ' H', N σ' H' -> ∃ m', m' < m /\ W m' σ' H') /\ tb { D with nx := N, ct := N, bk := D.nx } σ H1 else D.nx σ H1
variable {c : Expr}
theorem Vw {body : List Stmt} {tc : TT} {tb : TS} (hp : PassesOwn Q.o X.A X.env X.xe) (hc : PT X c tc) (hb : Ra X body tb) : PS X (.While c body [] pos) (afk tc tb) := by
 intro pins s σ H D I h
 obtain ⟨W, ⟨m0, w0⟩, turn⟩ := h
 refine wpAny_While (codeAny_whileLoop (fun n s' => ∃ σ' H', Inv X pins σ' H' s' /\ W n σ' H') ?_ m0 ⟨σ, H, I, w0⟩)
 rintro n s1 ⟨σ1, H1, I1, w1⟩
 refine aty hp (gk (hc pins s1 σ1 H1 _ I1 (turn n σ1 H1 w1)) fun b s2 zz => ?_)
 obtain ⟨H2, I2, q2⟩ := zz
 cases b with
 | true =>
   obtain ⟨N, hN, q2⟩ := q2
   rw [arU rfl]
   refine aty hp (gk (hb pins s2 σ1 H2 _ I2 q2) fun f s3 q3 => ?_)
   cases f with
   | next =>
     obtain ⟨σ3, H3, I3, n3⟩ := q3
     obtain ⟨m', hm, w3⟩ := hN σ3 H3 n3
     exact ⟨m', hm, σ3, H3, I3, w3⟩
   | cont =>
     obtain ⟨σ3, H3, I3, n3⟩ := q3
     obtain ⟨m', hm, w3⟩ := hN σ3 H3 n3
     exact ⟨m', hm, σ3, H3, I3, w3⟩
   | brk => exact q3
   | ret v => exact q3
 | false =>
   rw [arS ar6]
   exact wpAny_execs_nil ⟨σ1, H2, I2, q2⟩
structure It where
 go : Nat -> Hp -> Prop
 yld : Nat -> Hp -> V -> Hp -> Prop
 stop : Nat -> Hp -> Prop
def Bj (X : Cx) (pins : Q.v) (H : Hp) (b : Addr) : Prop :=
 H b = none /\ b ≠ X.env.locals /\ b ∉ X.fs /\ (b ∈ X.ex \/ X.s₀.heap.objs.size <= b) /\ (∀ x c, X.env.cells.lookup x = some c -> c ≠ b) /\ ∀ p ∈ X.pn ++ pins, p.1 ≠ b
theorem Inv.Hg (I : Q.q) (hb : s.heap.objs.size <= b) (hn : H' b = none) : Bj X pins H' b := by
 refine ⟨hn, Nat.ne_of_gt (asF I.lt hb), I.alZ hb, .inr (asD I.sz hb), fun x c e z => ?_, fun p hp z => ?_⟩
 . obtain ⟨v, q⟩ := I.cell x c e
   exact absurd (asF q.lt (by rw [z]; exact hb)) (at4 _)
 . exact absurd (asF (ar9 (I.pin p hp).1) (by rw [z]; exact hb)) (at4 _)
structure Turn (P : Program) (w : World) (K : Q.n) (tg : Expr) (J : It) (fp : Q.t) (it : Addr) (tn : Nat -> Heap -> Prop) : Prop where
 mem : it ∈ fp
 obj : ∀ i h, tn i h -> ∀ b ∈ fp, ∃ o, h.get? b = some o /\ ∀ v, o.data ≠ .cell v
 keep : ∀ i h h', tn i h -> (∀ b ∈ fp, ∀ o, h.get? b = some o -> h'.get? b = some o) -> tn i h'
 item : ∀ (X : Cx), X.prog = P -> X.w = w -> X.K = K -> X.calm = true -> ∀ (i : Nat) (pins : Q.v) (s : Shared) (σ : St) (H : Hp) (E : Q.I), Inv X pins σ H s -> (∀ b ∈ fp, Bj X pins H b) -> tn i s.heap -> J.go i H →
   wpAny (model P w) X.A (pyNext (.ref it)) (fun r s1 => ∃ u, r = some u ∧
     wpAny (model P w) X.A (letOwnedTupleGo tg (.ref it) u) (fun _ s2 => ∃ x H', Inv X pins σ H' s2 /\ RelV x u /\ J.yld i H x H' /\ tn (i + 1) s2.heap /\ ∀ b ∈ fp, H' b = none) E s1) E s
 done : ∀ (X : Cx), X.prog = P -> X.w = w -> X.K = K -> X.calm = true -> ∀ (i : Nat) (pins : Q.v) (s : Shared) (σ : St) (H : Hp) (E : Q.I), Inv X pins σ H s -> (∀ b ∈ fp, Bj X pins H b) -> tn i s.heap -> J.stop i H →
   wpAny (model P w) X.A (pyNext (.ref it)) (fun r s1 => r = none /\ Inv X pins σ H s1) E s
 self : ∀ (A : Around) (i : Nat) (s : Shared) (Q : Q.I) (E : Q.I), tn i s.heap -> Q (.ref it) s -> wpAny (model P w) A (pyIter (.ref it)) Q E s
abbrev TI := St -> Hp -> (It -> Hp -> Prop) -> Prop
def PIE (X : Cx) (pins : Q.v) (σ : St) (tg : Expr) (R : It -> Hp -> Prop) (itv : Value) (s2 : Shared) : Prop :=
 ∃ (it : Addr) (fp : Q.t) (tn : Nat -> Heap -> Prop) (J : It) (H' : Hp), itv = .ref it /\ Inv X pins σ H' s2 /\ Turn X.prog X.w X.K tg J fp it tn /\ tn 0 s2.heap /\ (∀ b ∈ fp, Bj X pins H' b) /\ R J H'
def PI (X : Cx) (tg iter : Expr) (wi : TI) : Prop :=
 ∀ (pins : Q.v) (s : Shared) (σ : St) (H : Hp) (R : It -> Hp -> Prop), Inv X pins σ H s -> wi σ H R →
   wpAny Q.o X.A (eval iter X.env) (fun v s1 => wpAny Q.o X.A (pyIter v) (PIE X pins σ tg R) X.xe s1) X.xe s
theorem KS {it : Addr} {o : Obj} {n : String} {vs : Array Value} (ho : s.heap.get? it = some o) (hc : o.cls = .type n) (hd : o.data = .fields vs)
   (hn : ["enumerate", "zip", "dict_itemiterator", "dict_reverseitemiterator", "odict_iterator", "itertools.zip_longest", "itertools.pairwise"].contains n = false) (hQ : Q () s) : wpAny M A (letOwnedTupleGo tg (.ref it) u) Q E s := by
 unfold letOwnedTupleGo
 cases tg <;> first
   | exact asE hQ
   | (cases u <;> first
       | exact asE hQ
       | (refine arX (wpAny_load ho ?_)
          rw [hc, hd]
          show wpAny M A (if (["enumerate", "zip", "dict_itemiterator", "dict_reverseitemiterator", "odict_iterator", "itertools.zip_longest", "itertools.pairwise"].contains n && vs[0]? == some (rawInt _)) = true then _ else _) Q E s
          rw [arS (by intro h; rw [hn, Bool.false_and] at h; cases h)]
          exact asE hQ))
def Itl (K : Q.n) (a : Addr) : It :=
 ⟨fun i H => ∃ xs x, qT K H a xs /\ xs[i]? = some x, fun i H x H' => H' = H /\ ∀ xs, qT K H a xs -> xs[i]? = some x, fun i H => ∃ xs, qT K H a xs /\ xs.length <= i⟩
def Itt (K : Q.n) (a : Addr) : It :=
 ⟨fun i H => ∃ xs x, xW K H a xs /\ xs[i]? = some x, fun i H x H' => H' = H /\ ∀ xs, xW K H a xs -> xs[i]? = some x, fun i H => ∃ xs, xW K H a xs /\ xs.length <= i⟩
def Itr (lo : Int) (n : Nat) : It := ⟨fun i _ => i < n, fun i H x H' => H' = H /\ x = .int (lo + i), fun i _ => n <= i⟩
theorem SX (a it : Addr) : Turn P w K tg (Itl K a) [it] it (fun i h => h.IsListIter it a i) where
 mem := by simp
 obj := fun i h st b hb => by
   have e : b = it := by simpa using hb
   subst e
   obtain ⟨o, e, c, d⟩ := st
   exact ⟨o, e, fun v z => by rw [d] at z; cases z⟩
 keep := fun i h h' st k => st.at fun o e => k it Q.p o e
 item := by
   intro X hP hw hK hc i pins s σ H E I hf st hg
   subst hP hw hK
   obtain ⟨xs, x, hq, hx⟩ := hg
   obtain ⟨its, rv, p, hz⟩ := I.list hq
   obtain ⟨u, hu, ru⟩ := rv.get hx
   obtain ⟨f0, f1, f2, f3, f4, f5⟩ := hf it Q.p
   refine wpAny_pyNext_list_item st p.isList (x := u) (by simpa using hu) fun h' Rc sb => ?_
   have I1 : Inv X pins σ H { s with heap := h' } := I.turned (t' := s.toks) (fun b o hb e => (sb.2 b hb).trans e) f0 f1 f3 f4 f5
   obtain ⟨o, e, c, d⟩ := id Rc
   exact ⟨u, rfl, KS (s := { s with heap := h' }) e c d Q.i ⟨x, H, I1, ru, ⟨rfl, fun ys hy => by rw [I.CV hy hq]; exact hx⟩, Rc, fun b hb => (hf b hb).1⟩⟩
 done := by
   intro X hP hw hK hc i pins s σ H E I hf st hg
   subst hP hw hK
   obtain ⟨xs, hq, hx⟩ := hg
   obtain ⟨its, rv, p, hz⟩ := I.list hq
   obtain ⟨f0, f1, f2, f3, f4, f5⟩ := hf it Q.p
   have hl := rv.length
   exact wpAny_pyNext_list_end (I.ok.hd hc) st p.isList Q.z fun h' eb => ⟨rfl, I.turned (t' := s.toks) Q.bz f0 f1 f3 f4 f5⟩
 self := fun _ _ _ _ _ st h => wpAny_pyIter_listiter st h
theorem N2 (a it : Addr) : Turn P w K tg (Itt K a) [it] it (fun i h => h.IsTupleIter it a i) where
 mem := by simp
 obj := fun i h st b hb => by
   have e : b = it := by simpa using hb
   subst e
   obtain ⟨o, e, c, d⟩ := st
   exact ⟨o, e, fun v z => by rw [d] at z; cases z⟩
 keep := fun i h h' st k => st.at fun o e => k it Q.p o e
 item := by
   intro X hP hw hK hc i pins s σ H E I hf st hg
   subst hP hw hK
   obtain ⟨xs, x, hq, hx⟩ := hg
   obtain ⟨its, rv, p, hz⟩ := I.tuple hq
   obtain ⟨u, hu, ru⟩ := rv.get hx
   obtain ⟨f0, f1, f2, f3, f4, f5⟩ := hf it Q.p
   refine wpAny_pyNext_tuple_item st (show s.heap.IsTuple a its.toArray from p) (x := u) (by simpa using hu) fun h' Rc sb => ?_
   have I1 : Inv X pins σ H { s with heap := h' } := I.turned (t' := s.toks) (fun b o hb e => (sb.2 b hb).trans e) f0 f1 f3 f4 f5
   obtain ⟨o, e, c, d⟩ := id Rc
   exact ⟨u, rfl, KS (s := { s with heap := h' }) e c d Q.i ⟨x, H, I1, ru, ⟨rfl, fun ys hy => by rw [I.FZ hy hq]; exact hx⟩, Rc, fun b hb => (hf b hb).1⟩⟩
 done := by
   intro X hP hw hK hc i pins s σ H E I hf st hg
   subst hP hw hK
   obtain ⟨xs, hq, hx⟩ := hg
   obtain ⟨its, rv, p, hz⟩ := I.tuple hq
   obtain ⟨f0, f1, f2, f3, f4, f5⟩ := hf it Q.p
   have hl := rv.length
   exact wpAny_pyNext_tuple_end (I.ok.hd hc) st (show s.heap.IsTuple a its.toArray from p) Q.z fun h' eb => ⟨rfl, I.turned (t' := s.toks) Q.bz f0 f1 f3 f4 f5⟩
 self := fun _ _ _ _ _ st h => wpAny_pyIter_tupleiter st h
theorem N3 (it : Addr) (lo : Int) (n : Nat) : Turn P w K tg (Itr lo n) [it] it (fun i h => IsRangeIter h it (lo + (i : Nat) * 1) ((n : Int) - (i : Nat)) 1) where
 mem := by simp
 obj := fun i h st b hb => by
   have e : b = it := by simpa using hb
   subst e
   exact ⟨_, st, fun v z => by
     have z' : Data.fields _ = Data.cell v := z
     cases z'⟩
 keep := fun i h h' st k => k it Q.p _ st
 item := by
   intro X hP hw hK hc i pins s σ H E I hf st hg
   subst hP hw hK
   obtain ⟨f0, f1, f2, f3, f4, f5⟩ := hf it Q.p
   have W := Walks.range (prog := X.prog) (w := X.w) (I.ok.hd hc) it lo 1 n
   refine W.item i s _ _ hg st fun v h' tk hv Rc kk => ?_
   obtain ⟨t, rfl⟩ := hv
   have I1 : Inv X pins σ H { s with heap := h', toks := tk } := I.turned (fun b o hb e => kk b o (by simpa using hb) e) f0 f1 f3 f4 f5
   refine ⟨_, rfl, KS (s := { s with heap := h', toks := tk }) (n := "range_iterator") Rc rfl rfl Q.i ⟨.int (lo + i), H, I1, ⟨t, ?_⟩, ⟨rfl, rfl⟩, Rc, fun b hb => (hf b hb).1⟩⟩
   rw [Int.mul_one]
 done := by
   intro X hP hw hK hc i pins s σ H E I hf st hg
   subst hP hw hK
   obtain ⟨f0, f1, f2, f3, f4, f5⟩ := hf it Q.p
   exact wpAny_pyNext_range_end (I.ok.hd hc) st (by have : n <= i := hg; omega) fun h' eb => ⟨rfl, I.turned (t' := s.toks) Q.bz f0 f1 f3 f4 f5⟩
 self := fun _ _ _ _ _ st h => wpAny_pyIter_rangeiter st h
def ajk (K : Q.n) (tl : TE) : TI := fun σ H R => tl σ H fun x H1 => ∃ a, x = .ref a /\ (∃ xs, qT K H1 a xs) /\ R (Itl K a) H1
def ame (K : Q.n) (tl : TE) : TI := fun σ H R => tl σ H fun x H1 => ∃ a, x = .ref a /\ (∃ xs, xW K H1 a xs) /\ R (Itt K a) H1
theorem aaC {l : Expr} {tl : TE} (hl : PE X l tl) : PI X tg l (ajk X.K tl) := by
 intro pins s σ H R I h
 refine gk (hl pins s σ H _ I h) fun v s1 zz => ?_
 obtain ⟨x, H1, I1, r1, q1⟩ := zz
 obtain ⟨a, e, ⟨xs, hq⟩, q⟩ := q1
 subst e
 cases r1
 obtain ⟨its, rv, p, hz⟩ := I1.list hq
 refine wpAny_pyIter_list p.isList ?_
 refine ⟨s1.heap.objs.size, [s1.heap.objs.size], _, _, H1, rfl, I1.kept (t' := s1.toks) fun b o e => ar4 _ e, SX a _, ⟨_, asC _ rfl, rfl, rfl⟩, fun b hb => ?_, q⟩
 have e : b = s1.heap.objs.size := by simpa using hb
 subst e
 exact I1.Hg (ar5 _) (I1.gX.fresh (ar5 _))
theorem afl {l : Expr} {tl : TE} (hl : PE X l tl) : PI X tg l (ame X.K tl) := by
 intro pins s σ H R I h
 refine gk (hl pins s σ H _ I h) fun v s1 zz => ?_
 obtain ⟨x, H1, I1, r1, q1⟩ := zz
 obtain ⟨a, e, ⟨xs, hq⟩, q⟩ := q1
 subst e
 cases r1
 obtain ⟨its, rv, p, hz⟩ := I1.tuple hq
 refine wpAny_pyIter_tuple (show s1.heap.IsTuple a its.toArray from p) ?_
 refine ⟨s1.heap.objs.size, [s1.heap.objs.size], _, _, H1, rfl, I1.kept (t' := s1.toks) fun b o e => ar4 _ e, N2 a _, ⟨_, asC _ rfl, rfl, rfl⟩, fun b hb => ?_, q⟩
 have e : b = s1.heap.objs.size := by simpa using hb
 subst e
 exact I1.Hg (ar5 _) (I1.gX.fresh (ar5 _))
theorem KW {R : It -> Hp -> Prop} {lo hi : Int} {t u v : Tok} {tk : Nat} (I : Q.q) (h1 : -(2 ^ 62) <= lo) (h2 : lo < 2 ^ 62) (h3 : -(2 ^ 62) <= hi) (h4 : hi < 2 ^ 62)
   (q : R (Itr lo (hi - lo).toNat) H) : wpAny Q.o X.A (pyIter Q.bf) (PIE X pins σ tg R) E { s with heap := s.heap.push { cls := .type "range", data := .fields #[.int lo t, .int hi u, .int 1 v] }, toks := tk } := by
 refine wpAny_pyIter_range (IsRange.new ..) (small_one h1 h2 h3 h4) ?_
 have I1 : Inv X pins σ H { s with heap := s.heap.push { cls := .type "range", data := .fields #[.int lo t, .int hi u, .int 1 v] }, toks := tk } := I.kept fun b o e => ar4 _ e
 refine ⟨(s.heap.push { cls := .type "range", data := .fields #[.int lo t, .int hi u, .int 1 v] }).objs.size, [(s.heap.push { cls := .type "range", data := .fields #[.int lo t, .int hi u, .int 1 v] }).objs.size], _, _, H, rfl,
   I1.kept (t' := tk) fun b o e => ar4 _ e, N3 _ lo (hi - lo).toNat, ?_, fun b hb => ?_, q⟩
 . have e1 : lo + ((0 : Nat) : Int) * 1 = lo := by simp
   have e2 : (((hi - lo).toNat : Nat) : Int) - ((0 : Nat) : Int) = Builtin.Range.rangeSize lo hi 1 := by rw [rangeSize_one]; split <;> omega
   show IsRangeIter _ _ (lo + ((0 : Nat) : Int) * 1) ((((hi - lo).toNat : Nat) : Int) - ((0 : Nat) : Int)) 1
   rw [e1, e2]
   exact asC _ rfl
 . have e : b = (s.heap.push { cls := .type "range", data := .fields #[.int lo t, .int hi u, .int 1 v] }).objs.size := by simpa using hb
   subst e
   exact I1.Hg (ar5 _) (I1.gX.fresh (ar5 _))
def ajl (ta : TA) : TI := fun σ H R => ta σ H fun vs H1 => ∃ j : Int, vs = [.int j] /\ -(2 ^ 62) <= j /\ j < 2 ^ 62 /\ R (Itr 0 j.toNat) H1
def ajm (ta : TA) : TI := fun σ H R => ta σ H fun vs H1 => ∃ i j : Int, vs = [.int i, .int j] /\ (-(2 ^ 62) <= i /\ i < 2 ^ 62 /\ -(2 ^ 62) <= j /\ j < 2 ^ 62) /\ R (Itr i (j - i).toNat) H1
variable {p : Pos}
theorem SY {a : Expr} {ta : TA} (hg : Gl X "range") (hm : X.mg "range" = none) (ha : PA X [a] ta) (hs : starEach [a] X.env = [(false, eval a X.env)] := by rfl) : PI X tg (.Call (.Name "range" p) [a] [] pos) (ajl ta) := by
 intro pins s σ H R I h
 refine Call_ (nu I hg hm boot_range (asP (gk Q.aK fun us s1 zz => ?_) hs rfl))
 obtain ⟨vs, H1, I1, r1, q1⟩ := zz
 obtain ⟨j, e, q1, q2, q⟩ := q1
 subst e
 cases r1 with
 | cons r rr =>
   cases rr
   obtain ⟨t, rfl⟩ := r
   exact call_range_1 (KW I1 Q.a Q.a q1 q2 (by simpa using q))
theorem S6 {a b : Expr} {ta : TA} (hg : Gl X "range") (hm : X.mg "range" = none) (ha : PA X [a, b] ta) (hs : starEach [a, b] X.env = [(false, eval a X.env), (false, eval b X.env)] := by rfl) (KH : starEach [b] X.env = [(false, eval b X.env)] := by rfl) :
   PI X tg (.Call (.Name "range" p) [a, b] [] pos) (ajm ta) := by
 intro pins s σ H R I h
 refine Call_ (nu I hg hm boot_range (asP (gk Q.aK fun us s1 zz => ?_) (by rw [hs, KH]) (by rw [KH]; rfl)))
 obtain ⟨vs, H1, I1, r1, q1⟩ := zz
 obtain ⟨i, j, e, ⟨q1, q2, q3, q4⟩, q⟩ := q1
 subst e
 cases r1 with
 | cons r rr =>
   cases rr with
   | cons r' rr =>
     cases rr
     obtain ⟨t, rfl⟩ := r
     obtain ⟨t', rfl⟩ := r'
     exact call_range_2 (KW I1 q1 q2 q3 q4 q)
def amf (wi : TI) (g : TG) (tb : TS) : TS := fun D σ H => wi σ H fun J H1 => ∃ W : Nat -> Nat -> St -> Hp -> Prop, (∃ m, W 0 m σ H1) /\ ∀ i m σ H, W i m σ H →
 (J.stop i H /\ D.nx σ H) \/ (J.go i H /\ ∃ N : St -> Hp -> Prop, (∀ σ' H', N σ' H' -> ∃ m', m' < m /\ W (i + 1) m' σ' H') /\ ∀ x H', J.yld i H x H' -> g x σ H' fun σ2 H2 => tb { D with nx := N, ct := N, bk := D.nx } σ2 H2)
def CW (fp : Q.t) (h : Heap) : List (Addr × Obj) := fp.filterMap fun b => (h.get? b).map fun o => (b, o)
theorem qU {fp : Q.t} {o : Obj} (hb : b ∈ fp) (e : h.get? b = some o) : (b, o) ∈ CW fp h := List.mem_filterMap.mpr ⟨b, hb, by rw [e]; rfl⟩
theorem S7 {fp : Q.t} {p : Addr × Obj} (hp : p ∈ CW fp h) : p.1 ∈ fp /\ h.get? p.1 = some p.2 := by
 obtain ⟨b, hb, e⟩ := List.mem_filterMap.mp hp
 cases q : h.get? b with
 | none => rw [q] at e; cases e
 | some o =>
   rw [q] at e
   have e' : (b, o) = p := asH e
   subst e'
   exact ⟨hb, q⟩
theorem Inv.pinned {fp : Q.t} (I : Q.q) (hf : ∀ b ∈ fp, Bj X pins H b) (ho : ∀ b ∈ fp, ∃ o, s.heap.get? b = some o /\ ∀ v, o.data ≠ .cell v) : Inv X (pins ++ CW fp s.heap) σ H s :=
 I.Bw fun p hp => (arV.mp hp).elim (fun z => I.pin p (arQ _ z)) fun z => by
   obtain ⟨hb, e⟩ := S7 z
   obtain ⟨f0, f1, f2, _⟩ := hf p.1 hb
   obtain ⟨o, e', d⟩ := ho p.1 hb
   rw [e] at e'; cases e'
   exact ⟨e, f0, f1, f2, d⟩
theorem Inv.xY {pl : Q.v} (I : Inv X (pins ++ pl) σ H s) : Inv X pins σ H s := I.Bw fun p hp => I.pin p (arQ _ (arW _ hp))
theorem afm {iter : Expr} {body : List Stmt} {wi : TI} {g : TG} {tb : TS} (hp : PassesOwn Q.o X.A X.env X.xe) (hc : X.calm = true) (hi : PI X tg iter wi) (hg : PG X tg g) (hb : Ra X body tb)
   (hs : Q.bi := by intro _; rfl) : PS X (.For tg iter body [] pos) (amf wi g tb) := by
 intro pins s σ H D I h
 refine wpAny_For (gk (hi pins s σ H _ I h) fun v s1 h1 => gk h1 fun itv s2 h2 => ?_) hs
 obtain ⟨it, fp, tn, J, H2, e, I2, T, st2, f2, W, ⟨m0, w0⟩, turn⟩ := h2
 subst e
 have stat : ∀ {H' : Hp}, (∀ b ∈ fp, H' b = none) -> ∀ b ∈ fp, Bj X pins H' b := fun hn b hb => ⟨hn b hb, (f2 b hb).2⟩
 refine codeAny_forLoop_any (fun n s' => ∃ i σ' H', Inv X pins σ' H' s' /\ tn i s'.heap /\ (∀ b ∈ fp, H' b = none) /\ W i n σ' H') ?_ m0 ⟨0, σ, H2, I2, st2, fun b hb => (f2 b hb).1, w0⟩
 rintro n s3 ⟨i, σ3, H3, I3, st3, fr3, w3⟩
 rcases turn i n σ3 H3 w3 with ⟨stop, qn⟩ | ⟨go, N, hN, step⟩
 . refine aty hp (gk (T.done X rfl rfl rfl hc i pins s3 σ3 H3 X.xe I3 (stat fr3) st3 stop) fun r s4 zz => ?_)
   obtain ⟨hr, I4⟩ := zz
   subst hr
   exact wpAny_execs_nil ⟨σ3, H3, I4, qn⟩
 . refine aty hp (gk (T.item X rfl rfl rfl hc i pins s3 σ3 H3 X.xe I3 (stat fr3) st3 go) fun r s4 zz => ?_)
   obtain ⟨u, hr, h4⟩ := zz
   subst hr
   refine aty hp (gk h4 fun _ s5 zz => ?_)
   obtain ⟨x, H5, I5, r5, y5, st5, fr5⟩ := zz
   have I5' := I5.pinned (stat fr5) (T.obj _ _ st5)
   refine aty hp (gk (hg _ s5 σ3 H5 x u _ I5' r5 (step x H5 y5)) fun _ s6 zz => ?_)
   obtain ⟨σ6, H6, I6, q6⟩ := zz
   refine aty hp (gk (hb _ s6 σ6 H6 _ I6 q6) fun f s7 q7 => ?_)
   have again : ∀ {σ7 : St} {H7 : Hp}, Inv X (pins ++ CW fp s5.heap) σ7 H7 s7 -> N σ7 H7 -> ∃ m, m < n /\ ∃ i σ' H', Inv X pins σ' H' s7 /\ tn i s7.heap /\ (∀ b ∈ fp, H' b = none) /\ W i m σ' H' := fun {σ7 H7} I7 n7 => by
     obtain ⟨m', hm, w7⟩ := hN σ7 H7 n7
     refine ⟨m', hm, i + 1, σ7, H7, I7.xY, T.keep _ _ _ st5 fun b hb o e => (I7.pin (b, o) (arQ _ (arQ _ (qU hb e)))).1, fun b hb => ?_, w7⟩
     obtain ⟨o, e, d⟩ := T.obj _ _ st5 b hb
     exact (I7.pin (b, o) (arQ _ (arQ _ (qU hb e)))).2.1
   cases f with
   | next => obtain ⟨σ7, H7, I7, n7⟩ := q7; exact again I7 n7
   | cont => obtain ⟨σ7, H7, I7, n7⟩ := q7; exact again I7 n7
   | brk => obtain ⟨σ7, H7, I7, q7⟩ := q7; exact ⟨σ7, H7, I7.xY, q7⟩
   | ret v => obtain ⟨x7, σ7, H7, I7, r7, q7⟩ := q7; exact ⟨x7, σ7, H7, I7.xY, r7, q7⟩
abbrev R2 := V -> V -> Hp -> VK -> Prop
def Bk (X : Cx) (f : Value -> Value -> Sem Value) (r : R2) : Prop :=
 ∀ (pins : Q.v) (s : Shared) (σ : St) (H : Hp) (x y : V) (v u : Value) (Q : VK), Inv X pins σ H s -> RelV x v -> RelV y u -> r x y H Q →
   wpAny Q.o X.A (f v u) Q.ap X.xe s
def UnR (X : Cx) (f : Value -> Sem Value) (r : V -> Hp -> VK -> Prop) : Prop :=
 ∀ (pins : Q.v) (s : Shared) (σ : St) (H : Hp) (x : V) (v : Value) (Q : VK), Inv X pins σ H s -> RelV x v -> r x H Q →
   wpAny Q.o X.A (f v) Q.ap X.xe s
def sX (X : Cx) (f : Value) (r : List V -> Hp -> VK -> Prop) : Prop :=
 ∀ (pins : Q.v) (s : Shared) (σ : St) (H : Hp) (xs : List V) (us : Q.u) (Q : VK), Inv X pins σ H s -> Vals xs us -> r xs H Q →
   wpAny Q.o X.A (call f us) Q.ap X.xe s
def tOp (r : R2) (ta tb : TE) : TE := fun σ H Q => ta σ H fun x H1 => tb σ H1 fun y H2 => r x y H2 Q
def tUn (r : V -> Hp -> VK -> Prop) (ta : TE) : TE := fun σ H Q => ta σ H fun x H1 => r x H1 Q
def rI (C : Int -> Int -> Prop) (g : Int -> Int -> V) : R2 := fun x y H Q => ∃ i j, x = .int i /\ y = .int j /\ C i j /\ Q (g i j) H
def rI0 (g : Int -> Int -> V) : R2 := fun x y H Q => ∃ i j, x = .int i /\ y = .int j /\ Q (g i j) H
def rU (g : Int -> V) : V -> Hp -> VK -> Prop := fun x H Q => ∃ i, x = .int i /\ Q (g i) H
variable {a b : Expr} {ta tb : TE} {f : Value -> Value -> Sem Value}
theorem afn (ha : PE X a ta) (hb : PE X b tb) {R : V -> V -> Hp -> Prop} (I : Q.q)
   (h : ta σ H fun x H1 => tb σ H1 fun y H2 => R x y H2) {Q : Q.I}
   (hf : ∀ v u s2 x y H2, Inv X pins σ H2 s2 -> RelV x v -> RelV y u -> R x y H2 -> wpAny Q.o X.A (f v u) Q X.xe s2) :
   wpAny Q.o X.A (eval a X.env) (fun v s₁ => wpAny Q.o X.A (eval b X.env) (fun u s₂ => wpAny Q.o X.A (f v u) Q X.xe s₂) X.xe s₁) X.xe s := by
 refine gk Q.aD fun v s1 zz => ?_
 obtain ⟨x, H1, I1, r1, q1⟩ := zz
 refine gk (hb pins s1 σ H1 _ I1 q1) fun u s2 zz => ?_
 obtain ⟨y, H2, I2, r2, q2⟩ := zz
 exact hf v u s2 x y H2 I2 r1 r2 q2
theorem Vx {op : Operator} {r : R2} (ho : Bk X (binaryOp op) r) (ha : PE X a ta) (hb : PE X b tb) : PE X (.BinOp a op b pos) (tOp r ta tb) := by
 intro pins s σ H Q I h
 exact wpAny_BinOp (afn ha hb I h fun v u s2 x y H2 I2 rx ry q => ho pins s2 σ H2 x y v u Q I2 rx ry q)
theorem ajp {op : UnaryOp} {r : V -> Hp -> VK -> Prop} (ho : UnR X (unaryOp op) r) (ha : PE X a ta) : PE X (.UnaryOp op a pos) (tUn r ta) := by
 intro pins s σ H Q I h
 exact UnaryOp_ (gk Q.aD fun v s1 ⟨x, H1, I1, r1, q1⟩ => ho pins s1 σ H1 x v Q I1 r1 q1)
theorem opI {C : Int -> Int -> Prop} {g : Int -> Int -> Int}
   (rule : ∀ (i j : Int) (t u : Tok) (s : Shared) (Q : Q.I) (E : Q.I), C i j -> Q (.int (g i j) s.toks) { s with toks := s.toks + 1 } -> wpAny Q.o X.A (f (.int i t) (.int j u)) Q E s) :
   Bk X f (rI C fun i j => .int (g i j)) := by
 intro pins s σ H x y v u Q I rx ry h
 obtain ⟨i, j, rfl, rfl, hc, q⟩ := h
 obtain ⟨t, rfl⟩ := rx
 obtain ⟨t', rfl⟩ := ry
 exact rule i j t t' s _ _ hc ⟨.int (g i j), H, I.tok _, ⟨_, rfl⟩, q⟩
theorem ajq {g : Int -> Int -> Int}
   (rule : ∀ (i j : Int) (t u : Tok) (s : Shared) (Q : Q.I) (E : Q.I), Q (.int (g i j) s.toks) { s with toks := s.toks + 1 } -> wpAny Q.o X.A (f (.int i t) (.int j u)) Q E s) :
   Bk X f (rI0 fun i j => .int (g i j)) := by
 intro pins s σ H x y v u Q I rx ry h
 obtain ⟨i, j, rfl, rfl, q⟩ := h
 obtain ⟨t, rfl⟩ := rx
 obtain ⟨t', rfl⟩ := ry
 exact rule i j t t' s _ _ ⟨.int (g i j), H, I.tok _, ⟨_, rfl⟩, q⟩
theorem ajr {g : Int -> Int -> Bool}
   (rule : ∀ (i j : Int) (t u : Tok) (s : Shared) (Q : Q.I) (E : Q.I), Q (.bool (g i j)) s -> wpAny Q.o X.A (f (.int i t) (.int j u)) Q E s) :
   Bk X f (rI0 fun i j => .bl (g i j)) := by
 intro pins s σ H x y v u Q I rx ry h
 obtain ⟨i, j, rfl, rfl, q⟩ := h
 obtain ⟨t, rfl⟩ := rx
 obtain ⟨t', rfl⟩ := ry
 exact rule i j t t' s _ _ ⟨.bl (g i j), H, I, rfl, q⟩
def ajs (i j : Int) : Prop := 0 < j /\ j < 1073741824
def ajt (i j : Int) : Prop := 0 <= j /\ j <= 1000000 /\ i.natAbs < 2 ^ 64
def aaD (i j : Int) : Prop := (-(2 ^ 64) < i /\ i < 2 ^ 64) \/ (-(2 ^ 64) < j /\ j < 2 ^ 64)
theorem aaD.ok {i j : Int} (h : aaD i j) : IntMulOk i j := by
 rcases h with ⟨h1, h2⟩ | ⟨h1, h2⟩
 . exact .of_left (intBits_le_64 h1 h2)
 . exact .of_right (intBits_le_64 h1 h2)
theorem afo : Bk X (binaryOp .Add) (rI0 fun i j => .int (i + j)) := ajq fun _ _ _ _ _ _ _ q => add_int q
theorem afp : Bk X (binaryOp .Sub) (rI0 fun i j => .int (i - j)) := ajq fun _ _ _ _ _ _ _ q => sub_int q
theorem afq : Bk X (binaryOp .Mult) (rI aaD fun i j => .int (i * j)) := opI fun _ _ _ _ _ _ _ hc q => mul_int q hc.ok
theorem aaE : Bk X (binaryOp .FloorDiv) (rI ajs fun i j => .int (i / j)) := opI fun i j _ _ _ _ _ hc q => by
 have h1 : (0 : Int) < j := hc.1
 have h2 : j < 1073741824 := hc.2
 exact floordiv_int Q.a (by rw [Int.fdiv_eq_ediv_of_nonneg i Q.a]; exact q) (.inl (PyProof.noPylong_small Q.a))
theorem afr : Bk X (binaryOp .Mod) (rI (fun _ j => 0 < j) fun i j => .int (i % j)) := opI fun i j _ _ _ _ _ hc q => by
 have h1 : (0 : Int) < j := hc
 exact mod_int' Q.a (by rw [Int.fmod_eq_emod_of_nonneg i Q.a]; exact q)
theorem afs : Bk X (binaryOp .Pow) (rI ajt fun i j => .int (i ^ j.toNat)) := opI fun _ _ _ _ _ _ _ hc q => pow_int_small hc.1 hc.2.1 hc.2.2 q
theorem unI {f : Value -> Sem Value} {g : Int -> Int}
   (rule : ∀ (i : Int) (t : Tok) (s : Shared) (Q : Q.I) (E : Q.I), Q (.int (g i) s.toks) { s with toks := s.toks + 1 } -> wpAny Q.o X.A (f (.int i t)) Q E s) :
   UnR X f (rU fun i => .int (g i)) := by
 intro pins s σ H x v Q I rx h
 obtain ⟨i, rfl, q⟩ := h
 obtain ⟨t, rfl⟩ := rx
 exact rule i t s _ _ ⟨.int (g i), H, I.tok _, ⟨_, rfl⟩, q⟩
theorem afu : UnR X (unaryOp .USub) (rU fun i => .int (-i)) := unI fun _ _ _ _ _ q => neg_int q
def aju : V -> V -> Bool
 | .non, .non => true | .non, .int _ => true | .int _, .non => true | .non, .bl _ => true | .bl _, .non => true | .non, .str _ => true | .str _, .non => true
 | .int _, .int _ => true | .bl _, .bl _ => true | .str _, .str _ => true | .SR _, .SR _ => true
 | .int _, .str _ => true | .str _, .int _ => true | .bl _, .str _ => true | .str _, .bl _ => true
 | _, _ => false
def rEq : R2 := fun x y H Q => aju x y = true /\ Q (.bl (decide (x = y))) H
def rNe : R2 := fun x y H Q => aju x y = true /\ Q (.bl (!decide (x = y))) H
theorem Rf {i j : Int} : decide (V.int i = V.int j) = (i == j) := by
 rw [atM]
 simp
theorem Vy {i j : Bool} : decide (V.bl i = V.bl j) = (i == j) := by
 rw [atM]
 simp
theorem Rg {i j : Str} : decide (V.str i = V.str j) = (i == j) := by
 rw [atM]
 simp
theorem Rh {i j : Array UInt8} : decide (V.SR i = V.SR j) = (i.toList == j.toList) := by
 rw [atM]
 cases i
 cases j
 simp
theorem cX {Q : VK} {k k' : Bool} (I : Q.q) (q : Q (.bl k) H) (e : k = k') : EP X pins σ Q (.bool k') s := by
 subst e
 exact ⟨.bl k, H, I, rfl, q⟩
theorem aeg : Bk X (compareOp .Eq) rEq := by
 intro pins s σ H x y v u Q I rx ry h
 obtain ⟨hs, q⟩ := h
 cases x with
 | non =>
   cases rx
   cases y with
   | non => cases ry; exact PySem.EqNone.eq_none_none Q.T
   | bl j => cases ry; exact PySem.EqNone.eq_none_bool Q.T
   | int j => obtain ⟨t', rfl⟩ := ry; exact PySem.EqNone.eq_none_int Q.T
   | str j => obtain ⟨t', rfl⟩ := ry; exact PySem.EqNone.eq_none_str Q.T
   | _ => exact absurd Q.ay ar6
 | bl i =>
   cases rx
   cases y with
   | non => cases ry; exact PySem.EqNone.eq_bool_none Q.T
   | bl j => cases ry; exact eq_bool (cX I q Vy)
   | str j => obtain ⟨t', rfl⟩ := ry; exact PySem.EqMixed.eq_bool_str Q.T
   | _ => exact absurd Q.ay ar6
 | int i =>
   obtain ⟨t, rfl⟩ := rx
   cases y with
   | non => cases ry; exact PySem.EqNone.eq_int_none Q.T
   | int j => obtain ⟨t', rfl⟩ := ry; exact eq_int (cX I q Rf)
   | str j => obtain ⟨t', rfl⟩ := ry; exact PySem.EqMixed.eq_int_str Q.T
   | _ => exact absurd Q.ay ar6
 | str i =>
   obtain ⟨t, rfl⟩ := rx
   cases y with
   | non => cases ry; exact PySem.EqNone.eq_str_none Q.T
   | bl j => cases ry; exact PySem.EqMixed.eq_str_bool Q.T
   | int j => obtain ⟨t', rfl⟩ := ry; exact PySem.EqMixed.eq_str_int Q.T
   | str j => obtain ⟨t', rfl⟩ := ry; exact eq_str (cX I q Rg)
   | _ => exact absurd Q.ay ar6
 | SR i =>
   obtain ⟨t, rfl⟩ := rx
   cases y with
   | SR j => obtain ⟨t', rfl⟩ := ry; exact PySem.W.eq_bytes (cX I q Rh)
   | _ => exact absurd Q.ay ar6
 | _ => cases y <;> exact absurd Q.ay ar6
theorem Vz : Bk X (compareOp .NotEq) rNe := by
 intro pins s σ H x y v u Q I rx ry h
 obtain ⟨hs, q⟩ := h
 cases x with
 | non =>
   cases rx
   cases y with
   | non => cases ry; exact PySem.EqNone.ne_none_none Q.T
   | bl j => cases ry; exact PySem.EqNone.ne_none_bool Q.T
   | int j => obtain ⟨t', rfl⟩ := ry; exact PySem.EqNone.ne_none_int Q.T
   | str j => obtain ⟨t', rfl⟩ := ry; exact PySem.EqNone.ne_none_str Q.T
   | _ => exact absurd Q.ay ar6
 | bl i =>
   cases rx
   cases y with
   | non => cases ry; exact PySem.EqNone.ne_bool_none Q.T
   | bl j => cases ry; exact ne_bool (cX I q (congrArg not Vy))
   | str j => obtain ⟨t', rfl⟩ := ry; exact PySem.EqMixed.ne_bool_str Q.T
   | _ => exact absurd Q.ay ar6
 | int i =>
   obtain ⟨t, rfl⟩ := rx
   cases y with
   | non => cases ry; exact PySem.EqNone.ne_int_none Q.T
   | int j => obtain ⟨t', rfl⟩ := ry; exact ne_int (cX I q (congrArg not Rf))
   | str j => obtain ⟨t', rfl⟩ := ry; exact PySem.EqMixed.ne_int_str Q.T
   | _ => exact absurd Q.ay ar6
 | str i =>
   obtain ⟨t, rfl⟩ := rx
   cases y with
   | non => cases ry; exact PySem.EqNone.ne_str_none Q.T
   | bl j => cases ry; exact PySem.EqMixed.ne_str_bool Q.T
   | int j => obtain ⟨t', rfl⟩ := ry; exact PySem.EqMixed.ne_str_int Q.T
   | str j => obtain ⟨t', rfl⟩ := ry; exact ne_str (cX I q (congrArg not Rg))
   | _ => exact absurd Q.ay ar6
 | SR i =>
   obtain ⟨t, rfl⟩ := rx
   cases y with
   | SR j => obtain ⟨t', rfl⟩ := ry; exact PySem.W.ne_bytes (cX I q (congrArg not Rh))
   | _ => exact absurd Q.ay ar6
 | _ => cases y <;> exact absurd Q.ay ar6
theorem ajv : Bk X (compareOp .Lt) (rI0 fun i j => .bl (decide (i < j))) := ajr fun _ _ _ _ _ _ _ q => lt_int q
theorem ajw : Bk X (compareOp .Gt) (rI0 fun i j => .bl (decide (j < i))) := ajr fun _ _ _ _ _ _ _ q => gt_int q
variable {op : CmpOp}
theorem sY (b : Expr) (h : op ≠ .In := by decide) (h2 : op ≠ .NotIn := by decide) : behindInMarks op b = false := by
 have e1 : (op == CmpOp.In) = false := by cases op <;> first | rfl | exact absurd rfl h
 have e2 : (op == CmpOp.NotIn) = false := by cases op <;> first | rfl | exact absurd rfl h2
 cases b <;> simp [behindInMarks, e1, e2]
theorem uQ {r : R2} (ho : Bk X (compareOp op) r) (ha : PE X a ta) (hb : PE X b tb) (hm : behindInMarks op b = false) : PE X (.Compare a [op] [b] pos) (tOp r ta tb) := by
 intro pins s σ H Q I h
 exact wpAny_Compare1 (afn ha hb I h fun v u s2 x y H2 I2 rx ry q => ho pins s2 σ H2 x y v u Q I2 rx ry q) hm
def ajx (t : TE) : TT := fun σ H Q => t σ H fun x H' => ∃ k, x = .bl k /\ Q k H'
theorem uR {r : R2} (ho : Bk X (compareOp op) r) (ha : PE X a ta) (hb : PE X b tb) (hm : behindInMarks op b = false) : PT X (.Compare a [op] [b] pos) (ajx (tOp r ta tb)) := by
 intro pins s σ H Q I h
 refine wpAny_isTrue_Compare1 (gk Q.aD fun v s1 ⟨x, H1, I1, r1, q1⟩ => gk (hb pins s1 σ H1 _ I1 q1) fun u s2 ⟨y, H2, I2, r2, q2⟩ =>
   gk (ho pins s2 σ H2 x y v u _ I2 r1 r2 q2) fun c s3 ⟨z, H3, I3, r3, k, e, q3⟩ => ?_) hm
 subst e
 cases r3
 exact atz ⟨H3, I3, q3⟩
theorem wX : (sizeLine : Nat) < 2 ^ 63 := by rw [as5]; decide
theorem N4 : Bk X (binaryOp .Add) (fun x y H Q => ∃ i j, x = .str i /\ y = .str j /\ i.length + j.length <= sizeLine /\ Q (.str (i ++ j)) H) := by
 intro pins s σ H x y v u Q I rx ry h
 obtain ⟨i, j, rfl, rfl, hz, q⟩ := h
 obtain ⟨t, rfl⟩ := rx
 obtain ⟨t', rfl⟩ := ry
 exact add_str (fun t' tk => ⟨.str (i ++ j), H, I.tok _, ⟨_, rfl⟩, q⟩) hz
theorem vals1 {x : V} (r : Vals [x] us) : ∃ u, us = [u] /\ RelV x u := by
 cases r with
 | cons r1 r2 => cases r2; exact ⟨_, rfl, r1⟩
theorem vals2 {x y : V} (r : Vals [x, y] us) : ∃ u w', us = [u, w'] /\ RelV x u /\ RelV y w' := by
 cases r with
 | cons r1 r2 =>
   cases r2 with
   | cons r3 r4 => cases r4; exact ⟨_, _, rfl, r1, r3⟩
theorem S8 (hc : X.calm = true) : sX X (.builtin "max") (fun xs H Q => ∃ i j, xs = [.int i, .int j] /\ Q (.int (if j > i then j else i)) H) := by
 intro pins s σ H xs us Q I r h
 obtain ⟨i, j, rfl, q⟩ := h
 obtain ⟨u, w', rfl, ⟨t, rfl⟩, ⟨t', rfl⟩⟩ := vals2 r
 refine max_two_ints (I.ok.hd hc) fun h' tk k => ⟨_, H, I.kept k, ?_, q⟩
 by_cases hj : j > i
 . rw [arU hj, arU hj]; exact ⟨_, rfl⟩
 . rw [arS hj, arS hj]; exact ⟨_, rfl⟩
theorem S9 (hc : X.calm = true) : sX X (.builtin "min") (fun xs H Q => ∃ i j, xs = [.int i, .int j] /\ Q (.int (if j < i then j else i)) H) := by
 intro pins s σ H xs us Q I r h
 obtain ⟨i, j, rfl, q⟩ := h
 obtain ⟨u, w', rfl, ⟨t, rfl⟩, ⟨t', rfl⟩⟩ := vals2 r
 refine min_two_ints (I.ok.hd hc) fun h' tk k => ⟨_, H, I.kept k, ?_, q⟩
 by_cases hj : j < i
 . rw [arU hj, arU hj]; exact ⟨_, rfl⟩
 . rw [arS hj, arS hj]; exact ⟨_, rfl⟩
theorem Tc : sX X (.type "int") (fun xs H Q => (∃ i, xs = [.int i] /\ Q (.int i) H) \/ ∃ k, xs = [.bl k] /\ Q (.int (if k then 1 else 0)) H) := by
 intro pins s σ H xs us Q I r h
 rcases h with ⟨i, rfl, q⟩ | ⟨k, rfl, q⟩
 . obtain ⟨u, rfl, t, rfl⟩ := vals1 r
   exact call_int_int ⟨.int i, H, I, ⟨_, rfl⟩, q⟩
 . obtain ⟨u, rfl, r1⟩ := vals1 r
   cases r1
   exact call_int_bool ⟨.int (if k then 1 else 0), H, I.tok _, ⟨_, rfl⟩, q⟩
theorem Hh : sX X (.type "str") (fun xs H Q => ∃ i, xs = [.int i] /\ i.natAbs.log2 < 1920 /\ Q (.str (toString i)) H) := by
 intro pins s σ H xs us Q I r h
 obtain ⟨i, rfl, hz, q⟩ := h
 obtain ⟨u, rfl, t, rfl⟩ := vals1 r
 exact PySem.P.str_of_int hz ⟨.str _, H, I.tok _, ⟨_, rfl⟩, q⟩
structure Td (h : Heap) (x dx C : Addr) (mA : Q.J) : Prop where
 obj : h.get? x = some (PySem.W.instObj C dx)
 ns : h.Ns1 dx mA
 ne : dx ≠ x
variable {dx : Addr}
theorem Te {mA : Q.J} (n : h.Ns1 dx mA) : ∃ od, h.get? dx = some od /\ ∀ name, PySem.W.lookIn name od = some (mA name) := by
 obtain ⟨o, es, ep, ho, hd, hk, _, hm⟩ := n
 refine ⟨o, ho, fun name => ?_⟩
 have e := hm name
 unfold nsFind findBy at e
 rw [← Array.find?_toList] at e
 unfold PySem.W.lookIn
 rw [hd]
 dsimp only
 split
 . rename_i y q
   rw [q] at e
   exact congrArg some e
 . rename_i q
   rw [q] at e
   have a : es.toList.any (·.refKey) = false := by
     rw [List.any_eq_false]
     intro y hy
     obtain ⟨z, t, amh⟩ := hk y (Array.mem_toList_iff.mp hy)
     simp [DictEntry.refKey, amh]
   have a' : ¬ es.toList.any (·.refKey) = true := by rw [a]; exact ar6
   rw [arS a']
   exact congrArg some e
variable {C : Addr}
theorem Td.look {mA : Q.J} (I : Td h x dx C mA) : ∃ od, PySem.W.InstAt h x (PySem.W.instObj C dx) C (some od) /\ ∀ name, PySem.W.lookIn name od = some (mA name) :=
 let ⟨od, ho, hl⟩ := Te I.ns
 ⟨od, ⟨I.obj, rfl, rfl, ho⟩, hl⟩
variable {prog : Program} {f : Addr} {mA : Q.J} {name : Str} {v : Value}
theorem get_map {expr : Bool} {Q : Q.I} (X : K.In s.heap) (I : Td s.heap x dx C mA) (hg : PySem.W.plainGet K C name = true) (hh : PySem.W.hasDictIn K C = true)
   (ha : PySem.W.findIn K (.ref C) name = some none) (hv : mA name = some v) (hv' : PySem.W.handedIn v = true) (h : Q v { s with toks := s.toks + 1 }) :
   wpAny Q.N A (getAttr (.ref x) name expr) Q E s := by
 obtain ⟨od, J, hl⟩ := I.look
 exact PySem.W.get_value X J (PySem.W.plainGet_of hg).1 (PySem.W.findObj_own hh ha rfl (by rw [hl, hv])) hv' h
theorem aaF {ns : Q.h} (X : K.In s.heap) (I : Td s.heap x dx C mA)
   (hs : PySem.W.findIn K (.ref C) "__setattr__" = some (some (.builtin "object.__setattr__"))) (hp : PySem.W.plainOver K C = true) (ht : PySem.W.takerIn K C name = some none) (hh : PySem.W.hasDictIn K C = true)
   (hw : PySem.Within mA ns) (Vc : ns.length <= sizeLine)
   (h : ∀ h', Td h' x dx C (fun y => if y = name then some v else mA y) -> Heap.SameBut dx s.heap h' -> Q () { s with heap := h', toks := s.toks + 2 }) :
   wpAny Q.N A (setAttr (.ref x) name v) Q E s := by
 obtain ⟨od, J, hl⟩ := I.look
 refine PySem.W.set_plain X J hs (PySem.W.osa_open (s := { s with toks := s.toks + 1 }) (r := none) X J hp ht fun b => ?_)
 obtain ⟨cd, hc, hd'⟩ := PySem.W.any_some hh
 have hx : s.heap.get? x = some ⟨.ref C, some dx, .plain, #[]⟩ := I.obj
 refine arX (asE (arX (arX (wpAny_loadPart hx (arX (PySem.W.Looks.here (s := { s with toks := s.toks + 1 }) (PySem.W.looks_clsIn X hc) ?_))))))
 rw [hd']
 refine asE (a := some dx) (arX (asE (arX ?_)))
 refine wpAny_nsSet1 (s := { s with toks := s.toks + 1 }) I.ns fun h' hn2 KH => ?_
 obtain ⟨oD, esD, epD, hoD, hdD, hcD⟩ := hn2.count (PySem.Within.cons name v hw)
 refine arX (wpAny_lookBehind hoD (by rw [hdD]; exact pastItsLine_dict (asD hcD (by rw [ar8]; omega))) ?_)
 exact asE (h _ ⟨(KH.2 _ (att I.ne)).trans I.obj, hn2, I.ne⟩ KH)
theorem VA {R : Result -> Shared -> Prop} {vs : Q.u} {kw : List (Str × Value)} (X : K.In s.heap) (hm : PySem.W.makesIn K C = true)
   (hi : PySem.W.findIn K (.ref C) "__init__" = some (some (.ref f))) (hf : PySem.W.typeIn K (.ref f) = some (.type "function"))
   (h : codeAny Q.N (A.under (.builtin "type.__call__" ⟨.ref C :: vs, kw⟩)) (.call (.ref f) ⟨.ref Q.ae :: vs, kw⟩) (PySem.W.InitBack Q.ae R)
     { s with heap := (s.heap.push PySem.W.emptyDict).push (PySem.W.instObj C s.heap.objs.size) }) :
   codeAny Q.N A (.call (.ref C) ⟨vs, kw⟩) R s := by
 obtain ⟨hh, g, d, t, os⟩ := s
 exact PySem.W.make_core (PySem.W.makes_of X hm) (PySem.W.looks_findIn X hi) (fun self => PySem.W.bind_fn X self hf) Q.F h
def ny (f : Str) (v : V) : List (Str × V) -> List (Str × V)
 | [] => [(f, v)]
 | (g, x) :: r => if g = f then (g, v) :: r else (g, x) :: ny f v r
theorem AG (f g : Str) (v : V) : ∀ fs : List (Str × V), (ny f v fs).lookup g = if g = f then some v else fs.lookup g
 | [] => by
   show List.lookup g [(f, v)] = _
   by_cases h : g = f
   . have hb : (g == f) = true := auh.mpr h
     simp only [List.lookup, hb, arU h]
   . have hb : (g == f) = false := at5.mpr h
     simp only [List.lookup, hb, arS h]
 | (k, x) :: r => by
   have ih := AG f g v r
   rw [show ny f v ((k, x) :: r) = (if k = f then (k, v) :: r else (k, x) :: ny f v r) from rfl]
   by_cases hk : k = f
   . rw [arU hk]
     by_cases h : g = k
     . have hb : (g == k) = true := auh.mpr h
       simp only [List.lookup, hb, arU (h.trans hk)]
     . have hb : (g == k) = false := at5.mpr h
       simp only [List.lookup, hb, arS (fun e : g = f => h (e.trans hk.symm))]
   . rw [arS hk]
     by_cases h : g = k
     . have hb : (g == k) = true := auh.mpr h
       simp only [List.lookup, hb, arS (fun e : g = f => hk (h.symm.trans e))]
     . have hb : (g == k) = false := at5.mpr h
       simp only [List.lookup, hb]
       exact ih
theorem zZ (f : Str) (v : V) : ∀ fs : List (Str × V), f ∈ (ny f v fs).map (·.1) /\ ∀ g, g ∈ fs.map (·.1) -> g ∈ (ny f v fs).map (·.1)
 | [] => ⟨by simp [ny], fun g h => by simp at h⟩
 | (k, x) :: r => by
   obtain ⟨i1, i2⟩ := zZ f v r
   rw [show ny f v ((k, x) :: r) = (if k = f then (k, v) :: r else (k, x) :: ny f v r) from rfl]
   by_cases hk : k = f
   . rw [arU hk]
     subst hk
     exact ⟨by simp, fun g h => by simpa using h⟩
   . rw [arS hk]
     refine ⟨?_, fun g h => ?_⟩
     . rw [asl]
       exact arO _ i1
     . rw [asl] at h ⊢
       rcases arP.mp h with e | e
       . exact arP.mpr (.inl e)
       . exact arO _ (i2 g e)
theorem AH (f : Str) (v : V) : ∀ fs : List (Str × V), (ny f v fs).length <= fs.length + 1
 | [] => by simp [ny]
 | (k, x) :: r => by
   have ih := AH f v r
   rw [show ny f v ((k, x) :: r) = (if k = f then (k, v) :: r else (k, x) :: ny f v r) from rfl]
   by_cases hk : k = f
   . rw [arU hk, ar8, ar8]; omega
   . rw [arS hk, ar8, ar8]; omega
theorem N1.some_of {v : V} {o : Option Value} (r : N1 (some v) o) : ∃ u, o = some u /\ RelV v u := by
 cases o with
 | none => exact (show False from r).elim
 | some u => exact ⟨u, rfl, r⟩
theorem Tf {v : V} (r : RelV v u) : PySem.W.handedIn u = true := by
 cases v with
 | non => cases (show u = Value.none from r); rfl
 | bl b => cases (show u = Value.bool b from r); rfl
 | int i => obtain ⟨t, e⟩ := (show ∃ t, u = Value.int i t from r); cases e; rfl
 | str x => obtain ⟨t, e⟩ := (show ∃ t, u = Value.str x t from r); cases e; rfl
 | SR b => obtain ⟨t, e⟩ := (show ∃ t, u = Value.bytes b t from r); cases e; rfl
 | flt b => obtain ⟨t, e⟩ := (show ∃ t, u = Value.float b t from r); cases e; rfl
 | ref a => cases (show u = Value.ref a from r); rfl
 | ty n => cases (show u = Value.type n from r); rfl
variable {a : Addr} {fs : Q.aq}
theorem Ri (gX : Bv P w H h) (e : H a = some (.ins C dx fs)) : ∃ mA, Td h a dx C mA /\ (∀ f, N1 (fs.lookup f) (mA f)) /\ PySem.Within mA (fs.map (·.1)) /\ fs.length <= 1000 /\ H dx = some (.own a) := by
 obtain ⟨d, z, ne, ob, mA, n, r, q⟩ := (show kG P w H h a (.ins C dx fs) from gX a _ e)
 exact ⟨mA, ⟨ob, n, ne⟩, r, q, z, d⟩
structure wB (K : Q.n) (C : Addr) : Prop where
 pg : PySem.W.plainGet K C Str.empty = true
 hd : PySem.W.hasDictIn K C = true
 po : PySem.W.plainOver K C = true
 sa : PySem.W.findIn K (.ref C) "__setattr__" = some (some (.builtin "object.__setattr__"))
theorem wB.get (c : wB K C) (f : Str) : PySem.W.plainGet K C f = true := c.pg
def bG (K : Q.n) (C : Addr) (f : Str) : Prop := PySem.W.findIn K (.ref C) f = some none
theorem bG.ajy {f : Str} (n : bG K C f) : PySem.W.takerIn K C f = some none := by
 unfold PySem.W.takerIn
 rw [show PySem.W.findIn K (.ref C) f = some none from n]
 rfl
variable {f : Str} {v : V}
theorem N5 {b : Bool} {Q : Q.I} (I : Q.q) (e : H a = some (.ins C dx fs)) (c : wB X.K C) (n : bG X.K C f) (l : fs.lookup f = some v)
   (h : ∀ u s', Inv X pins σ H s' -> RelV v u -> Q u s') : wpAny Q.o A (getAttr (.ref a) f b) Q E s := by
 obtain ⟨mA, O, r, _, _, _⟩ := Ri I.gX e
 obtain ⟨u, hu, ru⟩ := N1.some_of (v := v) (o := mA f) (by rw [← l]; exact r f)
 exact get_map I.KG O (c.get f) c.hd n hu (Tf ru) (h u _ (I.tok _) ru)
theorem N6 {y : V} (I : Q.q) (e : H a = some (.ins C dx fs)) (c : wB X.K C) (n : bG X.K C f) (hl : fs.length < 1000) (ry : RelV y u)
   (h : ∀ s', Inv X pins σ (upd H a (.ins C dx (ny f y fs))) s' -> Q () s') : wpAny Q.o A (setAttr (.ref a) f u) Q E s := by
 obtain ⟨mA, O, r, wi, _, ho⟩ := Ri I.gX e
 have hz : (fs.map (·.1)).length <= sizeLine := by rw [arL, as5]; omega
 refine aaF I.KG O c.sa c.po n.ajy c.hd wi hz fun h' O' sb => h _ ?_
 have hd : ∃ o, h'.get? dx = some o := let ⟨o, _, _, e', _⟩ := O'.ns; ⟨o, e'⟩
 refine I.write (x := a) (e := dx) (by rw [e]; exact True.intro) (.inr ho) (fun b q hb z => (sb.2 b hb).trans z) hd ?_
 refine ⟨by rw [aL O.ne]; exact ho, ?_, O.ne, O'.obj, _, O'.ns, fun g => ?_, fun g hg => ?_⟩
 . have := AH f y fs; omega
 . show N1 ((ny f y fs).lookup g) (if g = f then some u else mA g)
   rw [AG]
   by_cases q : g = f
   . rw [arU q, arU q]; exact ry
   . rw [arS q, arS q]; exact r g
 . by_cases q : g = f
   . rw [q]; exact (zZ f y fs).1
   . refine (zZ f y fs).2 g (wi g fun z => hg ?_)
     show (if g = f then some u else mA g) = none
     rw [arS q]; exact z
theorem Inv.made (I : Q.q) : Inv X pins σ (upd (upd H s.heap.objs.size (.own Q.ae)) Q.ae (.ins C s.heap.objs.size []))
   { s with heap := (s.heap.push PySem.W.emptyDict).push (PySem.W.instObj C s.heap.objs.size) } := by
 have e1 : (s.heap.push PySem.W.emptyDict).get? s.heap.objs.size = some PySem.W.emptyDict := asC s.heap rfl
 have e2 : ((s.heap.push PySem.W.emptyDict).push (PySem.W.instObj C s.heap.objs.size)).get? Q.ae = some (PySem.W.instObj C s.heap.objs.size) := by
   have := asC (s.heap.push PySem.W.emptyDict) (o := PySem.W.instObj C s.heap.objs.size) rfl
   rwa [Heap.size_push] at this
 have e3 : (s.heap.push PySem.W.emptyDict).Ns s.heap.objs.size (fun _ => none) := ⟨PySem.W.emptyDict, #[], _, e1, rfl, (fun e he => absurd he Q.p), fun _ => rfl⟩
 have I1 := I.laid (a := s.heap.objs.size) (o := .own Q.ae) (h' := s.heap.push PySem.W.emptyDict) (t' := s.toks) (fun b u q => ar4 _ q) (ar5 _) ⟨_, e1⟩
 refine I1.laid (a := s.heap.objs.size + 1) (o := .ins C s.heap.objs.size []) (t' := s.toks) (fun b u q => ar4 _ q) (Nat.le_of_eq (Heap.size_push _ _)) ?_
 have ne : s.heap.objs.size ≠ s.heap.objs.size + 1 := asJ (atZ _)
 refine ⟨by rw [aL ne, b9], asr _, ne, e2, fun _ => none, (Heap.Ns1.of_empty e3).at fun o q => ar4 _ q, fun _ => True.intro, fun y hy => absurd rfl hy⟩
theorem aaG {env : Env} {e : Expr} {Q : Q.I} (hb : attributeBase e f env (eval e env) = eval e env)
   (h : wpAny Q.N A (eval e env) (fun o s₁ => wpAny Q.N A (getAttr o f true) Q E s₁) E s) : wpAny Q.N A (eval (.Attribute e f pos) env) Q E s :=
 Attribute_any_ h (by rw [arm_eval_Attribute, hb])
def ami (K : Q.n) (ta : TE) (f : Str) : TE := fun σ H Q => ta σ H fun x H1 => ∃ a C dx fs v, x = .ref a /\ H1 a = some (.ins C dx fs) /\ wB K C /\ bG K C f /\ fs.lookup f = some v /\ Q v H1
def amj (K : Q.n) (ta tv : TE) (f : Str) : TS := fun D σ H => tv σ H fun y H1 => ta σ H1 fun x H2 => ∃ a C dx fs, x = .ref a /\ H2 a = some (.ins C dx fs) /\ wB K C /\ bG K C f /\ fs.length < 1000 ∧
 D.nx σ (upd H2 a (.ins C dx (ny f y fs)))
variable {o e value : Expr} {pos' : Pos} {tv : TE}
theorem VB (he : PE X e ta) (hb : attributeBase e f X.env (eval e X.env) = eval e X.env) : PE X (.Attribute e f pos) (ami X.K ta f) := by
 intro pins s σ H Q I h
 refine aaG hb (gk (he pins s σ H _ I h) fun u s1 zz => ?_)
 obtain ⟨x, H1, I1, rx, a, C, dx, fs, v, ex, ea, c, n, l, q⟩ := zz
 subst ex
 obtain rfl : u = Value.ref a := rx
 exact N5 I1 ea c n l fun u' s2 I2 ru => ⟨v, H1, I2, ru, q⟩
theorem afv (ha : PE X o ta) (hv : PE X value tv) (hs : swapsWith value (some (.Attribute o f pos')) pos.line X.env = pure false) : PS X (.Assign [.Attribute o f pos'] value pos) (amj X.K ta tv f) := by
 intro pins s σ H D I h
 refine plainObj_wpAny_Assign_Attribute (gk (hv pins s σ H _ I h) fun u s1 ⟨y, H1, I1, ry, q⟩ => gk (ha pins s1 σ H1 _ I1 q) fun ov s2 zz => ?_) hs
 obtain ⟨x, H2, I2, rx, a, C, dx, fs, ex, ea, c, n, l, q2⟩ := zz
 subst ex
 obtain rfl : ov = Value.ref a := rx
 exact N6 I2 ea c n l ry fun s3 I3 => ⟨σ, _, I3, q2⟩
structure ig (k : Nat) (A : Around) : Prop where
 hd : A.handled = none
 dp : A.depth + 3 * k + 5 < recursionLimit
 un : A.units + 16 * k + 200 < cLine
theorem ig.mono {j : Nat} (r : ig k A) (h : j <= k) : ig j A := ⟨r.hd, by have := r.dp; omega, by have := r.un; omega⟩
theorem ig.deeper (r : ig (k + 1) A) (env : Env) : ig k (A.deeper env) :=
 ⟨r.hd, by have := r.dp; show A.depth + 1 + 3 * k + 5 < _; omega, by have := r.un; show A.units + 3 + 16 * k + 200 < _; omega⟩
theorem N7 {kw : List (Str × Value)} : (A.under Q.bQ).depth = A.depth + 1 := by
 first | rfl | simp [Around.under, Code.weight, Code.isCreation, Code.isGuard, Code.isCaller, Code.frames, Code.isFrame, guardIds]
theorem N8 {kw : List (Str × Value)} : (A.under Q.bQ).units = A.units + 1 := by
 first | rfl | simp [Around.under, Code.cUnits, Code.frames, Code.isFrame]
theorem ig.make (r : ig (k + 1) A) (C : Addr) (us : Q.u) (kw : List (Str × Value)) : ig k (A.under Q.bQ) :=
 ⟨r.hd, by have := r.dp; rw [N7]; omega, by have := r.un; rw [N8]; omega⟩
theorem ig.depth (r : ig k A) : A.depth < recursionLimit := by have := r.dp; omega
theorem ig.units (r : ig k A) : A.units + 64 < cLine := by have := r.un; omega
def aaH : TA := fun _ H Q => Q [] H
def VC (ta : TE) (tr : TA) : TA := fun σ H Q => ta σ H fun x H1 => tr σ H1 fun xs H2 => Q (x :: xs) H2
variable {t : TA}
theorem fc : PA X [] aaH := fun _ _ _ _ H Q I h => Calls.spliced_nil ⟨[], H, I, .nil, h⟩
theorem cD (ha : PE X e te) (hr : PA X es t) (hs : Q.Y := by rfl) : PA X Q.D (VC te t) := by
 intro pos pins s σ H Q I h
 rw [hs]
 show wpAny _ _ (spliced ((false, eval e X.env) :: backTo pos (starEach es X.env))) _ _ s
 refine Calls.spliced_cons (gk Q.aD fun u s1 zz => ?_)
 obtain ⟨x, H1, I1, r1, q1⟩ := zz
 exact gk (hr pos pins s1 σ H1 _ I1 q1) fun us s2 ⟨xs, H2, I2, r2, q2⟩ => ⟨x :: xs, H2, I2, .cons r1 r2, q2⟩
def amk (t : TA) : TE := fun σ H Q => t σ H fun xs H1 => xs.length <= sizeLine /\ ∀ p, H1 p = none -> Q (.ref p) (upd H1 p (.tup xs))
def aml (t : TA) : TE := fun σ H Q => t σ H fun xs H1 => xs.length <= sizeLine /\ ∀ p, H1 p = none -> Q (.ref p) (upd H1 p (.lst xs))
theorem afw {x1} (h : PA X es t) : PE X (.Tuple es x1 pos) (amk t) := by
 intro pins s σ H Q I hq
 refine wpAny_Tuple_spliced (gk (h pos pins s σ H _ I hq) fun us s1 ⟨xs, H1, I1, r, z, q⟩ => ⟨by rw [← r.length]; exact z, ?_⟩)
 have hf : H1 s1.heap.objs.size = none := I1.gX.fresh (ar5 _)
 refine ⟨.ref s1.heap.objs.size, upd H1 s1.heap.objs.size (.tup xs), I1.laid (t' := s1.toks) (fun b u e => ar4 _ e) (ar5 _) ?_, rfl, q _ hf⟩
 exact ⟨z, us, r, ⟨_, asC _ rfl, rfl, _, rfl⟩⟩
theorem afx (h : PA X es t) : PE X (.List es pos) (aml t) := by
 intro pins s σ H Q I hq
 refine wpAny_List_spliced (gk (h pos pins s σ H _ I hq) fun us s1 ⟨xs, H1, I1, r, z, q⟩ => ⟨by rw [← r.length]; exact z, ?_⟩)
 have hf : H1 s1.heap.objs.size = none := I1.gX.fresh (ar5 _)
 refine ⟨.ref s1.heap.objs.size, upd H1 s1.heap.objs.size (.lst xs), I1.laid (t' := s1.toks) (fun b u e => ar4 _ e) (ar5 _) ?_, rfl, q _ hf⟩
 exact ⟨z, us, 0, r, asC _ rfl⟩
abbrev Sp := List V -> Hp -> VK -> XK -> Prop
abbrev VD := List Env -> Hp -> Shared -> XK -> Value -> Shared -> Prop
structure N9 (P : Program) (w : World) (K : Q.n) (mg : Q.J) (base : Heap) (A : Around) (outer : List Env) (s : Shared) (H : Hp) : Prop where
 frames : A.frames = some outer
 mod : Mod K mg base
 bs : ∀ b o, base.get? b = some o -> s.heap.get? b = some o /\ H b = none
 bsz : base.objs.size <= s.heap.objs.size
 Bh : s.heap.FunFrames base outer
 frf : ∀ b ∈ Vb outer, H b = none
 gX : Bv P w H s.heap
 bare : AllBare s.gens
def CE (outer : List Env) (P : Program) (w : World) (H : Hp) (s : Shared) (Q : VK) (u : Value) (s' : Shared) : Prop :=
 ∃ v H', s'.os = s.os /\ AllBare s'.gens /\ Un (Vb outer) [] H H' s.heap s'.heap /\ Bv P w H' s'.heap /\ RelV v u /\ Q v H'
def CR (CX : VD) (outer : List Env) (P : Program) (w : World) (H : Hp) (s : Shared) (Q : VK) (E : XK) (r : Result) (s' : Shared) : Prop :=
 match r with
 | .ok (.ret u) => CE outer P w H s Q u s'
 | .ok _ => False
 | .error e => CX outer H s E e s'
structure iM (P : Program) (w : World) (K : Q.n) (mg : Q.J) (base : Heap) (CX : VD) (k : Nat) (f : Addr) (fd : FuncData) (ps : Q.h) (sp : Sp) : Prop where
 len : ∀ vs H Q E, sp vs H Q E -> vs.length = ps.length
 run : ∀ (A : Around) (outer : List Env) (s : Shared) (H : Hp) (args : Args) (us : Q.u) (vs : List V) (Q : VK) (E : XK), ig k A -> N9 P w K mg base A outer s H -> BindsTo s fd args (ps.zip us) -> Vals vs us -> sp vs H Q E →
   codeAny (model P w) A (.call (.ref f) args) (CR CX outer P w H s Q E) s
variable {mg : Q.J} {base : Heap} {CX : VD} {ps : Q.h}
theorem iM.imp {f : Addr} {fd : FuncData} {sp sp' : Sp} (F : iM P w K mg base CX k f fd ps sp)
   (h : ∀ vs H Q E, sp' vs H Q E -> sp vs H Q E) : iM P w K mg base CX k f fd ps sp' :=
 ⟨fun vs H Q E q => F.len vs H Q E (h _ _ _ _ q), fun A outer s H args us vs Q E hr he hb hv hs => F.run A outer s H args us vs Q E hr he hb hv (h _ _ _ _ hs)⟩
theorem N9.make {outer : List Env} (e : N9 P w K mg base A outer s H) (C : Addr) (us : Q.u) (kw : List (Str × Value)) :
   N9 P w K mg base (A.under Q.bQ) outer s H := ⟨by first | exact e.frames | (simpa [Around.under, Code.envs, Code.isFrame, pushEnvs] using e.frames), e.mod, e.bs, e.bsz, e.Bh, e.frf, e.gX, e.bare⟩
variable {s' : Shared}
theorem Inv.ajz (I : Q.q) : N9 X.prog X.w X.K X.mg X.base X.A X.stack s H :=
 ⟨I.ok.frames, I.ok.mod, I.bs, asD I.ok.bsz I.sz, I.stack, I.Q8, I.gX, I.bare⟩
theorem Inv.after {Q : VK} (I : Q.q) (h : CE X.stack X.prog X.w H s Q u s') : EP X pins σ Q u s' := by
 obtain ⟨v, H', os, bare, un, gX, r, q⟩ := h
 obtain ⟨hh, g, d, t, os'⟩ := s'
 obtain rfl : os' = s.os := os
 exact ⟨v, H', I.call (h' := hh) (g' := g) (d' := d) (t' := t) (ch := []) un gX bare (fun b z => absurd z Q.p), r, q⟩
def aeh (sp : Sp) (KY : List V) (E : XK) (t : TA) : TE := fun σ H Q => t σ H fun vs H1 => sp (vs ++ KY) H1 Q E
def ajA (C : Addr) (sp : Sp) (KY : List V) (E : XK) (t : TA) : TE := fun σ H Q => t σ H fun vs H1 => ∀ x dx, H1 x = none -> H1 dx = none -> dx ≠ x →
 sp (.ref x :: (vs ++ KY)) (upd (upd H1 dx (.own x)) x (.ins C dx [])) (fun v H2 => v = .non /\ Q (.ref x) H2) E
def Binds (K : Q.n) (fd : FuncData) (ps : Q.h) (ds : Q.u) : Prop :=
 ∀ (s : Shared) (us : Q.u), K.In s.heap -> (us ++ ds).length = ps.length -> BindsTo s fd ⟨us, []⟩ (ps.zip (us ++ ds))
theorem Binds.all {fd : FuncData} (h : ∀ us : List Value, us.length = ps.length -> bindArgs fd ⟨us, []⟩ = pure (ps.zip us)) : Binds K fd ps [] := fun s us _ hl => by
 rw [asj] at hl ⊢
 exact .of_eq (h us hl)
def Passes (CX : VD) (X : Cx) (E : XK) : Prop := ∀ (pins : Q.v) (σ : St) (H : Hp) (s : Shared) (e : Value) (s' : Shared), Inv X pins σ H s -> CX X.stack H s E e s' -> X.xe e s'
section
variable {f : Addr} {fd : FuncData} {sp : Sp} {KY : List V} {ds : Q.u} {E : XK} {x : Str}
theorem VF {Q : VK} {vs : List V} (F : Q.bJ) (hr : ig k X.A) (hb : Binds X.K fd ps ds) (hd : Vals KY ds) (hx : Passes CX X E)
   (I : Q.q) (r : Vals vs us) (h : sp (vs ++ KY) H Q E) : wpAny Q.o X.A (call (.ref f) us) Q.ap X.xe s := by
 have r2 : Vals (vs ++ KY) (us ++ ds) := r.append hd
 have hl : (us ++ ds).length = ps.length := by rw [← r2.length]; exact F.len _ _ _ _ h
 refine wpAny_call (codeAny_mono (F.run X.A X.stack s H ⟨us, []⟩ (us ++ ds) (vs ++ KY) Q E hr I.ajz (hb s us I.KG hl) r2 h) fun r s' hq => ?_)
 cases r with
 | error e => exact hx pins σ H s e s' I hq
 | ok fl =>
   cases fl with
   | ret u => exact I.after hq
   | next => exact False.elim hq
   | brk => exact False.elim hq
   | cont => exact False.elim hq
theorem Hi (F : Q.bJ) (hr : ig k X.A) (hg : Gl X x) (hm : X.mg x = some (.ref f)) (hk : Q.bL) (hb : Binds X.K fd ps ds) (hd : Vals KY ds) (hx : Passes CX X E)
   (ha : PA X Q.D t) (xZ : Q.B := by decide) (he : Q.Y := by rfl) (hpl : Q.as := by rfl) :
   PE X (.Call (.Name x p) Q.D [] pos) (aeh sp KY E t) := by
 intro pins s σ H Q I h
 refine ato (By I hg hm ?_ xZ)
 refine PySem.W.callWith_K (h₀ := X.base) I.ok.mod.kin hk (gk Q.aK fun us s1 ⟨vs, H1, I1, r, q⟩ => ⟨I1.KG, ?_⟩) he hpl
 exact VF F hr hb hd hx I1 r q
theorem VG (F : Q.bJ) (hr : ig k X.A) (hg : Gl X x) (hm : X.mg x = some (.ref f)) (hk : Q.bL) (hb : Binds X.K fd ps ds) (hd : Vals KY ds) (hx : Passes CX X E)
   (xZ : Q.B := by decide) : PE X (.Call (.Name x p) [] [] pos) (aeh sp KY E aaH) := by
 intro pins s σ H Q I h
 refine ato (By I hg hm ?_ xZ)
 exact PySem.W.callWith_K0 I.KG hk (VF (us := []) F hr hb hd hx I .nil h)
structure Mk (K : Q.n) (C f : Addr) : Prop where
 makes : PySem.W.makesIn K C = true
 init : PySem.W.findIn K (.ref C) "__init__" = some (some (.ref f))
 fn : PySem.W.isFn K (.ref f) = true
 kp : PySem.W.keepIn K (.ref C) = true
theorem VH {Q : VK} {vs : List V} (M : Mk X.K C f) (F : Q.bJ) (hr : ig (k + 1) X.A) (hb : Binds X.K fd ps ds) (hd : Vals KY ds)
   (hx : Passes CX X E) (I : Q.q) (r : Vals vs us)
   (h : ∀ x dx, H x = none -> H dx = none -> dx ≠ x -> sp (.ref x :: (vs ++ KY)) (upd (upd H dx (.own x)) x (.ins C dx [])) (fun v H2 => v = .non /\ Q (.ref x) H2) E) :
   wpAny Q.o X.A (call (.ref C) us) Q.ap X.xe s := by
 have hq := h Q.ae s.heap.objs.size (I.gX.fresh (atG _)) (I.gX.fresh (ar5 _)) (asJ (atZ _))
 have I2 := Inv.made (C := C) I
 have r2 : Vals (V.ref Q.ae :: (vs ++ KY)) (Value.ref Q.ae :: (us ++ ds)) := .cons rfl (r.append hd)
 have hl : (Value.ref Q.ae :: us ++ ds).length = ps.length := by
   have e := r2.length
   rw [F.len _ _ _ _ hq] at e
   exact e.symm
 refine wpAny_call (VA (f := f) I.KG M.makes M.init (auh.mp M.fn) (codeAny_mono (F.run _ X.stack _ _ ⟨Value.ref Q.ae :: us, []⟩ (Value.ref Q.ae :: (us ++ ds)) _ _ E (hr.make C us [])
   (I2.ajz.make C us []) (hb _ (Value.ref Q.ae :: us) I2.KG hl) r2 hq) fun r s' Vd => ?_))
 cases r with
 | error e => exact hx pins σ _ _ e s' I2 Vd
 | ok fl =>
   cases fl with
   | ret u =>
     obtain ⟨v, H', I3, rv, ev, q3⟩ := I2.after Vd
     subst ev
     exact ⟨rv, ⟨V.ref Q.ae, H', I3, rfl, q3⟩⟩
   | next => exact False.elim Vd
   | brk => exact False.elim Vd
   | cont => exact False.elim Vd
theorem Rj (M : Mk X.K C f) (F : Q.bJ) (hr : ig (k + 1) X.A) (hg : Gl X x) (hm : X.mg x = some (.ref C)) (hb : Binds X.K fd ps ds) (hd : Vals KY ds) (hx : Passes CX X E)
   (ha : PA X Q.D t) (xZ : Q.B := by decide) (he : Q.Y := by rfl) (hpl : Q.as := by rfl) :
   PE X (.Call (.Name x p) Q.D [] pos) (ajA C sp KY E t) := by
 intro pins s σ H Q I h
 refine ato (By I hg hm ?_ xZ)
 refine PySem.W.callWith_K (h₀ := X.base) I.ok.mod.kin M.kp (gk Q.aK fun us s1 ⟨vs, H1, I1, r, q⟩ => ⟨I1.KG, ?_⟩) he hpl
 exact VH M F hr hb hd hx I1 r q
end
def PK (X : Cx) (kws : List Keyword) (t : TA) : Prop :=
 ∀ (pos : Pos) (pins : Q.v) (s : Shared) (σ : St) (H : Hp) (Q : List V -> Hp -> Prop), Inv X pins σ H s -> t σ H Q -> wpAny Q.o X.A (evalAll ((backToKw pos (keywordEach kws X.env)).map (·.2))) (AP X pins σ Q) X.xe s
variable {x : Str} {amm : Pos} {kws : List Keyword} {nm : Option Str}
theorem afy : PK X [] aaH := fun _ _ _ _ H Q I h => wpAny_evalAll_nil ⟨[], H, I, .nil, h⟩
theorem aaI (ha : PE X e te) (hr : PK X kws t) : PK X (⟨nm, e, amm⟩ :: kws) (VC te t) := by
 intro pos pins s σ H Q I h
 show wpAny _ _ (evalAll ((do let v ← eval e X.env; standAt pos; pure v) :: (backToKw pos (keywordEach kws X.env)).map (·.2))) _ _ s
 refine wpAny_evalAll_cons (arX (gk Q.aD fun u s1 ⟨x, H1, I1, r1, q1⟩ => arX (wpAny_standAt (asE ?_))))
 exact gk (hr pos pins s1 σ H1 _ I1 q1) fun us s2 ⟨xs, H2, I2, r2, q2⟩ => ⟨x :: xs, H2, I2, .cons r1 r2, q2⟩
structure aH (N P : Q.h) (sc : Scope) : Prop where
 kind : sc.kind = .function
 co : sc.isCoroutine = false
 gen : sc.isGenerator = false
 nd : N.Nodup
 pre : N.take P.length = P
 par : ∀ x ∈ P, sc.names.lookup x = some .local \/ sc.names.lookup x = some .cell
 afz : ∀ y ∈ sc.names, y.2 ≠ .free
theorem F2 {kindOf : Str -> Option NameKind} {x : Str} : ∀ {binds : List (Str × Value)} {m : Q.J}, (∀ v, (x, v) ∉ binds) -> bindL kindOf binds m x = m x
 | [], _, _ => rfl
 | (n, v) :: r, m, h => by
   unfold bindL
   rw [F2 fun w hw => h w (arO _ hw)]
   split
   . have : x ≠ n := by rintro rfl; exact h v arK
     simp [this]
   . rfl
theorem F3 {kindOf : Str -> Option NameKind} {x : Str} : ∀ {binds : List (Str × Value)} {m : Q.J}, (∀ v, (x, v) ∉ binds) -> bindC kindOf binds m x = m x
 | [], _, _ => rfl
 | (n, v) :: r, m, h => by
   unfold bindC
   rw [F3 fun w hw => h w (arO _ hw)]
   split
   . rfl
   . have : x ≠ n := by rintro rfl; exact h v arK
     simp [this]
theorem F4 {kindOf : Str -> Option NameKind} {x : Str} {v : Value} : ∀ {P : Q.h} {vs : Q.u} {i : Nat} {m : Q.J}, P.Nodup -> P[i]? = some x -> vs[i]? = some v -> kindOf x = some .local →
   bindL kindOf (P.zip vs) m x = some v
 | [], _, _, _, _, h, _, _ => by simp at h
 | _ :: _, [], _, _, _, _, h, _ => by simp at h
 | p :: P, w :: vs, 0, m, nd, h1, h2, hk => by
   simp at h1 h2; subst h1; subst h2
   show bindL kindOf ((p, w) :: P.zip vs) m p = _
   unfold bindL
   rw [F2 fun v hv => (as2.mp nd).1 (List.of_mem_zip hv).1, arU hk]
   simp
 | p :: P, w :: vs, i + 1, m, nd, h1, h2, hk => by
   show bindL kindOf ((p, w) :: P.zip vs) m x = _
   unfold bindL
   exact F4 (i := i) (List.nodup_cons.mp nd).2 (by simpa using h1) (by simpa using h2) hk
theorem F5 {kindOf : Str -> Option NameKind} {x : Str} {v : Value} : ∀ {P : Q.h} {vs : Q.u} {i : Nat} {m : Q.J}, P.Nodup -> P[i]? = some x -> vs[i]? = some v -> kindOf x ≠ some .local →
   bindC kindOf (P.zip vs) m x = some v
 | [], _, _, _, _, h, _, _ => by simp at h
 | _ :: _, [], _, _, _, _, h, _ => by simp at h
 | p :: P, w :: vs, 0, m, nd, h1, h2, hk => by
   simp at h1 h2; subst h1; subst h2
   show bindC kindOf ((p, w) :: P.zip vs) m p = _
   unfold bindC
   rw [F3 fun v hv => (as2.mp nd).1 (List.of_mem_zip hv).1, arS hk]
   simp
 | p :: P, w :: vs, i + 1, m, nd, h1, h2, hk => by
   show bindC kindOf ((p, w) :: P.zip vs) m x = _
   unfold bindC
   exact F5 (i := i) (List.nodup_cons.mp nd).2 (by simpa using h1) (by simpa using h2) hk
def start (N : Q.h) (vs : List V) : St := vs.map some ++ List.replicate (N.length - vs.length) none
def CY (CX : VD) (P : Program) (w : World) (K : Q.n) (mg : Q.J) (base : Heap) (N : Q.h) (qual : Str) (scope : Scope) (f : Addr) (cd : Value) (A : Around) (outer : List Env) (s : Shared) (H : Hp) (E : XK) : Cx where
 prog := P
 w := w
 K := K
 mg := mg
 base := base
 A := A.deeper (envOfC qual scope s.heap.objs.size f cd)
 N := N
 s₀ := s
 H₀ := H
 env := envOfC qual scope s.heap.objs.size f cd
 outer := outer
 stack := envOfC qual scope s.heap.objs.size f cd :: outer
 ex := []
 calm := true
 fn := fun _ => true
 pn := []
 xe := fun e s' => wpAny (model P w) (A.deeper (envOfC qual scope s.heap.objs.size f cd)) (leaving (envOfC qual scope s.heap.objs.size f cd) e) (fun _ s'' => CX outer H s E e s'') (fun e' s'' => CX outer H s E e' s'') s'
theorem KZ {sc : Scope} {n : Nat} (h : sc.names.lookup x = some .cell) : ∃ c, (cellsFrom n sc.names []).lookup x = some c := by
 have q := PySem.W.cellsFrom_some sc.names n [] (.inl h)
 exact Option.isSome_iff_exists.mp q
theorem Tg {N : Q.h} {qual : Str} {scope : Scope} {f : Addr} {cd : Value} {outer : List Env} {s1 : Shared} {E : XK} {vs : List V}
   (S : aH N ps scope) (hd : A.handled = none) (e0 : N9 P w K mg base A outer s H) (hl : vs.length = ps.length) (r : Vals vs us)
   (x : InCallC s s.heap.objs.size (bindL (envOfC qual scope s.heap.objs.size f cd).kindOf (ps.zip us) fun _ => none) (cellsFrom Q.ae scope.names []) (bindC (envOfC qual scope s.heap.objs.size f cd).kindOf (ps.zip us) fun _ => none) s1) :
   Inv (CY CX P w K mg base N qual scope f cd A outer s H E) [] (start N vs) H s1 := by
 have hpl : ps.length <= N.length := by have := congrArg List.length S.pre; rw [atm] at this; omega
 obtain ⟨h1, tk, rfl, hk⟩ := x.done
 have noA : ∀ b : Addr, b ∉ (CY CX P w K mg base N qual scope f cd A outer s H E).ex := fun b z => absurd (show b ∈ ([] : List Addr) from z) Q.p
 refine ⟨⟨e0.mod, S.kind, rfl, rfl, ar5 _, fun y z c h1 h2 => ?_, fun y hy => ?_, fun y c _ h => ?_, fun _ => hd, Around.frames_deeper e0.frames, .inr ⟨rfl, rfl⟩, fun b z => absurd z (noA b), e0.bs, e0.bsz, fun b _ _ => noA b, fun b z => absurd z (noA b), e0.Bh, e0.frf⟩,
   rfl, e0.bare, Un.kept hk, ⟨_, x.toInCall.ns, fun i y v h1 h2 h3 => ?_⟩, fun y c h => ⟨_, x.cell y c h⟩, e0.gX.fresh (ar5 _), fun y c h => ?_, fun p hp => absurd (show p ∈ ([] : List (Addr × Obj)) from hp) Q.p, e0.gX.kept hk, ?_⟩
 . exact name_of_addr x.apart (atj h1) (atj h2)
 . have hy : scope.names.lookup y = some .cell \/ scope.names.lookup y = some .free := hy
   rcases hy with hy | hy
   . exact KZ hy
   . exact absurd rfl (S.afz _ (atj hy))
 . exact asu (x.above y c (atj h))
 . have hi : i < vs.length := by
     unfold start at h2
     by_cases hi : i < vs.length
     . exact hi
     . rw [List.getElem?_append_right (by simpa using hi)] at h2
       rw [auj] at h2
       split at h2 <;> cases h2
   have ha : vs[i]? = some v := by
     unfold start at h2
     rw [List.getElem?_append_left (by simpa using hi), List.getElem?_map] at h2
     cases e : vs[i]? with
     | none => rw [e] at h2; cases h2
     | some a => rw [e] at h2; cases h2; rfl
   obtain ⟨u, hu, rv⟩ := r.get ha
   have hp : ps[i]? = some y := by
     rw [← S.pre, List.getElem?_take_of_lt Q.a]; exact h1
   have ndP : ps.Nodup := by rw [← S.pre]; exact S.nd.sublist (List.take_sublist _ _)
   refine ⟨u, rv, ?_⟩
   rcases S.par y (asT hp) with k | k
   . exact .inl ⟨k, F4 ndP hp hu k⟩
   . obtain ⟨c, e⟩ := KZ (n := s.heap.objs.size + 1) k
     refine .inr ⟨.inl k, c, e, ?_⟩
     have q := x.cell y c e
     rw [F5 ndP hp hu (by show scope.names.lookup y ≠ _; rw [k]; decide)] at q
     exact q
 . exact e0.gX.fresh (asu (x.above y c (atj h)))
 . unfold start
   show _ = N.length
   rw [arY, arL, asY]
   omega
theorem ajC {f : Addr} {qual : Str} {params : Arguments} {body : List Stmt} {scope : Scope} {dV kV doc pm mj ct oc : Value} {an od : Option Addr}
   {osl : Array (Option Value)} {N : Q.h} {sp : Sp} (lk : K.lookup f = some ⟨oc, od, .func (PySem.W.fnOf name qual params body scope dV kV doc pm an mj ct), osl⟩) (qS : PySem.W.codeIn K mj qual = true) (S : aH N ps scope)
   (len : ∀ vs H Q E, sp vs H Q E -> vs.length = ps.length)
   (VJ : ∀ (A : Around) (outer : List Env) (s : Shared) (H : Hp) (vs : List V) (Q : VK) (E : XK), ig k (A.deeper (envOfC qual scope s.heap.objs.size f mj)) -> sp vs H Q E →
     ∃ t, Ra (CY CX P w K mg base N qual scope f mj A outer s H E) body t /\ t { nx := fun _ H' => Q .non H', rt := Q } (start N vs) H) :
   iM P w K mg base CX (k + 1) f (PySem.W.fnOf name qual params body scope dV kV doc pm an mj ct) ps sp := by
 refine ⟨len, fun A outer s H args us vs Q E hr e0 hb r Ve => ?_⟩
 have hl := len _ _ _ _ Ve
 have KX : K.In s.heap := e0.mod.kin.keeps fun b o e => (e0.bs b o e).1
 have lim : s.heap.NoLimit := e0.mod.nolimit.keeps fun b o e => (e0.bs b o e).1
 have AI : ∀ y ∈ ps.zip us, scope.names.lookup y.1 = some .local \/ (scope.names.lookup y.1 = some .cell /\ ((cellsFrom Q.ae scope.names []).lookup y.1).isSome = true) := fun ⟨n, v⟩ hy => by
   rcases S.par n (List.of_mem_zip hy).1 with q | q
   . exact .inl q
   . exact .inr ⟨q, PySem.W.cellsFrom_some _ _ _ (.inl q)⟩
 refine codeAny_call_function hr.depth (KX _ _ lk) rfl S.co S.gen rfl (PySem.W.codeRec_of KX qS) (hb _ _ _ _ ?_)
 refine wpAny_newFunctionEnv_cells S.kind AI fun env he s1 x => ?_
 subst he
 refine ⟨lim.keeps x.toInCall.keep, codeAny_func ?_⟩
 obtain ⟨t, ht, hq⟩ := VJ A outer s H vs Q E (hr.deeper _) Ve
 have I : Inv (CY CX P w K mg base N qual scope f mj A outer s H E) [] (start N vs) H s1 := Tg S hr.hd e0 hl r x
 refine atD (ht [] s1 (start N vs) H _ I hq) (fun fl s' hs => ?_) fun e s' hs => hs
 have fin : ∀ {σ' : St} {H' : Hp} {v : V} {u : Value}, Inv (CY CX P w K mg base N qual scope f mj A outer s H E) [] σ' H' s' -> RelV v u -> Q v H' -> CE outer P w H s Q u s' :=
   fun {σ' H' v u} J rv q => ⟨v, H', J.os, J.bare, J.base, J.gX, rv, q⟩
 cases fl with
 | ret u =>
   obtain ⟨v, σ', H', J, rv, q⟩ := hs
   exact fin J rv q
 | next =>
   obtain ⟨σ', H', J, q⟩ := hs
   exact fin (v := V.non) (u := Value.none) J rfl q
 | brk =>
   obtain ⟨_, _, _, q⟩ := hs
   exact False.elim q
 | cont =>
   obtain ⟨_, _, _, q⟩ := hs
   exact False.elim q
section
variable {id T : String} {r : List V -> Hp -> VK -> Prop}
def tCB (r : List V -> Hp -> VK -> Prop) (t : TA) : TE := fun σ H Q => t σ H fun vs H1 => r vs H1 Q
theorem qo (hc : sX X (.builtin id) r) (hg : Gl X x) (hm : X.mg x = none) (hv : bootBuiltins x = some (.builtin id)) (ha : PA X Q.D t) (hn : x ≠ "__name__" := by decide) (xZ : Q.B := by decide)
   (he : Q.Y := by rfl) (hpl : Q.as := by rfl) : PE X (.Call (.Name x p) Q.D [] pos) (tCB r t) := by
 intro pins s σ H Q I h
 refine ato (nu I hg hm hv ?_ hn xZ)
 exact PyProof.Rows.callWith_builtin1 (gk Q.aK fun us s1 ⟨vs, H1, I1, r1, q1⟩ => hc pins s1 σ H1 vs us Q I1 r1 q1) he hpl
theorem qp (hc : sX X (.type T) r) (hg : Gl X x) (hm : X.mg x = none) (hv : bootBuiltins x = some (.type T)) (ha : PA X Q.D t) (hn : x ≠ "__name__" := by decide) (xZ : Q.B := by decide)
   (he : Q.Y := by rfl) (hpl : Q.as := by rfl) : PE X (.Call (.Name x p) Q.D [] pos) (tCB r t) := by
 intro pins s σ H Q I h
 refine ato (nu I hg hm hv ?_ hn xZ)
 exact asP (gk Q.aK fun us s1 ⟨vs, H1, I1, r1, q1⟩ => hc pins s1 σ H1 vs us Q I1 r1 q1) he hpl
end
end L2
namespace HT
open PySem PyProof.Rows
def z7 (n d : Nat) : Option Int -> Nat
 | none => d
 | some v => if v < 0 then (v + (n : Int)).toNat else min v.toNat n
end HT
namespace L2
open PySem PySem.Spec PyProof.Rows
abbrev TO := St -> Hp -> (Option Int -> Hp -> Prop) -> Prop
def PO (X : Cx) (e : Option Expr) (t : TO) : Prop :=
 ∀ (pins : Q.v) (s : Shared) (σ : St) (H : Hp) (Q : Option Int -> Hp -> Prop), Inv X pins σ H s -> t σ H Q →
   wpAny Q.o X.A (evalPart e X.env) (fun u s' => ∃ o H', Inv X pins σ H' s' /\ IsPart u o /\ Q o H') X.xe s
def aaK : TO := fun _ H Q => Q none H
def ajD (t : TE) : TO := fun σ H Q => t σ H fun x H1 => ∃ i, x = .int i /\ Q (some i) H1
theorem intsAre_of {ns : Q.b} : ∀ {us : Q.u}, Vals (ns.map V.int) us -> IntsAre us ns := by
 induction ns with
 | nil => intro us r; rw [aub] at r; cases r; exact .nil
 | cons n ns ih =>
   intro us r
   rw [asl] at r
   cases r with
   | cons r1 r2 =>
     obtain ⟨t, e⟩ := r1
     subst e
     exact .cons n t (ih r2)
variable {X : Cx} {e : Expr} {te : TE} {lo hi : Option Expr} {tl th : TO} {pos p2 : Pos}
theorem aaL : PO X none aaK := by
 intro pins s σ H Q I h
 rw [evalPart_none]
 exact asE ⟨none, H, I, .none, h⟩
theorem aaM (h : PE X e te) : PO X (some e) (ajD te) := by
 intro pins s σ H Q I hw
 rw [evalPart_some]
 refine gk (h pins s σ H _ I hw) fun u s1 zz => ?_
 obtain ⟨x, H1, I1, r1, q1⟩ := zz
 obtain ⟨i, rfl, q⟩ := q1
 obtain ⟨t, rfl⟩ := r1
 exact ⟨some i, H1, I1, .int i t, q⟩
def SlR (X : Cx) (r : V -> Option Int -> Option Int -> Hp -> VK -> Prop) : Prop :=
 ∀ (pins : Q.v) (s : Shared) (σ : St) (H : Hp) (x : V) (v vl vu : Value) (lo hi : Option Int) (sl : Addr) (Q : VK), Inv X pins σ H s -> RelV x v -> s.heap.IsSliceOf sl vl vu .none -> IsPart vl lo -> IsPart vu hi -> r x lo hi H Q →
   ∃ T id, typeLookup (.type T) "__getitem__" = pure (some (.builtin id)) /\ s.TypeIs v T /\ wpAny Q.o X.A (getItem v (.ref sl)) Q.ap X.xe s
def tSl (r : V -> Option Int -> Option Int -> Hp -> VK -> Prop) (te : TE) (tl th : TO) : TE := fun σ H Q => te σ H fun x H1 => tl σ H1 fun l H2 => th σ H2 fun u H3 => r x l u H3 Q
theorem VL {r : V -> Option Int -> Option Int -> Hp -> VK -> Prop} (hr : SlR X r) (he : PE X e te) (hl : PO X lo tl) (hu : PO X hi th) : PE X (.Subscript e (.Slice lo hi none p2) pos) (tSl r te tl th) := by
 intro pins s σ H Q I h
 refine Subscript_ (gk (he pins s σ H _ I h) fun v s1 zz => ?_)
 obtain ⟨x, H1, I1, r1, q1⟩ := zz
 refine wpAny_Slice (gk (hl pins s1 σ H1 _ I1 q1) fun vl s2 ⟨l, H2, I2, pl, q2⟩ => gk (hu pins s2 σ H2 _ I2 q2) fun vu s3 zz => ?_)
 obtain ⟨u, H3, I3, pu, q3⟩ := zz
 rw [evalPart_none]
 refine asE ?_
 have I4 : Inv X pins σ H3 { s3 with heap := s3.heap.push { cls := .type "slice", data := .fields #[vl, vu, .none] } } := I3.kept (t' := s3.toks) fun b ob q => ar4 _ q
 obtain ⟨T, id, hT, ht, hg⟩ := hr pins { s3 with heap := s3.heap.push { cls := .type "slice", data := .fields #[vl, vu, .none] } } σ H3 x v vl vu l u s3.heap.objs.size Q I4 r1 (Heap.IsSliceOf.new ..) pl pu q3
 show wpAny Q.o X.A (subscriptTail e (.Slice lo hi none p2) v (.ref s3.heap.objs.size)) Q.ap X.xe { s3 with heap := s3.heap.push { cls := .type "slice", data := .fields #[vl, vu, .none] } }
 exact tail_any (ops := [.ref s3.heap.objs.size, v]) ht hT hg (by with_unfolding_all rfl)
def Ti (xs : List V) (lo hi : Option Int) : List V := (xs.drop (HT.z7 xs.length 0 lo)).take (HT.z7 xs.length xs.length hi - HT.z7 xs.length 0 lo)
theorem K0 (xs : List V) (lo hi : Option Int) : (Ti xs lo hi).length <= xs.length := by
 unfold Ti
 rw [atm, List.length_drop]
 omega
def VM (n : Nat) (i : Int) : Option Nat := if 0 <= i then (if i < n then some i.toNat else none) else if -(n : Int) <= i then some (i + n).toNat else none
variable {α : Type}
def AJ (xs : List α) (i : Int) : Option α := (VM xs.length i).bind fun j => xs[j]?
variable {n : Nat}
theorem Hj {i : Int} {j : Nat} (h : VM n i = some j) : seqIndex? i n = some j /\ j < n /\ -(n : Int) <= i /\ i < n := by
 unfold VM at h
 by_cases h0 : 0 <= i
 . rw [arU h0] at h
   by_cases h1 : i < n
   . rw [arU h1] at h
     have e : i.toNat = j := asH h
     exact ⟨by rw [seqIndex_of h0 h1, e], by omega, by omega, h1⟩
   . rw [arS h1] at h; cases h
 . rw [arS h0] at h
   by_cases h1 : -(n : Int) <= i
   . rw [arU h1] at h
     have e : (i + n).toNat = j := asH h
     exact ⟨by rw [seqIndex_neg Q.a h1, e], by omega, h1, by omega⟩
   . rw [arS h1] at h; cases h
theorem Hl {xs : List α} {i : Int} {v : α} (h : AJ xs i = some v) : ∃ j, seqIndex? i xs.length = some j /\ xs[j]? = some v /\ j < xs.length /\ -(xs.length : Int) <= i /\ i < xs.length := by
 unfold AJ at h
 cases e : VM xs.length i with
 | none => rw [e] at h; cases h
 | some j =>
   rw [e] at h
   obtain ⟨h1, h2, h3, h4⟩ := Hj e
   exact ⟨j, h1, h, h2, h3, h4⟩
theorem cV {xs : List α} {j : Nat} {v : α} (h : xs[j]? = some v) : AJ xs (j : Int) = some v := by
 have hj : j < xs.length := (asp.mp h).1
 have e : VM xs.length (j : Int) = some j := by
   unfold VM
   rw [arU Q.a, arU Q.a]; simp
 unfold AJ; rw [e]; exact h
def uS (b : Expr) : Prop := ∀ o i, subscripted b false o i = operate [o, i] (getItem o i)
def IxR (X : Cx) (r : R2) : Prop :=
 ∀ (value slice : Expr) (pins : Q.v) (s : Shared) (σ : St) (H : Hp) (x y : V) (v u : Value) (Q : VK), Inv X pins σ H s -> RelV x v -> RelV y u -> r x y H Q →
   subscripted slice false v u = operate [v, u] (getItem v u) -> wpAny Q.o X.A (subscriptTail value slice v u) Q.ap X.xe s
def MtR (X : Cx) (id : String) (r : V -> List V -> Hp -> VK -> Prop) : Prop :=
 ∀ (pins : Q.v) (s : Shared) (σ : St) (H : Hp) (x : V) (xs : List V) (v : Value) (us : Q.u) (Q : VK), Inv X pins σ H s -> RelV x v -> Vals xs us -> r x xs H Q →
   wpAny Q.o X.A (call (.builtin id) (v :: us)) Q.ap X.xe s
section
variable {a b : Expr} {ta tb : TE}
theorem F6 {r : R2} (hr : IxR X r) (ha : PE X a ta) (hb : PE X b tb) (hs : uS b) : PE X (.Subscript a b pos) (tOp r ta tb) := by
 intro pins s σ H Q I h
 exact Subscript_ (afn ha hb I h fun v u s2 x y H2 I2 rx ry q => hr a b pins s2 σ H2 x y v u Q I2 rx ry q (hs _ _))
def amo (K : Q.n) : R2 := fun x y H Q => ∃ p xs i v, x = .ref p /\ y = .int i /\ qT K H p xs /\ AJ xs i = some v /\ Q v H
def amq (K : Q.n) : R2 := fun x y H Q => ∃ p xs i v, x = .ref p /\ y = .int i /\ xW K H p xs /\ AJ xs i = some v /\ Q v H
def amr : R2 := fun x y H Q => ∃ z i c, x = .str z /\ y = .int i /\ z.length <= sizeLine /\ AJ z.cps.toList i = some c /\ Q (.str ⟨#[c]⟩) H
theorem Rk : IxR X (amo X.K) := by
 intro value slice pins s σ H x y v u Q I rx ry h hs
 obtain ⟨p, xs, i, z, rfl, rfl, hq, he, q⟩ := h
 cases rx
 obtain ⟨t, rfl⟩ := ry
 obtain ⟨its, r, pl, hz⟩ := I.list hq
 obtain ⟨j, h1, h2, h3, h4, h5⟩ := Hl he
 obtain ⟨w, ew, rw'⟩ := r.get h2
 have hl := r.length
 have hn := wX
 have fin : EP X pins σ Q w s := ⟨z, H, I, rw', q⟩
 by_cases h0 : 0 <= i
 . have hj : i.toNat = j := by
     rw [seqIndex_of h0 h5] at h1
     exact asH h1
   exact item_listR pl.isList h0 Q.a (by rw [hj]; simpa using ew) fin hs
 . have hj : (i + (its.toArray.size : Int)).toNat = j := by
     rw [seqIndex_neg Q.a h4] at h1
     rw [ar7, ← hl]
     exact asH h1
   exact subscriptTail_builtinR (x := w) pl.isList.typeIs slot_list_getitem.lookup
     (wpAny_getItem_list_neg (Q := fun r s' => r = w /\ EP X pins σ Q r s') pl.isList Q.a (by rw [List.size_toArray] <;> omega) Q.a (by rw [hj]; simpa using ew) ⟨rfl, fin⟩) hs
theorem Oa : IxR X (amq X.K) := by
 intro value slice pins s σ H x y v u Q I rx ry h hs
 obtain ⟨p, xs, i, z, rfl, rfl, hq, he, q⟩ := h
 cases rx
 obtain ⟨t, rfl⟩ := ry
 obtain ⟨its, r, pl, hz⟩ := I.tuple hq
 obtain ⟨j, h1, h2, h3, h4, h5⟩ := Hl he
 obtain ⟨w, ew, rw'⟩ := r.get h2
 have hl := r.length
 have hn := wX
 have fin : EP X pins σ Q w s := ⟨z, H, I, rw', q⟩
 exact subscriptTail_builtinR (x := w) pl.typeIs slot_tuple_getitem.lookup
   (getItem_tuple (j := j) (Q := fun r s' => r = w /\ EP X pins σ Q r s') pl Q.a Q.a (by rw [List.size_toArray, ← hl]; exact h1) (by simpa using ew) ⟨rfl, fin⟩) hs
theorem afB : IxR X amr := by
 intro value slice pins s σ H x y v u Q I rx ry h hs
 obtain ⟨z, i, c, rfl, rfl, hz, he, q⟩ := h
 obtain ⟨t, rfl⟩ := rx
 obtain ⟨t', rfl⟩ := ry
 obtain ⟨j, h1, h2, h3, h4, h5⟩ := Hl he
 have hl : z.cps.toList.length = z.length := by simp [Str.length]
 rw [hl] at h1 h4 h5
 have hn := wX
 exact tail_any (typeIs_str s z t) slot_str_getitem.lookup (getItem_str (c := c) (by
   have e1 : decide (i < -(2 ^ 63 : Int)) = false := asi Q.a
   have e2 : decide (i ≥ 2 ^ 63) = false := asi Q.a
   rw [e1, e2, Bool.or_false]) (by rw [h1]; simpa using h2) ⟨.str ⟨#[c]⟩, H, I.tok _, ⟨_, rfl⟩, q⟩) hs
theorem Ob (its : Q.u) (n j : Nat) (u : Value) : Obj.mapSeq (·.setIfInBounds j u) { cls := .type "list", data := .seq its.toArray n } = { cls := .type "list", data := .seq (its.set j u).toArray n } := by
 simp [Obj.mapSeq]
theorem Inv.lst {pins : Q.v} {σ : St} {H : Hp} {s : Shared} {p : Addr} {xs : List V} (I : Q.q) (h : H p = some (.lst xs)) :
   ∃ (its : Q.u) (n : Nat), Vals xs its /\ s.heap.get? p = some { cls := .type "list", data := .seq its.toArray n } /\ xs.length <= sizeLine := by
 obtain ⟨z, its, n, r, e⟩ := I.gX p _ h
 exact ⟨its, n, r, e, z⟩
theorem Inv.afC {pins : Q.v} {σ : St} {H : Hp} {s : Shared} {p : Addr} {xs ys : List V} {its its' : Q.u} {n' : Nat} {f : Obj -> Obj} (I : Q.q) (h : H p = some (.lst xs))
   (ho : s.heap.get? p = some { cls := .type "list", data := .seq its.toArray n }) (hf : f { cls := .type "list", data := .seq its.toArray n } = { cls := .type "list", data := .seq its'.toArray n' }) (r : Vals ys its') (hz : ys.length <= sizeLine) (t : Nat) :
   Inv X pins σ (upd H p (.lst ys)) { s with heap := s.heap.update p f, toks := t } := by
 have e : (s.heap.update p f).get? p = some { cls := .type "list", data := .seq its'.toArray n' } := by
   rw [atp f ho (by rw [hf] <;> rfl), hf]
 refine I.write (x := p) (e := p) (by rw [h]; trivial) Q.F (fun b u hb q => (atk _ _ (att hb)).trans q) ⟨_, e⟩ ?_
 exact ⟨hz, its', n', r, e⟩
def ajE : V -> V -> V -> Hp -> (Hp -> Prop) -> Prop := fun o i v H Q => ∃ p xs k j, o = .ref p /\ i = .int k /\ H p = some (.lst xs) /\ VM xs.length k = some j /\ Q (upd H p (.lst (xs.set j v)))
theorem set_list : aji X ajE := by
 intro pins s σ H o i v ov iv u Q I ro ri rv h
 obtain ⟨p, xs, k, j, rfl, rfl, hp, hj, q⟩ := h
 cases ro
 obtain ⟨t, rfl⟩ := ri
 obtain ⟨its, n, r, ho, hz⟩ := I.lst hp
 obtain ⟨h1, h2, h3, h4⟩ := Hj hj
 have hl := r.length
 have hn := wX
 have I' : Inv X pins σ (upd H p (.lst (xs.set j v))) { s with heap := s.heap.update p (Obj.mapSeq (·.setIfInBounds j u)) } :=
   I.afC hp ho (Ob its n j u) (r.set rv j) (by rw [asU]; exact hz) s.toks
 by_cases h0 : 0 <= k
 . have hk : k.toNat = j := by
     rw [seqIndex_of h0 h4] at h1
     exact asH h1
   exact PySem.W.ki_setAt ho h0 Q.a (by rw [ar7, ← hl]; exact h4) (by rw [hk]; exact ⟨_, I', q⟩)
 . have hk : (k + (its.toArray.size : Int)).toNat = j := by
     rw [seqIndex_neg Q.a h3] at h1
     rw [ar7, ← hl]
     exact asH h1
   exact PySem.W.ki_setBack ho Q.a (by rw [ar7, ← hl]; exact h3) Q.a (by rw [hk]; exact ⟨_, I', q⟩)
theorem Ho (lo hi : Option Int) (n : Nat) : (sliceBounds lo hi none n).1 = ((HT.z7 n 0 lo : Nat) : Int) /\ (sliceBounds lo hi none n).2.1 = ((HT.z7 n n hi : Nat) : Int) /\ (sliceBounds lo hi none n).2.2 = 1 := by
 refine ⟨?_, ?_, rfl⟩
 . cases lo with
   | none => simp [sliceBounds, HT.z7]
   | some i =>
     simp only [sliceBounds, HT.z7, Option.getD_none, show (1 : Int) > 0 by decide, if_true]
     by_cases h : i < 0
     . simp only [h, if_true] <;> omega
     . simp only [h, if_false] <;> omega
 . cases hi with
   | none => simp [sliceBounds, HT.z7]
   | some i =>
     simp only [sliceBounds, HT.z7, Option.getD_none, show (1 : Int) > 0 by decide, if_true]
     by_cases h : i < 0
     . simp only [h, if_true] <;> omega
     . simp only [h, if_false] <;> omega
theorem EH (its : Q.u) (lo hi : Option Int) : slicePick its.toArray lo hi none = ((its.drop (HT.z7 its.length 0 lo)).take (HT.z7 its.length its.length hi - HT.z7 its.length 0 lo)).toArray := by
 obtain ⟨h1, h2, h3⟩ := Ho lo hi its.toArray.size
 unfold slicePick
 rw [h1, h2, h3]
 simp only [sliceRange_one, pick_run, ar7] <;> rfl
def ams (K : Q.n) : V -> Option Int -> Option Int -> Hp -> VK -> Prop := fun x lo hi H Q => ∃ a xs, x = .ref a /\ qT K H a xs /\ ∀ p, H p = none -> Q (.ref p) (upd H p (.lst (Ti xs lo hi)))
theorem aaN : SlR X (ams X.K) := by
 intro pins s σ H x v vl vu lo hi sl Q I rx hs pl pu h
 obtain ⟨a, xs, rfl, hx, q⟩ := h
 cases rx
 obtain ⟨its, r, ht, hz⟩ := I.list hx
 have hlen := r.length
 refine ⟨"list", _, slot_list_getitem.lookup, ht.isList.typeIs, ?_⟩
 refine wpAny_getItem_list_slice ht.isList hs pl pu .none Q.p ?_ (by rw [ar7] <;> omega)
 rw [EH, ← hlen]
 refine ⟨.ref s.heap.objs.size, _, I.laid (t' := s.toks) (o := .lst (Ti xs lo hi)) (fun b ob q => ar4 _ q) (ar5 _) ?_, rfl, q _ (I.gX.fresh (ar5 _))⟩
 exact ⟨asD (K0 xs lo hi) hz, _, 0, (r.drop (HT.z7 xs.length 0 lo)).take (HT.z7 xs.length xs.length hi - HT.z7 xs.length 0 lo), asC _ rfl⟩
def wC : V -> Bool
 | .non => true
 | .bl _ => true
 | .int _ => true
 | .str _ => true
 | _ => false
def VN : V -> V -> Bool
 | .non, .non => true
 | .bl a, .bl b => a == b
 | .bl a, .int b => (if a then 1 else 0) == b
 | .int a, .bl b => a == (if b then 1 else 0)
 | .int a, .int b => a == b
 | .str a, .str b => a == b
 | _, _ => false
theorem afD {A : Around} {s : Shared} {y x : V} {u v : Value} (ry : RelV y u) (rx : RelV x v) (fy : wC y = true) (fx : wC x = true) : SeqAt.EqAt A s u v (VN y x) := by
 cases y with
 | non =>
   cases ry
   cases x with
   | non => cases rx; exact SeqAt.EqAt.same _
   | bl b => cases rx; exact SeqAt.EqAt.none_bool b
   | int b => obtain ⟨t, rfl⟩ := rx; exact SeqAt.EqAt.none_int b t
   | str b => obtain ⟨t, rfl⟩ := rx; exact SeqAt.EqAt.none_str b t
   | _ => exact absurd (show false = true from fx) ar6
 | bl a =>
   cases ry
   cases x with
   | non => cases rx; exact SeqAt.EqAt.bool_none a
   | bl b => cases rx; exact SeqAt.EqAt.bool_bool a b
   | int b => obtain ⟨t, rfl⟩ := rx; exact SeqAt.EqAt.bool_int a b t
   | str b => obtain ⟨t, rfl⟩ := rx; exact SeqAt.EqAt.bool_str a b t
   | _ => exact absurd (show false = true from fx) ar6
 | int a =>
   obtain ⟨t', rfl⟩ := ry
   cases x with
   | non => cases rx; exact SeqAt.EqAt.int_none a t'
   | bl b => cases rx; exact SeqAt.EqAt.int_bool a t' b
   | int b => obtain ⟨t, rfl⟩ := rx; exact SeqAt.EqAt.int_int a t' b t
   | str b => obtain ⟨t, rfl⟩ := rx; exact SeqAt.EqAt.int_str a t' b t
   | _ => exact absurd (show false = true from fx) ar6
 | str a =>
   obtain ⟨t', rfl⟩ := ry
   cases x with
   | non => cases rx; exact SeqAt.EqAt.str_none a t'
   | bl b => cases rx; exact SeqAt.EqAt.str_bool a t' b
   | int b => obtain ⟨t, rfl⟩ := rx; exact SeqAt.EqAt.str_int a t' b t
   | str b => obtain ⟨t, rfl⟩ := rx; exact SeqAt.EqAt.str_str a t' b t
   | _ => exact absurd (show false = true from fx) ar6
 | _ => exact absurd (show false = true from fy) ar6
def Oc (x : V) (u : Value) : Bool := match u with
 | .none => VN .non x
 | .bool b => VN (.bl b) x
 | .int i _ => VN (.int i) x
 | .str z _ => VN (.str z) x
 | _ => false
theorem VP {x y : V} {u : Value} (r : RelV y u) (f : wC y = true) : Oc x u = VN y x := by
 cases y with
 | non => cases r; rfl
 | bl b => cases r; rfl
 | int i => obtain ⟨t, rfl⟩ := r; rfl
 | str z => obtain ⟨t, rfl⟩ := r; rfl
 | _ => exact absurd (show false = true from f) ar6
theorem x6 {x : V} : ∀ {xs : List V} {us : Q.u}, Vals xs us -> xs.all wC = true -> us.any (Oc x) = xs.any fun y => VN y x
 | _, _, .nil, _ => rfl
 | y :: xs, u :: us, .cons r t, f => by
   rw [List.all_cons, asa] at f
   rw [aup, aup, VP r f.1, x6 t f.2]
theorem sZ {A : Around} {s : Shared} {x : V} {v : Value} (rx : RelV x v) (fx : wC x = true) : ∀ {xs : List V} {us : Q.u}, Vals xs us -> xs.all wC = true -> ∀ u ∈ us, SeqAt.EqAt A s u v (Oc x u)
 | _, _, .nil, _ => fun u hu => by cases hu
 | y :: xs, u :: us, .cons r t, f => fun u' hu => by
   rw [List.all_cons, asa] at f
   rcases arP.mp hu with rfl | hu
   . rw [VP r f.1]; exact afD r rx f.1 fx
   . exact sZ rx fx t f.2 u' hu
def inV (x : V) (xs : List V) : Bool := xs.any fun y => VN y x
def rIn (K : Q.n) (neg : Bool) : R2 := fun x y H Q => ∃ p xs, y = .ref p /\ (qT K H p xs \/ xW K H p xs) /\ wC x = true /\ xs.all wC = true /\ Q (.bl (if neg then !inV x xs else inV x xs)) H
theorem uT : Bk X (compareOp .In) (rIn X.K false) := by
 intro pins s σ H x y v u Q I rx ry h
 obtain ⟨p, xs, rfl, hq, fx, fs, q⟩ := h
 cases ry
 rcases hq with hq | hq
 . obtain ⟨its, r, pl, hz⟩ := I.list hq
   refine SeqAt.in_listAt (Oc x) pl.isList Q.bR ⟨.bl _, H, I, rfl, ?_⟩
   rw [show its.toArray.any (Oc x) = its.any (Oc x) by simp, x6 r fs]
   exact q
 . obtain ⟨its, r, pl, hz⟩ := I.tuple hq
   refine SeqAt.in_tupleAt (Oc x) pl Q.bR ⟨.bl _, H, I, rfl, ?_⟩
   rw [show its.toArray.any (Oc x) = its.any (Oc x) by simp, x6 r fs]
   exact q
theorem mH : Bk X (compareOp .NotIn) (rIn X.K true) := by
 intro pins s σ H x y v u Q I rx ry h
 obtain ⟨p, xs, rfl, hq, fx, fs, q⟩ := h
 cases ry
 rcases hq with hq | hq
 . obtain ⟨its, r, pl, hz⟩ := I.list hq
   refine SeqAt.notIn_listAt (Oc x) pl.isList Q.bR ⟨.bl _, H, I, rfl, ?_⟩
   rw [show its.toArray.any (Oc x) = its.any (Oc x) by simp, x6 r fs]
   exact q
 . obtain ⟨its, r, pl, hz⟩ := I.tuple hq
   refine SeqAt.notIn_tupleAt (Oc x) pl Q.bR ⟨.bl _, H, I, rfl, ?_⟩
   rw [show its.toArray.any (Oc x) = its.any (Oc x) by simp, x6 r fs]
   exact q
theorem x8 : sX X (.builtin "len") (fun xs H Q => ∃ p ys, xs = [.ref p] /\ (qT X.K H p ys \/ xW X.K H p ys) /\ Q (.int ys.length) H) := by
 intro pins s σ H xs us Q I r h
 obtain ⟨p, ys, rfl, hq, q⟩ := h
 obtain ⟨u, rfl, rx⟩ := vals1 r
 cases rx
 have hn := wX
 rcases hq with hq | hq
 . obtain ⟨its, r', pl, hz⟩ := I.list hq
   have hlen := r'.length
   exact Calls.call_len_list pl.isList (by simp only [ar7] <;> omega) ⟨.int ys.length, H, I.tok _, ⟨s.toks + 1, by rw [ar7, hlen]⟩, q⟩
 . obtain ⟨its, r', pl, hz⟩ := I.tuple hq
   have hlen := r'.length
   exact len_tuple pl (by simp only [ar7] <;> omega) ⟨.int ys.length, H, I.tok _, ⟨s.toks + 1, by rw [ar7, hlen]⟩, q⟩
theorem x9 : sX X (.type "list") (fun xs H Q => ∃ p ys, xs = [.ref p] /\ (qT X.K H p ys \/ xW X.K H p ys) /\ ∀ l, H l = none -> Q (.ref l) (upd H l (.lst ys))) := by
 intro pins s σ H xs us Q I r h
 obtain ⟨p, ys, rfl, hq, q⟩ := h
 obtain ⟨u, rfl, rx⟩ := vals1 r
 cases rx
 have fin : ∀ (its : Q.u), Vals ys its -> ys.length <= sizeLine -> ∀ (h' : Heap) (c' : Nat), (∀ b o', s.heap.get? b = some o' -> h'.get? b = some o') →
     h'.get? s.heap.objs.size = some { cls := .type "list", dict := none, data := .seq its.toArray c', slots := #[] } -> EP X pins σ Q Q.bf { s with heap := h' } := fun its r' hz h' c' kp e =>
   ⟨.ref s.heap.objs.size, _, I.laid (t' := s.toks) kp (ar5 _) (show kG X.prog X.w _ h' _ (.lst ys) from ⟨hz, its, c', r', e⟩), rfl, q _ (I.gX.fresh (ar5 _))⟩
 rcases hq with hq | hq
 . obtain ⟨its, r', pl, hz⟩ := I.list hq
   have hlen := r'.length
   obtain ⟨o, ho, hc, n, hd⟩ := pl.isList
   exact call_list_seq p Q.F ho hc hd (fun h' c' kp e => fin its r' hz h' c' kp e) (by simp only [ar7] <;> omega)
 . obtain ⟨its, r', pl, hz⟩ := I.tuple hq
   have hlen := r'.length
   obtain ⟨o, ho, hc, n, hd⟩ := pl
   exact call_list_seq p (.inr rfl) ho hc hd (fun h' c' kp e => fin its r' hz h' c' kp e) (by simp only [ar7] <;> omega)
theorem EI : sX X (.type "tuple") (fun xs H Q => ∃ p ys, xs = [.ref p] /\ ((qT X.K H p ys /\ ∀ l, H l = none -> Q (.ref l) (upd H l (.tup ys))) \/ (xW X.K H p ys /\ Q (.ref p) H))) := by
 intro pins s σ H xs us Q I r h
 obtain ⟨p, ys, rfl, h⟩ := h
 obtain ⟨u, rfl, rx⟩ := vals1 r
 cases rx
 rcases h with ⟨hq, q⟩ | ⟨hq, q⟩
 . obtain ⟨its, r', pl, hz⟩ := I.list hq
   have hlen := r'.length
   refine call_tuple_list pl.isList (fun h' kp => ?_) (by simp only [ar7] <;> omega)
   have I1 : Inv X pins σ H { s with heap := h' } := I.kept (t' := s.toks) kp
   have I2 : Inv X pins σ (upd H h'.objs.size (.tup ys)) { s with heap := h'.push { cls := .type "tuple", data := .seq its.toArray } } :=
     I1.laid (t' := s.toks) (fun b o e => ar4 _ e) (ar5 _) (show kG X.prog X.w _ _ _ (.tup ys) from ⟨hz, its, r', IsTup.new _ _⟩)
   exact ⟨.ref h'.objs.size, _, I2, rfl, q _ (I1.gX.fresh (ar5 _))⟩
 . obtain ⟨its, r', pl, hz⟩ := I.tuple hq
   exact call_tuple_same pl ⟨.ref p, H, I, rfl, q⟩
def tyV (K : Q.n) (T : String) (x : V) (H : Hp) : Prop := match x with
 | .str _ => T = "str"
 | .int _ => T = "int"
 | .ref p => (T = "list" /\ ∃ xs, qT K H p xs) \/ (T = "tuple" /\ ∃ o, K.lookup p = some o /\ o.cls = .type "tuple" /\ o.dict = none) ∨
     (T = "dict" /\ ((∃ ql, H p = some (.dK ql)) \/ ∃ ql, H p = some (.dT ql))) \/ (T = "set" /\ ∃ S n, H p = some (.set S n))
 | _ => False
theorem afE {pins : Q.v} {σ : St} {H : Hp} {s : Shared} {T : String} {x : V} {v : Value} (I : Q.q) (r : RelV x v) (ty : tyV X.K T x H) :
   s.TypeIs v T /\ ∀ a, v = .ref a -> ∃ ob, s.heap.get? a = some ob /\ ob.dict = none := by
 cases x with
 | str z =>
   obtain ⟨t, rfl⟩ := r
   cases (show T = "str" from ty)
   exact ⟨typeIs_str s z t, fun _ e => nomatch e⟩
 | int i =>
   obtain ⟨t, rfl⟩ := r
   cases (show T = "int" from ty)
   exact ⟨typeIs_int s i t, fun _ e => nomatch e⟩
 | ref p =>
   cases r
   rcases ty with ⟨rfl, xs, hq⟩ | ⟨rfl, o, hk, hc, hd⟩ | ⟨rfl, hk⟩ | ⟨rfl, S, n, hk⟩
   . obtain ⟨its, _, pl, _⟩ := I.list hq
     refine ⟨pl.isList.typeIs, fun a e => ?_⟩
     cases e
     obtain ⟨o, n, e, c, hd, _⟩ := pl
     exact ⟨o, e, hd⟩
   . refine ⟨⟨o, I.KG p o hk, hc⟩, fun a e => ?_⟩
     cases e
     exact ⟨o, I.KG _ o hk, hd⟩
   . have z : ∃ o, s.heap.get? p = some o /\ o.ExactDict := by
       rcases hk with ⟨ql, hk⟩ | ⟨ql, hk⟩
       . obtain ⟨_, _, _, _, o, _, _, e, ex, _⟩ := I.gX p _ hk
         exact ⟨o, e, ex⟩
       . obtain ⟨_, _, _, _, o, _, _, e, ex, _⟩ := I.gX p _ hk
         exact ⟨o, e, ex⟩
     obtain ⟨o, e, ex⟩ := z
     refine ⟨⟨o, e, ex.1⟩, fun a e2 => ?_⟩
     cases e2
     exact ⟨o, e, ex.2.1⟩
   . obtain ⟨o, _, _, _, e, ex, _⟩ := I.gX p _ hk
     refine ⟨⟨o, e, ex.1⟩, fun a e2 => ?_⟩
     cases e2
     exact ⟨o, e, ex.2.1⟩
 | _ => exact False.elim ty
def tBM (K : Q.n) (T : String) (r : V -> List V -> Hp -> VK -> Prop) (to : TE) (t : TA) : TE := fun σ H Q => to σ H fun x H1 => tyV K T x H1 /\ t σ H1 fun xs H2 => r x xs H2 Q
variable {o : Expr} {es : List Expr} {to : TE} {t : TA} {name : Str} {apos Od : Pos} {T id : String} {r : V -> List V -> Hp -> VK -> Prop}
theorem Rl (pa : PlainAttrs T) (slot : Slot T name id) (hty : typeOf (.builtin id) = pure (.type "method_descriptor")) (hm : MtR X id r) (ho : PE X o to) (ha : PA X Q.D t)
   (qq : attributeBase o name X.env (eval o X.env) = eval o X.env := by rfl)
   (CZ : ((backTo Od (starEach Q.D X.env)).all (fun x => !x.1) && (backToKw Od (keywordEach [] X.env)).all (fun x => x.1.isSome)
     && decide ((e :: es).length + ([] : List Keyword).length + (if ([] : List Keyword).isEmpty then 0 else 1) < 30)) = true := by rfl)
   (hline : (apos.endLine == Od.line) = true := by rfl) (hs : Q.Y := by rfl) (afF : (backTo Od (starEach es X.env)).any (·.1) = false := by rfl) :
   PE X (.Call (.Attribute o name apos) Q.D [] Od) (tBM X.K T r to t) := by
 intro pins s σ H Q I h
 refine wpAny_Call_method_late qq CZ hline rfl (gk (ho pins s σ H _ I h) fun v s1 zz => ?_)
 obtain ⟨x, H1, I1, r1, ty, q1⟩ := zz
 obtain ⟨h1, h2⟩ := afE I1 r1 ty
 refine ⟨T, id, pa, slot, hty, h1, h2, ?_⟩
 have hA := ha Od pins s1 σ H1 _ I1 q1
 rw [hs] at hA ⊢
 refine Calls.callWith_builtin (by show (false || (backTo Od (starEach es X.env)).any (·.1)) = false; rw [afF] <;> rfl) (Calls.evalArgs_plain ?_)
 exact gk hA fun us s2 ⟨vs, H2, I2, r2, q2⟩ => hm pins s2 σ H2 x vs v us Q I2 r1 r2 q2
end
def MtM (X : Cx) (id : String) (r : V -> List V -> Hp -> VK -> Prop) : Prop :=
 ∀ (pins : Q.v) (s : Shared) (σ : St) (H : Hp) (x : V) (xs : List V) (v : Value) (us : Q.u) (Q : VK), Inv X pins σ H s -> RelV x v -> Vals xs us -> r x xs H Q →
   wpAny Q.o X.A (call (.builtin id) (v :: us)) Q.ap X.xe s
variable {x : V}
theorem Vals.one {us : Q.u} (h : Vals [x] us) : ∃ u, us = [u] /\ RelV x u := by
 cases h with
 | cons r h => cases h; exact ⟨_, rfl, r⟩
theorem Vals.two {y : V} {us : Q.u} (h : Vals [x, y] us) : ∃ u v, us = [u, v] /\ RelV x u /\ RelV y v := by
 cases h with
 | cons r h => cases h with
   | cons q h => cases h; exact ⟨_, _, rfl, r, q⟩
theorem Vals.rep {xs : List V} {us : Q.u} (h : Vals xs us) : ∀ k : Nat, Vals (List.replicate k xs).flatten (List.replicate k us).flatten
 | 0 => .nil
 | k + 1 => by
   rw [as7, as7, atu, atu]
   exact Vals.append h (Vals.rep h k)
theorem foldl_rep (its : Q.u) : ∀ (k : Nat) (acc : Q.u),
   List.foldl (fun x1 x2 => x1 ++ x2) acc.toArray (List.replicate k its.toArray) = (acc ++ (List.replicate k its).flatten).toArray
 | 0, acc => by simp
 | k + 1, acc => by
   have e : acc.toArray ++ its.toArray = (acc ++ its).toArray := by simp
   have e2 : (acc ++ its) ++ (List.replicate k its).flatten = acc ++ (List.replicate (k + 1) its).flatten := by
     rw [as7, atu, arR]
   rw [← e2, ← foldl_rep its k (acc ++ its), ← e, as7, atb]
variable {pins : Q.v} {σ : St} {H : Hp} {s : Shared} {l : Addr} {xs ys : List V}
theorem Inv.aaO {its its' : Q.u} {f : Array Value -> Array Value} {t' : Nat} (I : Q.q) (hH : H l = some (.lst xs))
   (e : s.heap.get? l = some { cls := .type "list", data := .seq its.toArray n }) (hf : f its.toArray = its'.toArray) (hv : Vals ys its') (hz : ys.length <= sizeLine) :
   Inv X pins σ (upd H l (.lst ys)) { s with heap := s.heap.update l (Obj.mapSeq f), toks := t' } := by
 have q := PySem.IsL.update e f
 rw [hf] at q
 refine I.write (x := l) (e := l) (by rw [hH]; exact trivial) Q.F (fun b' u hb hu => (atk s.heap (Obj.mapSeq f) (att hb)).trans hu) ⟨_, q⟩ ?_
 exact ⟨hz, its', _, hv, q⟩
theorem Inv.ajF {its : Q.u} {t' : Nat} (I : Q.q) (hv : Vals ys its) (hz : ys.length <= sizeLine) :
   Inv X pins σ (upd H s.heap.objs.size (.lst ys)) { s with heap := s.heap.push { cls := .type "list", data := .seq its.toArray }, toks := t' } :=
 I.laid (fun _ _ q => ar4 _ q) (ar5 _) ⟨hz, its, 0, hv, asC _ rfl⟩
theorem Inv.fresh (I : Q.q) : H s.heap.objs.size = none := I.gX.fresh (ar5 _)
theorem Inv.VQ (I : Q.q) (hH : H l = some (.lst xs)) : xs.length <= sizeLine /\ ∃ (its : Q.u) (n : Nat), Vals xs its /\ xs.length = its.length /\ s.heap.get? l = some { cls := .type "list", data := .seq its.toArray n } := by
 obtain ⟨z, its, n, r, e⟩ := I.gX l _ hH
 exact ⟨z, its, n, r, r.length, e⟩
theorem yb (h : n <= sizeLine) : Builtin.List.listTooLong n = false := by
 unfold Builtin.List.listTooLong
 exact asi Q.a
def aaP : V -> List V -> Hp -> VK -> Prop := fun x vs H Q => ∃ l xs y, x = .ref l /\ vs = [y] /\ H l = some (.lst xs) /\ xs.length < sizeLine /\ Q .non (upd H l (.lst (xs ++ [y])))
theorem F7 : MtM X "list.append" aaP := by
 intro pins s σ H x vs v us Q I rx rv h
 obtain ⟨l, xs, y, rfl, rfl, hH, hz, q⟩ := h
 cases rx
 obtain ⟨u, rfl, ru⟩ := rv.one
 obtain ⟨z, its, n, r, hl, e⟩ := I.VQ hH
 refine call_meets F.slot_list_append ⟨_, e, rfl⟩ F.entry_list_append (F.args_list_append_2 _ _) (PySem.list_append l its.toArray n u (by rw [ar7]; omega)) ⟨e, ?_⟩
 refine ⟨.non, _, I.aaO (its' := its ++ [u]) hH e Q.p (r.append (.cons ru .nil)) ?_, rfl, q⟩
 rw [arY, as9]
 omega
def aaQ : V -> List V -> Hp -> VK -> Prop := fun x vs H Q => ∃ l b xs zs, x = .ref l /\ vs = [.ref b] /\ H l = some (.lst xs) /\ H b = some (.lst zs) /\ xs.length + zs.length <= sizeLine /\ Q .non (upd H l (.lst (xs ++ zs)))
theorem Tj : MtM X "list.extend" aaQ := by
 intro pins s σ H x vs v us Q I rx rv h
 obtain ⟨l, b, xs, zs, rfl, rfl, hH, hB, hz, q⟩ := h
 cases rx
 obtain ⟨u, rfl, ru⟩ := rv.one
 cases ru
 obtain ⟨z, its, n, r, hl, e⟩ := I.VQ hH
 obtain ⟨z2, sU, n2, r2, hl2, e2⟩ := I.VQ hB
 have Vc : its.toArray.size + sU.toArray.size <= sizeLine := by rw [ar7, ar7]; omega
 have C1 : ¬ (!its.toArray.isEmpty && Builtin.List.listTooLong (its.toArray.size + sU.toArray.size)) = true := by
   rw [yb Vc, atW]
   exact ar6
 refine call_meets F.slot_list_extend ⟨_, e, rfl⟩ F.entry_list_extend (F.args_list_extend_2 _ _)
   (AutoSeq1.list_extend_list_list_0 l its.toArray n b sU.toArray n2 C1 (by rw [ar7]; omega) Q.a) ⟨e, e2, ?_⟩
 refine ⟨.non, _, I.aaO (its' := its ++ sU) hH e Q.p (r.append r2) ?_, rfl, q⟩
 rw [arY]
 omega
theorem len_rep (xs : List α) (k : Nat) : (List.replicate k xs).flatten.length = k * xs.length := by
 induction k with
 | zero => simp
 | succ k ih => rw [as7, atu, arY, ih, Nat.succ_mul, Nat.add_comm]
end L2
namespace Att
open PySem PySem.W PySem.Calls PyProof.Rows
theorem Bl {P : Params} {h : Heap} : ∀ (ns : Q.b) (vs : Q.u), WellAll P h vs (ns.map WData.int) -> IntsAre vs ns := by
 intro ns
 induction ns with
 | nil =>
   intro vs w
   rw [List.map_nil] at w
   cases w
   exact .nil
 | cons n ns ih =>
   intro vs w
   rw [List.map_cons] at w
   cases w with
   | cons a b =>
     cases a
     exact .cons _ _ (ih _ b)
theorem Tp {l : OpenLaw} {n : Nat} (hn : l.most = some n) {P : Params} {h : Heap} {args : List WData} {vals : Q.u}
   (Bm : l.row.toRowW.claim.pre args = true) (Vf : WellAll P h vals args) :
   ∃ a vs ns, vals = [Value.ref a] /\ args = [WData.list (ns.map WData.int)] /\ h.get? a = some { cls := .type "list", data := .seq vs.toArray } /\ IntsAre vs ns /\ ns.length <= n := by
 have hsh : WShape.hasAll [] args [.list .int] = true := (pre_splitW Bm).1
 have hc : l.pre.holds [] { args := args } = true := (pre_splitW Bm).2
 obtain ⟨d, r, rfl, h1, h2⟩ := hasAllW_cons hsh
 obtain rfl := hasAllW_nil h2
 obtain ⟨xs, rfl, h3⟩ := hasW_list h1
 obtain ⟨ns, rfl⟩ := items_int h3
 have hlen : ns.length <= n := by
   unfold OpenLaw.pre at hc
   have h4 : (WTm.not (.lt (.lit (.int (n : Int))) (.len (.arg 0)))).holds [] { args := [.list (ns.map .int)] } = true := by
     have h4 := (holds_andW hc).1
     rw [hn] at h4
     exact h4
   have h5 := condW_of h4 (w_not (w_lt w_lit (w_len_list (w_arg rfl))))
   rw [List.length_map] at h5
   refine Nat.le_of_not_lt fun q => ?_
   have q' : (n : Int) < ((ns.length : Nat) : Int) := by omega
   first
     | (rw [decide_eq_true q'] at h5; exact absurd h5 (by decide))
     | (simp at h5; omega)
 cases Vf with
 | cons w1 w2 =>
   cases w2
   cases w1 with
   | list ho K1 => exact ⟨_, _, ns, rfl, rfl, ho, Bl ns _ K1, hlen⟩
theorem Tq (l : OpenLaw) (args : List WData) : l.row.toRowW.claim.post args (.bool true) args = true :=
 postW_of (r := l.row.toRowW) (X := (true == true))
   (show WShape.has [] (.bool true) .bool = true by first | rfl | decide | simp [WShape.has, WShape.arms, WShape.armsAll])
   (show (WTm.eq .res (.lit (.bool true))).value [] { args := args, res := some (.bool true), after := args } = some (.bool (true == true)) from w_eq_bool (w_res rfl) w_lit) rfl
theorem K2 {l : OpenLaw} {n : Nat} {q : Program} {loose : Q.h} {XP : Q.J -> Heap -> Prop} {YP : World -> Heap -> Prop} {d : DefRec}
   (hn : l.most = some n) (hdf : d.params.defaults = [])
   (call : ∀ (w : World) (s₀ s₁ : Shared) (mg mb : Q.J) (fa : Addr) (o : Obj) (pm cd doc : Value) (a : Addr) (vs : Q.u) (ns : Q.b),
     Ground q loose [] XP w s₀ mg mb s₁.heap -> YP w s₁.heap →
     s₁.heap.get? fa = some o -> o.data = .func (docDef d.name d.params d.body d.scope pm cd doc) -> s₁.heap.CodeRec cd d.name -> mg d.name = some (.ref fa) →
     s₁.heap.get? a = some { cls := .type "list", data := .seq vs.toArray } -> IntsAre vs ns -> ns.length <= n -> s₁.gens = #[] →
     codeAny (model l.prog w) callerA (.call (.ref fa) ⟨[.ref a], []⟩) Q.bX s₁) :
   WalkO q loose XP YP l.row.toRowW d [] (fun f vs => PySem.call f vs) := by
 intro w s₀ s₁ mg mb G Y fa o pm cd doc dV kV ho hd qS hD hmg hg args vals as Bm hlay hrd Vf hlo
 obtain rfl : dV = .none := Dflts.none hD hdf
 obtain rfl : kV = .none := Dflts.noKw hD
 obtain ⟨a, vs, ns, rfl, rfl, afG, hints, hlen⟩ := Tp hn Bm Vf
 refine enter_call (codeAny_mono (call w s₀ s₁ mg mb fa o pm cd doc a vs ns G Y ho (fd_plain hd) qS hmg afG hints hlen hg) fun r s' hq => ?_)
 obtain ⟨rfl, h2, h3, h4⟩ := hq
 exact ⟨.inl ⟨.bool true, .bool true, [], rfl, fun _ => rfl, .bool true, Tq l _, fun _ => ⟨List.Pairwise.nil, fun _ hm => (nomatch hm)⟩⟩, h2, h3, h4⟩
def ledger (h : Heap) (L d : Addr) : List (Addr × Obj) := (List.range h.objs.size).filterMap fun a => if a = L \/ a = d then none else (h.get? a).map fun o => (a, o)
end Att
namespace L2
open PySem PySem.Spec PyProof.Rows
theorem F8 : ∀ {vs : Q.u} {ns : Q.b}, IntsAre vs ns -> Vals (ns.map V.int) vs
 | _, _, .nil => .nil
 | _, _, .cons n t h => .cons ⟨t, rfl⟩ (F8 h)
def Only (H : Hp) : Prop := ∀ b, H b = none \/ ∃ o xs, H b = some (.dJ o (.lst xs))
variable {x : Str}
theorem VR {P : Program} {w : World} {K : Q.n} {mg mb : Q.J} {CX : VD} {k : Nat} {fa a : Addr} {fd : FuncData} {sp : Sp} {s₁ : Shared} {vs : Q.u} {ns : Q.b}
   (KX : K.In s₁.heap) (hns : s₁.heap.Ns mainGlobals mg) (hb : s₁.heap.Ns builtinsNs mb) (hbb : ∀ x : Str, x ≠ "__name__" -> mb x = bootBuiltins x) (amt : s₁.heap.NoLimit) (hg : s₁.gens = #[])
   (ha : s₁.heap.get? a = some { cls := .type "list", data := .seq vs.toArray }) (hi : IntsAre vs ns) (hl : ns.length <= sizeLine) (hr : ig k callerA)
   (F : ∀ base : Heap, K.In base -> base.Ns mainGlobals mg -> iM P w K mg base CX k fa fd [x] sp) (ajJ : ∀ (s : Shared) (u : Value), BindsTo s fd ⟨[u], []⟩ [(x, u)])
   (Ve : ∀ H : Hp, Only H -> qT K H a (ns.map V.int) -> sp [.ref a] H (fun v _ => v = .bl true) fun _ _ _ => False)
   (hCX : ∀ H e s', CX [] H s₁ (fun _ _ _ => False) e s' -> False) :
   codeAny (model P w) callerA (.call (.ref fa) ⟨[.ref a], []⟩) Q.bX s₁ := by
 have rv := F8 hi
 have amv := hi.length
 have core : ∀ H : Hp, Only H -> qT K H a (ns.map V.int) -> Bv P w H s₁.heap -> (∀ b, H b ≠ none -> b = a) -> (H a ≠ none -> K.lookup a = none) →
     codeAny (model P w) callerA (.call (.ref fa) ⟨[.ref a], []⟩) Q.bX s₁ := by
   intro H hO hS gX hA hK
   have Rm : ∀ {b : Addr} {o : Obj}, s₁.heap.get? b = some o -> H b = none -> (G9 s₁.heap H).get? b = some o := fun e n => Vm e n
   have noA : ∀ {b : Addr} {o : Obj} {es : Array DictEntry} {ep : Nat}, s₁.heap.get? b = some o -> o.data = .dict es ep -> H b = none := fun {b o es ep} e d => by
     cases q : H b with
     | none => rfl
     | some u =>
       have e' : b = a := hA b (by rw [q]; simp)
       subst e'
       rw [ha] at e; cases e
       have d' : Data.seq vs.toArray _ = Data.dict es ep := d
       cases d'
   have nsK : ∀ {b : Addr} {m : Q.J}, s₁.heap.Ns b m -> (G9 s₁.heap H).Ns b m := fun {b m} ⟨o, es, ep, e, d, r⟩ => ⟨o, es, ep, Rm e (noA e d), d, r⟩
   have hKb : K.In (G9 s₁.heap H) := fun b o e => Rm (KX b o e) (by
     cases q : H b with
     | none => rfl
     | some u =>
       have e' : b = a := hA b (by rw [q]; simp)
       subst e'
       rw [hK (by rw [q]; simp)] at e; cases e)
   have hM : Mod K mg (G9 s₁.heap H) := ⟨hKb, nsK hns, ⟨mb, nsK hb, hbb⟩, let ⟨mc, h1, h2⟩ := amt; ⟨mc, nsK h1, h2⟩⟩
   have e0 : N9 P w K mg (G9 s₁.heap H) callerA [] s₁ H := ⟨rfl, hM, fun b o e => aas e, Nat.le_of_eq (SV _ _), trivial, fun b hb => absurd (show b ∈ ([] : List Addr) from hb) Q.p, gX, .of_eq hg⟩
   refine codeAny_mono ((F _ hKb (nsK hns)).run callerA [] s₁ H ⟨[.ref a], []⟩ [.ref a] [.ref a] _ _ hr e0 (ajJ s₁ (.ref a)) (.cons rfl .nil) (Ve H hO hS)) fun r s' h => ?_
   cases r with
   | error e => exact (hCX H e s' h).elim
   | ok fl =>
     cases fl with
     | next => exact False.elim h
     | brk => exact False.elim h
     | cont => exact False.elim h
     | ret u =>
       obtain ⟨v, H', os, bare, un, amw, r', q⟩ := h
       have q' : v = .bl true := q
       subst q'
       obtain rfl : u = Value.bool true := r'
       refine ⟨rfl, OldK.of_keep fun b o e => ?_, os, bare⟩
       cases q : H b with
       | none => exact un.keep b o e q (by intro z; exact absurd (show b ∈ ([] : List Addr) from z) Q.p) Q.p
       | some u =>
         rcases hO b with z | ⟨ob, xs, z⟩
         . rw [q] at z; cases z
         . have z2 := un.ez b ob _ z
           obtain ⟨e1, _⟩ := gX b _ z
           obtain ⟨e2, _⟩ := amw b _ z2
           rw [e] at e1; cases e1
           exact e2
 cases hk : K.lookup a with
 | some o =>
   have e := KX a o hk
   rw [ha] at e
   cases e
   refine core (fun _ => none) (fun _ => .inl rfl) (.inr ⟨_, vs.toArray, _, hk, rfl, rfl, rfl, by rw [List.size_toArray, amv]; exact hl, by simpa using rv⟩) (fun b u z => by have z' : (none : Option HO) = some u := z; cases z') (fun b z => absurd rfl z) fun z => absurd rfl z
 | none =>
   refine core (fun b => if b = a then some (.dJ { cls := .type "list", data := .seq vs.toArray } (.lst (ns.map V.int))) else none) (fun b => ?_) (.inl (.inr ⟨{ cls := .type "list", data := .seq vs.toArray }, arU rfl⟩)) (fun b u z => ?_) (fun b z => ?_) fun _ => hk
   . by_cases hb : b = a
     . exact .inr ⟨_, _, arU hb⟩
     . exact .inl (arS hb)
   . by_cases hb : b = a
     . have z' := (arU hb).symm.trans z
       cases z'
       subst hb
       exact ⟨ha, by rw [arL]; exact hl, vs, _, rv, ha⟩
     . have z' := (arS hb).symm.trans z
       cases z'
   . by_cases hb : b = a
     . exact hb
     . exact absurd (arS hb) z
theorem aaR {l : PySem.W.OpenLaw} {n k : Nat} {q : Program} {loose : Q.h} {XP : Q.J -> Heap -> Prop} {YP : World -> Heap -> Prop} {d : DefRec} {K : Params -> PySem.W.Frag} {CX : World -> VD} {sp : World -> Sp}
   (hn : l.most = some n) (hn2 : n <= sizeLine) (hdf : d.params.defaults = []) (hr : ig k callerA)
   (hY : ∀ (w : World) (h : Heap), YP w h -> (K w.params).In h)
   (F : ∀ (w : World) (mg : Q.J) (fa : Addr) (h : Heap), (K w.params).In h -> h.Ns mainGlobals mg -> mg d.name = some (.ref fa) →
     ∃ fd : FuncData, (∀ (s : Shared) (u : Value), BindsTo s fd ⟨[u], []⟩ [(x, u)]) ∧
       ∀ base : Heap, (K w.params).In base -> base.Ns mainGlobals mg -> iM l.prog w (K w.params) mg base (CX w) k fa fd [x] (sp w))
   (Ve : ∀ (w : World) (H : Hp) (a : Addr) (ns : Q.b), ns.length <= n -> Only H -> qT (K w.params) H a (ns.map V.int) -> sp w [.ref a] H (fun v _ => v = .bl true) fun _ _ _ => False)
   (hCX : ∀ (w : World) (H : Hp) (s : Shared) (e : Value) (s' : Shared), CX w [] H s (fun _ _ _ => False) e s' -> False) :
   PySem.W.WalkO q loose XP YP l.row.toRowW d [] (fun f vs => PySem.call f vs) := by
 refine Att.K2 hn hdf fun w s₀ s₁ mg mb fa o pm cd doc a vs ns G Y ho hd qS hmg afG hints hlen hg => ?_
 have KX := hY w _ Y
 obtain ⟨fd, hb, hF⟩ := F w mg fa _ KX G.T.g hmg
 exact VR KX G.T.g G.T.b G.T.builtins G.T.nolimit hg afG hints (asD hlen hn2) hr hF hb (fun H hO hS => Ve w H a ns hlen hO hS) fun H e s' => hCX w H s₁ e s'
def inClass (s : Stmt) (j : Nat) : Stmt := match s with
 | .ClassDef _ _ _ body _ _ _ _ _ _ _ => body.getD j (.Pass ⟨0, 0, 0, 0⟩)
 | _ => .Pass ⟨0, 0, 0, 0⟩
def yc (s : Stmt) : Arguments := match s with
 | .FunctionDef _ a _ _ _ _ _ _ _ _ => a
 | _ => { posonlyargs := [], args := [], vararg := none, kwonlyargs := [], kw_defaults := [], kwarg := none, defaults := [] }
def g5 (s : Stmt) : List Stmt := match s with
 | .FunctionDef _ _ b _ _ _ _ _ _ _ => b
 | _ => []
def ak (s : Stmt) : Scope := match s with
 | .FunctionDef _ _ _ _ _ _ sc _ _ _ => sc
 | _ => { kind := .function, names := [], isGenerator := false, isCoroutine := false }
abbrev wY : VD := fun _ _ _ _ _ _ => False
abbrev E0 : XK := fun _ _ _ => False
theorem F9 {X : Cx} : Passes wY X E0 := fun _ _ _ _ _ _ _ h => h.elim
structure iN (K : Q.n) (x qual : Str) (st : Stmt) (f : Addr) (fd : FuncData) : Prop where
 ex : ∃ (oc : Value) (od : Option Addr) (kV doc pm : Value) (an : Option Addr) (mj ct : Value) (osl : Array (Option Value)),
   fd = PySem.W.fnOf x qual (yc st) (g5 st) (ak st) .none kV doc pm an mj ct /\ K.lookup f = some ⟨oc, od, .func fd, osl⟩ /\ PySem.W.codeIn K mj qual = true
 kp : PySem.W.keepIn K (.ref f) = true
variable {P : Program} {w : World} {K : Q.n} {mg : Q.J} {base : Heap}
theorem iN.ok {qual : Str} {st : Stmt} {f : Addr} {fd : FuncData} {N ps : Q.h} {k : Nat} {sp : Sp} (F : iN K x qual st f fd) (S : aH N ps (ak st)) (len : ∀ vs H Q E, sp vs H Q E -> vs.length = ps.length)
   (VJ : ∀ (mj : Value) (A : Around) (outer : List Env) (s : Shared) (H : Hp) (vs : List V) (Q : VK) (E : XK), ig k (A.deeper Q.bK) -> sp vs H Q E →
     ∃ t, Ra (CY wY P w K mg base N qual (ak st) f mj A outer s H E).nox (g5 st) t /\ t { nx := fun _ H' => Q .non H', rt := Q } (start N vs) H) : iM P w K mg base wY (k + 1) f fd ps sp := by
 obtain ⟨oc, od, kV, doc, pm, an, mj, ct, osl, rfl, lk, qS⟩ := F.ex
 refine ajC lk qS S len fun A outer s H vs Q E hr Ve => ?_
 obtain ⟨t, h, q⟩ := VJ mj A outer s H vs Q E hr Ve
 exact ⟨t, h.nox, q⟩
theorem iN.binds {qual : Str} {st : Stmt} {f : Addr} {fd : FuncData} {ps : Q.h} (F : iN K x qual st f fd)
   (h : ∀ (kV doc pm : Value) (an : Option Addr) (mj ct : Value) (us : Q.u), us.length = ps.length -> bindArgs Q.ca ⟨us, []⟩ = pure (ps.zip us)) : Binds K fd ps [] := by
 obtain ⟨oc, od, kV, doc, pm, an, mj, ct, osl, rfl, lk, qS⟩ := F.ex
 exact .all (h kV doc pm an mj ct)
theorem bq {qual : Str} {st : Stmt} {f : Addr} {oc : Value} {od an : Option Addr} {osl : Array (Option Value)} {kV doc pm mj ct : Value} (l : K.lookup f = some ⟨oc, od, .func Q.ca, osl⟩)
   (c : PySem.W.codeIn K mj qual = true) (k : PySem.W.keepIn K (.ref f) = true) : iN K x qual st f Q.ca := ⟨⟨oc, od, kV, doc, pm, an, mj, ct, osl, rfl, l, c⟩, k⟩
theorem bS {n : Nat} (h : n <= 1000) : n < sizeLine := ath h Q.i
theorem Oe {A B : Prop} (h : B) : if false = true then A else B := by
 rw [arS ar6]
 exact h
theorem Og {A B : Prop} (h : A) : if true = true then A else B := by
 rw [arU rfl]
 exact h
def aO (H H' : Hp) : Prop := ∀ b o, H b = some o -> H' b = some o
theorem aO.refl (H : Hp) : aO H H := fun _ _ h => h
theorem aO.trans {H H1 H2 : Hp} (a : aO H H1) (b : aO H1 H2) : aO H H2 := fun c o h => b c o (a c o h)
theorem aO.free {H H' : Hp} (e : aO H H') {l : Addr} (h : H' l = Option.none) : H l = Option.none := by
 cases q : H l with
 | none => rfl
 | some o =>
   rw [e l o q] at h
   cases h
theorem aO.seq {H H' : Hp} {a : Addr} {xs : List V} (e : aO H H') (h : qT K H a xs) : qT K H' a xs := by
 rcases h with (h | ⟨o, h⟩) | h
 . exact .inl (.inl (e _ _ h))
 . exact .inl (.inr ⟨o, e _ _ h⟩)
 . exact .inr h
end L2
namespace L3
open PySem PySem.Spec PyProof.Rows L2
inductive D where
 | non | bl (b : Bool) | int (i : Int) | str (x : Str)
 | tup (ds : List D) | lst (ds : List D) | ins (c : Str) (fs : List (Str × D)) | BE (ql : List (Key × D))
 | dct (ql : List (List Key × D))
 | any
 | val (v : V)
inductive T where
 | sh (d : D) | tup (ts : List T) | lst (ts : List T) | ins (c : Str) (fs : List Q.A) | BE (ql : List (Key × D)) | dct (ql : List (List Key × T))
 | pin (x : Addr) (t : T)
mutual
def T.dJ : T -> D
 | .sh d => d
 | .tup ts => .tup (ez ts)
 | .lst ts => .lst (ez ts)
 | .ins c fs => .ins c (wg fs)
 | .BE ql => .BE ql
 | .dct ql => .dct (VW ql)
 | .pin _ t => t.dJ
def T.ez : List T -> List D
 | [] => []
 | t :: ts => t.dJ :: T.ez ts
def T.wg : List Q.A -> List (Str × D)
 | [] => []
 | (x, t) :: fs => (x, t.dJ) :: T.wg fs
def T.VW : List (List Key × T) -> List (List Key × D)
 | [] => []
 | (x, t) :: fs => (x, t.dJ) :: T.VW fs
end
variable (K : Q.n) (CL : Q.e)
mutual
inductive cC (Z : Hp) : D -> V -> Prop where
 | non : cC Z .non .non
 | bl (b : Bool) : cC Z (.bl b) (.bl b)
 | int (i : Int) : cC Z (.int i) (.int i)
 | str (x : Str) : cC Z (.str x) (.str x)
 | any (v : V) : cC Z .any v
 | val (v : V) : cC Z (.val v) v
 | tup {a : Addr} {vs : List V} {ds : List D} : xW K Z a vs -> aK Z ds vs -> cC Z (.tup ds) (.ref a)
 | lst {a : Addr} {vs : List V} {ds : List D} : qT K Z a vs -> aK Z ds vs -> cC Z (.lst ds) (.ref a)
 | ins {a dx : Addr} {c : Str} {gs : Q.aq} {fs : List (Str × D)} : Z a = some (.ins (CL c) dx gs) -> wF Z fs gs -> cC Z (.ins c fs) (.ref a)
 | BE {a : Addr} {gs : List (Key × V)} {fs : List (Key × D)} : Z a = some (.dK gs) -> gJ Z fs gs -> cC Z (.BE fs) (.ref a)
 | dct {a : Addr} {gs : List (List Key × V)} {fs : List (List Key × D)} : Z a = some (.dT gs) -> C2 Z fs gs -> cC Z (.dct fs) (.ref a)
inductive aK (Z : Hp) : List D -> List V -> Prop where
 | nil : aK Z [] []
 | cons {d : D} {v : V} {ds : List D} {vs : List V} : cC Z d v -> aK Z ds vs -> aK Z (d :: ds) (v :: vs)
inductive wF (Z : Hp) : List (Str × D) -> List (Str × V) -> Prop where
 | nil : wF Z [] []
 | cons {x : Str} {d : D} {v : V} {ds : List (Str × D)} {vs : Q.aq} : cC Z d v -> wF Z ds vs -> wF Z ((x, d) :: ds) ((x, v) :: vs)
inductive gJ (Z : Hp) : List (Key × D) -> List (Key × V) -> Prop where
 | nil : gJ Z [] []
 | cons {x : Key} {d : D} {v : V} {ds : List (Key × D)} {vs : List (Key × V)} : cC Z d v -> gJ Z ds vs -> gJ Z ((x, d) :: ds) ((x, v) :: vs)
inductive C2 (Z : Hp) : List (List Key × D) -> List (List Key × V) -> Prop where
 | nil : C2 Z [] []
 | cons {x : List Key} {d : D} {v : V} {ds : List (List Key × D)} {vs : List (List Key × V)} : cC Z d v -> C2 Z ds vs -> C2 Z ((x, d) :: ds) ((x, v) :: vs)
end
mutual
inductive eL (H Z : Hp) : T -> V -> List Addr -> Prop where
 | sh {d : D} {v : V} : cC K CL Z d v -> eL H Z (.sh d) v []
 | tup {a : Addr} {vs : List V} {ts : List T} {fp : Q.t} : Z a = some (.tup vs) -> bu H Z ts vs fp -> eL H Z (.tup ts) (.ref a) fp
 | lst {a : Addr} {vs : List V} {ts : List T} {fp : Q.t} : H a = some (.lst vs) -> bu H Z ts vs fp -> eL H Z (.lst ts) (.ref a) (a :: fp)
 | ins {a dx : Addr} {c : Str} {gs : Q.aq} {fs : List Q.A} {fp : Q.t} : H a = some (.ins (CL c) dx gs) -> fF H Z fs gs fp -> eL H Z (.ins c fs) (.ref a) (a :: fp)
 | BE {a : Addr} {gs : List (Key × V)} {ql : List (Key × D)} : H a = some (.dK gs) -> gJ K CL Z ql gs -> eL H Z (.BE ql) (.ref a) [a]
 | dct {a : Addr} {gs : List (List Key × V)} {ql : List (List Key × T)} {fp : Q.t} : H a = some (.dT gs) -> AK H Z ql gs fp -> eL H Z (.dct ql) (.ref a) (a :: fp)
 | pin {x : Addr} {t : T} {fp : Q.t} : eL H Z t (.ref x) fp -> eL H Z (.pin x t) (.ref x) fp
inductive bu (H Z : Hp) : List T -> List V -> List Addr -> Prop where
 | nil : bu H Z [] [] []
 | cons {t : T} {v : V} {ts : List T} {vs : List V} {fp gp : Q.t} : eL H Z t v fp -> bu H Z ts vs gp -> bu H Z (t :: ts) (v :: vs) (fp ++ gp)
inductive fF (H Z : Hp) : List Q.A -> List (Str × V) -> List Addr -> Prop where
 | nil : fF H Z [] [] []
 | cons {x : Str} {t : T} {v : V} {ts : List Q.A} {vs : Q.aq} {fp gp : Q.t} : eL H Z t v fp -> fF H Z ts vs gp -> fF H Z ((x, t) :: ts) ((x, v) :: vs) (fp ++ gp)
inductive AK (H Z : Hp) : List (List Key × T) -> List (List Key × V) -> List Addr -> Prop where
 | nil : AK H Z [] [] []
 | cons {x : List Key} {t : T} {v : V} {ts : List (List Key × T)} {vs : List (List Key × V)} {fp gp : Q.t} : eL H Z t v fp -> AK H Z ts vs gp -> AK H Z ((x, t) :: ts) ((x, v) :: vs) (fp ++ gp)
end
inductive fQ (H Z : Hp) : List Q.L -> L2.St -> List Addr -> Prop where
 | nil : fQ H Z [] [] []
 | skip {o : Option V} {δ : Q.s} {σ : L2.St} {fp : Q.t} : fQ H Z δ σ fp -> fQ H Z (none :: δ) (o :: σ) fp
 | cons {t : T} {v : V} {δ : Q.s} {σ : L2.St} {fp gp : Q.t} : eL K CL H Z t v fp -> fQ H Z δ σ gp -> fQ H Z (some t :: δ) (some v :: σ) (fp ++ gp)
variable {K : Q.n} {CL : Q.e} {H H' : Hp} {a : Addr} {xs : List V}
theorem aO.VX (e : aO H H') (h : xW K H a xs) : xW K H' a xs := by
 rcases h with (h | ⟨o, h⟩) | h
 . exact .inl (.inl (e _ _ h))
 . exact .inl (.inr ⟨o, e _ _ h⟩)
 . exact .inr h
variable {Z Z' : Hp} {v : V}
theorem cC.mono (e : aO Z Z') {d : D} (h : cC K CL Z d v) : cC K CL Z' d v :=
 cC.rec (motive_1 := fun d v _ => cC K CL Z' d v) (motive_2 := fun d v _ => aK K CL Z' d v) (motive_3 := fun d v _ => wF K CL Z' d v) (motive_4 := fun d v _ => gJ K CL Z' d v) (motive_5 := fun d v _ => C2 K CL Z' d v)
   .non .bl .int .str .any .val (fun h _ r => .tup (aO.VX e h) r) (fun h _ r => .lst (e.seq h) r) (fun h _ r => .ins (e _ _ h) r) (fun h _ r => .BE (e _ _ h) r) (fun h _ r => .dct (e _ _ h) r) .nil Q.bd .nil Q.bd .nil Q.bd .nil Q.bd h
theorem gJ.mono (e : aO Z Z') {d : List (Key × D)} {v : List (Key × V)} (h : gJ K CL Z d v) : gJ K CL Z' d v :=
 gJ.rec (motive_1 := fun d v _ => cC K CL Z' d v) (motive_2 := fun d v _ => aK K CL Z' d v) (motive_3 := fun d v _ => wF K CL Z' d v) (motive_4 := fun d v _ => gJ K CL Z' d v) (motive_5 := fun d v _ => C2 K CL Z' d v)
   .non .bl .int .str .any .val (fun h _ r => .tup (aO.VX e h) r) (fun h _ r => .lst (e.seq h) r) (fun h _ r => .ins (e _ _ h) r) (fun h _ r => .BE (e _ _ h) r) (fun h _ r => .dct (e _ _ h) r) .nil Q.bd .nil Q.bd .nil Q.bd .nil Q.bd h
variable {t : T} {fp : Q.t}
theorem eL.mono (e : aO Z Z') (k : ∀ a ∈ fp, H' a = H a) (h : eL K CL H Z t v fp) : eL K CL H' Z' t v fp :=
 eL.rec (motive_1 := fun t v fp _ => (∀ a ∈ fp, H' a = H a) -> eL K CL H' Z' t v fp) (motive_2 := fun t v fp _ => (∀ a ∈ fp, H' a = H a) -> bu K CL H' Z' t v fp) (motive_3 := fun t v fp _ => (∀ a ∈ fp, H' a = H a) -> fF K CL H' Z' t v fp) (motive_4 := fun t v fp _ => (∀ a ∈ fp, H' a = H a) -> AK K CL H' Z' t v fp)
   (fun h _ => .sh (h.mono e)) (fun h _ r k => .tup (e _ _ h) (r k)) (fun h _ r k => .lst ((k _ arK).trans h) Q.aw) (fun h _ r k => .ins ((k _ arK).trans h) Q.aw) (fun h f k => .BE ((k _ arK).trans h) (gJ.mono e f)) (fun h _ r k => .dct ((k _ arK).trans h) Q.aw) (fun _ r k => .pin (r k)) Q.ak Q.aQ Q.ak Q.aQ Q.ak Q.aQ h k
theorem bu.mono (e : aO Z Z') {t : List T} {v : List V} (k : ∀ a ∈ fp, H' a = H a) (h : bu K CL H Z t v fp) : bu K CL H' Z' t v fp :=
 bu.rec (motive_1 := fun t v fp _ => (∀ a ∈ fp, H' a = H a) -> eL K CL H' Z' t v fp) (motive_2 := fun t v fp _ => (∀ a ∈ fp, H' a = H a) -> bu K CL H' Z' t v fp) (motive_3 := fun t v fp _ => (∀ a ∈ fp, H' a = H a) -> fF K CL H' Z' t v fp) (motive_4 := fun t v fp _ => (∀ a ∈ fp, H' a = H a) -> AK K CL H' Z' t v fp)
   (fun h _ => .sh (h.mono e)) (fun h _ r k => .tup (e _ _ h) (r k)) (fun h _ r k => .lst ((k _ arK).trans h) Q.aw) (fun h _ r k => .ins ((k _ arK).trans h) Q.aw) (fun h f k => .BE ((k _ arK).trans h) (gJ.mono e f)) (fun h _ r k => .dct ((k _ arK).trans h) Q.aw) (fun _ r k => .pin (r k)) Q.ak Q.aQ Q.ak Q.aQ Q.ak Q.aQ h k
theorem fF.mono (e : aO Z Z') {t : List Q.A} {v : Q.aq} (k : ∀ a ∈ fp, H' a = H a) (h : fF K CL H Z t v fp) : fF K CL H' Z' t v fp :=
 fF.rec (motive_1 := fun t v fp _ => (∀ a ∈ fp, H' a = H a) -> eL K CL H' Z' t v fp) (motive_2 := fun t v fp _ => (∀ a ∈ fp, H' a = H a) -> bu K CL H' Z' t v fp) (motive_3 := fun t v fp _ => (∀ a ∈ fp, H' a = H a) -> fF K CL H' Z' t v fp) (motive_4 := fun t v fp _ => (∀ a ∈ fp, H' a = H a) -> AK K CL H' Z' t v fp)
   (fun h _ => .sh (h.mono e)) (fun h _ r k => .tup (e _ _ h) (r k)) (fun h _ r k => .lst ((k _ arK).trans h) Q.aw) (fun h _ r k => .ins ((k _ arK).trans h) Q.aw) (fun h f k => .BE ((k _ arK).trans h) (gJ.mono e f)) (fun h _ r k => .dct ((k _ arK).trans h) Q.aw) (fun _ r k => .pin (r k)) Q.ak Q.aQ Q.ak Q.aQ Q.ak Q.aQ h k
theorem eL.there (h : eL K CL H Z t v fp) : ∀ a ∈ fp, ∃ o, H a = some o :=
 eL.rec (motive_1 := fun t v fp _ => ∀ a ∈ fp, ∃ o, H a = some o) (motive_2 := fun t v fp _ => ∀ a ∈ fp, ∃ o, H a = some o) (motive_3 := fun t v fp _ => ∀ a ∈ fp, ∃ o, H a = some o) (motive_4 := fun t v fp _ => ∀ a ∈ fp, ∃ o, H a = some o)
   (fun _ a ha => absurd ha asw) (fun _ _ r => r) Q.bv Q.bv (fun h _ a ha => (arP.mp ha).elim (fun q => ⟨_, q ▸ h⟩) (fun q => absurd q asw)) Q.bv (fun _ r => r) (fun a ha => absurd ha asw) Q.bw (fun a ha => absurd ha asw) Q.bw (fun a ha => absurd ha asw) Q.bw h
theorem bu.there {t : List T} {v : List V} (h : bu K CL H Z t v fp) : ∀ a ∈ fp, ∃ o, H a = some o :=
 bu.rec (motive_1 := fun t v fp _ => ∀ a ∈ fp, ∃ o, H a = some o) (motive_2 := fun t v fp _ => ∀ a ∈ fp, ∃ o, H a = some o) (motive_3 := fun t v fp _ => ∀ a ∈ fp, ∃ o, H a = some o) (motive_4 := fun t v fp _ => ∀ a ∈ fp, ∃ o, H a = some o)
   (fun _ a ha => absurd ha asw) (fun _ _ r => r) Q.bv Q.bv (fun h _ a ha => (arP.mp ha).elim (fun q => ⟨_, q ▸ h⟩) (fun q => absurd q asw)) Q.bv (fun _ r => r) (fun a ha => absurd ha asw) Q.bw (fun a ha => absurd ha asw) Q.bw (fun a ha => absurd ha asw) Q.bw h
theorem eL.dJ (e : aO Z Z') (k : ∀ a ∈ fp, Z' a = H a) (h : eL K CL H Z t v fp) : cC K CL Z' t.dJ v :=
 eL.rec (motive_1 := fun t v fp _ => (∀ a ∈ fp, Z' a = H a) -> cC K CL Z' t.dJ v) (motive_2 := fun t v fp _ => (∀ a ∈ fp, Z' a = H a) -> aK K CL Z' (T.ez t) v) (motive_3 := fun t v fp _ => (∀ a ∈ fp, Z' a = H a) -> wF K CL Z' (T.wg t) v) (motive_4 := fun t v fp _ => (∀ a ∈ fp, Z' a = H a) -> C2 K CL Z' (T.VW t) v)
   (fun h _ => by rw [T.dJ]; exact h.mono e) (fun h _ r k => by rw [T.dJ]; exact .tup (xW.of (e _ _ h)) (r k)) (fun h _ r k => by rw [T.dJ]; exact .lst (qT.of ((k _ arK).trans h)) Q.aw) (fun h _ r k => by rw [T.dJ]; exact .ins ((k _ arK).trans h) Q.aw) (fun h f k => by rw [T.dJ]; exact .BE ((k _ arK).trans h) (gJ.mono e f)) (fun h _ r k => by rw [T.dJ]; exact .dct ((k _ arK).trans h) Q.aw) (fun _ r k => by rw [T.dJ]; exact r k) (fun _ => by rw [T.ez]; exact .nil) (fun _ _ h r k => by rw [T.ez]; exact .cons (h fun a ha => k a (arW _ ha)) (r fun a ha => k a (arQ _ ha))) (fun _ => by rw [T.wg]; exact .nil) (fun _ _ h r k => by rw [T.wg]; exact .cons (h fun a ha => k a (arW _ ha)) (r fun a ha => k a (arQ _ ha))) (fun _ => by rw [T.VW]; exact .nil) (fun _ _ h r k => by rw [T.VW]; exact .cons (h fun a ha => k a (arW _ ha)) (r fun a ha => k a (arQ _ ha))) h k
variable {vs : List V}
theorem aK.ind {P : List D -> List V -> Prop} (n : P [] []) (c : ∀ {d : D} {v : V} {ds : List D} {vs : List V}, cC K CL Z d v -> aK K CL Z ds vs -> P ds vs -> P (d :: ds) (v :: vs)) {ds : List D} (h : aK K CL Z ds vs) : P ds vs :=
 aK.rec (motive_1 := fun _ _ _ => True) (motive_2 := fun d v _ => P d v) (motive_3 := fun _ _ _ => True) (motive_4 := fun _ _ _ => True) (motive_5 := fun _ _ _ => True)
   trivial Q.aN Q.aN Q.aN Q.aN Q.aN Q.ac Q.ac Q.ac Q.ac Q.ac n (fun a b _ i => c a b i) trivial Q.Z trivial Q.Z trivial Q.Z h
theorem gJ.ind {P : List (Key × D) -> List (Key × V) -> Prop} (n : P [] []) (c : ∀ {x : Key} {d : D} {v : V} {ds : List (Key × D)} {vs : List (Key × V)}, cC K CL Z d v -> gJ K CL Z ds vs -> P ds vs -> P ((x, d) :: ds) ((x, v) :: vs)) {ds : List (Key × D)} {vs : List (Key × V)} (h : gJ K CL Z ds vs) : P ds vs :=
 gJ.rec (motive_1 := fun _ _ _ => True) (motive_2 := fun _ _ _ => True) (motive_3 := fun _ _ _ => True) (motive_4 := fun d v _ => P d v) (motive_5 := fun _ _ _ => True)
   trivial Q.aN Q.aN Q.aN Q.aN Q.aN Q.ac Q.ac Q.ac Q.ac Q.ac trivial Q.Z trivial Q.Z n (fun a b _ i => c a b i) trivial Q.Z h
variable {ts : List T}
theorem bu.ind {P : List T -> List V -> List Addr -> Prop} (n : P [] [] []) (c : ∀ {t : T} {v : V} {ts : List T} {vs : List V} {fp gp : Q.t}, eL K CL H Z t v fp -> bu K CL H Z ts vs gp -> P ts vs gp -> P (t :: ts) (v :: vs) (fp ++ gp)) (h : bu K CL H Z ts vs fp) : P ts vs fp :=
 bu.rec (motive_1 := fun _ _ _ _ => True) (motive_2 := fun d v f _ => P d v f) (motive_3 := fun _ _ _ _ => True) (motive_4 := fun _ _ _ _ => True)
   (fun _ => trivial) Q.ac Q.ac Q.ac (fun _ _ => trivial) Q.ac (fun _ _ => trivial) n (fun a b _ i => c a b i) trivial Q.Z trivial Q.Z h
theorem fF.ind {P : List Q.A -> List (Str × V) -> List Addr -> Prop} (n : P [] [] []) (c : ∀ {x : Str} {t : T} {v : V} {ts : List Q.A} {vs : Q.aq} {fp gp : Q.t}, eL K CL H Z t v fp -> fF K CL H Z ts vs gp -> P ts vs gp -> P ((x, t) :: ts) ((x, v) :: vs) (fp ++ gp)) {ts : List Q.A} {vs : Q.aq} (h : fF K CL H Z ts vs fp) : P ts vs fp :=
 fF.rec (motive_1 := fun _ _ _ _ => True) (motive_2 := fun _ _ _ _ => True) (motive_3 := fun d v f _ => P d v f) (motive_4 := fun _ _ _ _ => True)
   (fun _ => trivial) Q.ac Q.ac Q.ac (fun _ _ => trivial) Q.ac (fun _ _ => trivial) trivial Q.Z n (fun a b _ i => c a b i) trivial Q.Z h
theorem aK.length {d : List D} {v : List V} (h : aK K CL Z d v) : d.length = v.length :=
 aK.ind (P := fun d v => d.length = v.length) rfl (fun _ _ i => congrArg (· + 1) i) h
theorem bu.length {d : List T} {v : List V} (h : bu K CL H Z d v fp) : d.length = v.length :=
 bu.ind (P := fun d v _ => d.length = v.length) rfl (fun _ _ i => congrArg (· + 1) i) h
theorem aK.get {Z : Hp} : ∀ {ds : List D} {vs : List V} {i : Nat} {d : D}, aK K CL Z ds vs -> ds[i]? = some d -> ∃ v, vs[i]? = some v /\ cC K CL Z d v
 | _, _, _, _, .nil, e => by simp at e
 | _, _, 0, _, .cons r _, e => by simp at e; subst e; exact ⟨_, rfl, r⟩
 | _, _, i + 1, d, .cons _ t, e => by
   obtain ⟨u, h1, h2⟩ := aK.get (i := i) (d := d) t (by simpa using e)
   exact ⟨u, by simpa using h1, h2⟩
theorem aK.aaS {Z : Hp} : ∀ {ds : List D} {vs : List V} {i : Nat} {v : V}, aK K CL Z ds vs -> vs[i]? = some v -> ∃ d, ds[i]? = some d /\ cC K CL Z d v
 | _, _, _, _, .nil, e => by simp at e
 | _, _, 0, _, .cons r _, e => by simp at e; subst e; exact ⟨_, rfl, r⟩
 | _, _, i + 1, d, .cons _ t, e => by
   obtain ⟨u, h1, h2⟩ := aK.aaS (i := i) (v := d) t (by simpa using e)
   exact ⟨u, by simpa using h1, h2⟩
theorem fQ.get : ∀ {δ : Q.s} {σ : L2.St} {fp : Q.t} {i : Nat} {t : T}, fQ K CL H Z δ σ fp -> δ[i]? = some (some t) →
   ∃ v f1 f2 f3, σ[i]? = some (some v) /\ fp = f1 ++ (f2 ++ f3) /\ eL K CL H Z t v f2 ∧
     (∀ {H' Z' : Hp} {t' : T} {v' : V} {g : Q.t}, aO Z Z' -> (∀ a ∈ f1 ++ f3, H' a = H a) -> eL K CL H' Z' t' v' g -> fQ K CL H' Z' (δ.set i (some t')) (σ.set i (some v')) Q.aj) ∧
     (∀ {o : Option V}, fQ K CL H Z (δ.set i none) (σ.set i o) (f1 ++ f3)) := by
 intro δ σ fp i t h
 have mono : ∀ {H H' Z Z' : Hp} {δ : Q.s} {σ : L2.St} {fp : Q.t}, aO Z Z' -> (∀ a ∈ fp, H' a = H a) -> fQ K CL H Z δ σ fp -> fQ K CL H' Z' δ σ fp := by
   intro H H' Z Z' δ σ fp e k r
   induction r with
   | nil => exact .nil
   | skip _ ih => exact .skip (ih k)
   | cons r _ ih => exact .cons (r.mono e fun a ha => k a (arW _ ha)) (ih fun a ha => k a (arQ _ ha))
 induction h generalizing i with
 | nil => intro e; simp at e
 | @skip o δ σ fp r ih =>
   cases i with
   | zero => intro e; simp at e
   | succ i =>
     intro e
     obtain ⟨v, f1, f2, f3, h1, h2, h3, h4, h5⟩ := ih (i := i) (by simpa using e)
     exact ⟨v, f1, f2, f3, by simpa using h1, h2, h3, fun e k q => .skip (h4 e k q), .skip h5⟩
 | @cons t0 v0 δ σ fp gp r0 r ih =>
   cases i with
   | zero =>
     intro e
     simp at e
     subst e
     refine ⟨v0, [], fp, gp, rfl, rfl, r0, fun {H' Z' t' v' g} e k q => fQ.cons (fp := g) (gp := gp) q (mono (fp := gp) e (fun a ha => k a (by simpa using ha)) r), .skip (by simpa using r)⟩
   | succ i =>
     intro e
     obtain ⟨v, f1, f2, f3, h1, h2, h3, h4, h5⟩ := ih (i := i) (by simpa using e)
     refine ⟨v, fp ++ f1, f2, f3, by simpa using h1, by rw [h2, List.append_assoc], h3, fun {H' Z' t' v' g} e k q => ?_, fun {o} => ?_⟩
     . rw [arR]
       exact .cons (r0.mono e fun a ha => k a (by simp [ha])) (h4 e (fun a ha => k a (by rw [arR]; exact arQ _ ha)) q)
     . rw [arR]
       exact .cons r0 h5
variable {δ : Q.s} {σ : L2.St}
theorem fQ.mono (e : aO Z Z') (k : ∀ a ∈ fp, H' a = H a) (r : fQ K CL H Z δ σ fp) : fQ K CL H' Z' δ σ fp := by
 induction r with
 | nil => exact .nil
 | skip _ ih => exact .skip (ih k)
 | cons r _ ih => exact .cons (r.mono e fun a ha => k a (arW _ ha)) (ih fun a ha => k a (arQ _ ha))
theorem fQ.there (r : fQ K CL H Z δ σ fp) : ∀ a ∈ fp, ∃ o, H a = some o := by
 induction r with
 | nil => intro a ha; cases ha
 | skip _ ih => exact ih
 | cons r _ ih => exact fun a ha => (arV.mp ha).elim (r.there a) (ih a)
theorem fQ.put (r : fQ K CL H Z δ σ fp) {g : Q.t} (q : eL K CL H Z t v g) :
   ∀ {i : Nat}, i < δ.length -> ∃ f, fQ K CL H Z (δ.set i (some t)) (σ.set i (some v)) f /\ ∃ f', f'.Sublist fp /\ f.Perm (g ++ f') := by
 induction r with
 | nil => intro i hi; simp at hi
 | @skip o δ σ fp r ih =>
   intro i hi
   cases i with
   | zero => exact ⟨g ++ fp, .cons q r, fp, asy _, aui _⟩
   | succ i =>
     obtain ⟨f, h1, f', h2, h3⟩ := ih (i := i) (by simpa using hi)
     exact ⟨f, .skip h1, f', h2, h3⟩
 | @cons t0 v0 δ σ fp gp r0 r ih =>
   intro i hi
   cases i with
   | zero => exact ⟨g ++ gp, .cons q r, gp, as6 _ _, aui _⟩
   | succ i =>
     obtain ⟨f, h1, f', h2, h3⟩ := ih (i := i) (by simpa using hi)
     refine ⟨fp ++ f, .cons r0 h1, fp ++ f', asv (asy _) h2, ?_⟩
     refine (asx fp h3).trans ?_
     rw [← arR, ← arR]
     exact List.Perm.append_right f' aso
def Tr (X : Cx) (e : Expr) : TE := fun σ H Q => ∀ (pins : Q.v) (s : Shared), Inv X pins σ H s -> wpAny Q.o X.A (eval e X.env) Q.ap X.xe s
def aaT (X : Cx) (e : Expr) : TT := fun σ H Q => ∀ (pins : Q.v) (s : Shared), Inv X pins σ H s -> wpAny Q.o X.A (isTrue e X.env (eval e X.env)) (TP X pins σ Q) X.xe s
def Tt (X : Cx) (es : List Expr) : TA := fun σ H Q => ∀ (pos : Pos) (pins : Q.v) (s : Shared), Inv X pins σ H s -> wpAny Q.o X.A (spliced (backTo pos (starEach es X.env))) (AP X pins σ Q) X.xe s
def afH (X : Cx) (st : Stmt) : TS := fun D σ H => ∀ (pins : Q.v) (s : Shared), Inv X pins σ H s -> wpAny Q.o X.A (exec st X.env) (SP X pins D) X.xe s
def afI (X : Cx) (st : List Stmt) : TS := fun D σ H => ∀ (pins : Q.v) (s : Shared), Inv X pins σ H s -> wpAny Q.o X.A (execs st X.env) (SP X pins D) X.xe s
variable {X : Cx} {e : Expr}
theorem fG : PE X e (Tr X e) := fun pins s _ _ _ I h => h pins s I
theorem ptS : PT X e (aaT X e) := fun pins s _ _ _ I h => h pins s I
theorem Oh {e : List Expr} : PA X e (Tt X e) := fun pos pins s _ _ _ I h => h pos pins s I
theorem psS {e : Stmt} : PS X e (afH X e) := fun pins s _ _ _ I h => h pins s I
theorem pbS {e : List Stmt} : Ra X e (afI X e) := fun pins s _ _ _ I h => h pins s I
theorem dX {t : TE} (h : PE X e t) {Q : VK} (q : t σ H Q) : Tr X e σ H Q := fun pins s I => h pins s σ H Q I q
variable {Q : Bool -> Hp -> Prop}
theorem Hq {t : TT} (h : PT X e t) (q : t σ H Q) : aaT X e σ H Q := fun pins s I => h pins s σ H Q I q
theorem Hr {e : List Expr} {t : TA} (h : PA X e t) {Q : List V -> Hp -> Prop} (q : t σ H Q) : Tt X e σ H Q := fun pos pins s I => h pos pins s σ H Q I q
theorem z8 {e : Stmt} {t : TS} (h : PS X e t) {D : Ends} (q : t D σ H) : afH X e D σ H := fun pins s I => h pins s σ H D I q
theorem ajK {e : List Stmt} {t : TS} (h : Ra X e t) {D : Ends} (q : t D σ H) : afI X e D σ H := fun pins s I => h pins s σ H D I q
def notStar : Expr -> Bool
 | .Starred _ _ => false
 | _ => true
variable {es : List Expr} {env : Env}
theorem bK (h : notStar e = true) : starEach Q.D env = (false, eval e env) :: starEach es env := by
 cases e <;> first | rfl | (cases h)
structure Bx where
 B : Hp
 Z : Hp
def pL : HO -> Bool
 | .tup _ => true
 | .dJ _ _ => true
 | _ => false
def Rn (x : Str) : Bool := x.cps[0]? == some 35
def amx (x : Str) : Str := ⟨x.cps.extract 1 x.cps.size⟩
def qV (CL : Q.e) (Z : Hp) : Prop := ∀ x, Rn x = true -> CL x ≠ 0 -> Z (CL x) = some (.tabs (amx x))
structure cA (K : Q.n) (CL : Q.e) (b : Bx) (H Z : Hp) (δ : Q.s) (σ : L2.St) (ts : List T) (vs : List V) : Prop where
 rep : ∃ fp gp, fQ K CL H Z δ σ fp /\ bu K CL H Z ts vs gp /\ (fp ++ gp).Nodup /\ ∀ a ∈ fp ++ gp, Z a = none /\ b.B a = none
 bh : aO b.B H
 zz : aO b.Z Z
 zh : aO Z H
 new : ∀ a o, Z a = some o -> b.Z a = none -> b.B a = none
 tp : ∀ a o, H a = some o -> pL o = true -> Z a = some o
 tab : qV CL b.Z
variable {b : Bx}
theorem qV.mono {A B : Hp} (h : qV CL A) (e : aO A B) : qV CL B := fun x hx h0 => e _ _ (h x hx h0)
theorem cA.aaU (S : Q.ab) : qV CL Z := S.tab.mono S.zz
theorem cA.aaV (S : Q.ab) : qV CL H := S.aaU.mono S.zh
theorem Oi {A B : Hp} (e : aO A B) (h : B a = none) : A a = none := e.free h
variable {p : Addr}
theorem aO.upd {o : HO} (h : H p = none) : aO H (upd H p o) := fun b u e => by rw [aL (cE e h)]; exact e
theorem cA.view (S : Q.aZ) : cC K CL H t.dJ v := by
 obtain ⟨fp, gp, _, r, _, _⟩ := S.rep
 cases r with
 | cons r _ => exact r.dJ S.zh fun _ _ => rfl
theorem cA.pop (S : Q.aZ) : cA K CL b H Z δ σ ts vs := by
 obtain ⟨fp, gp, e, r, nd, k⟩ := S.rep
 cases r with
 | @cons _ _ _ _ f1 f2 r1 r2 =>
   refine ⟨⟨fp, f2, e, r2, nd.sublist (asv (asy _) (as6 _ _)), fun a ha => k a ?_⟩, S.bh, S.zz, S.zh, S.new, S.tp, S.tab⟩
   rcases arV.mp ha with h | h
   . exact arW _ h
   . exact arQ _ (arQ _ h)
theorem cA.push {d : D} (S : Q.ab) (r : cC K CL Z d v) : cA K CL b H Z δ σ (.sh d :: ts) (v :: vs) := by
 obtain ⟨fp, gp, e, r2, nd, k⟩ := S.rep
 exact ⟨⟨fp, [] ++ gp, e, .cons (.sh r) r2, nd, k⟩, S.bh, S.zz, S.zh, S.new, S.tp, S.tab⟩
theorem cA.VY (S : Q.aZ) : ∃ Z', aO Z Z' /\ cA K CL b H Z' δ σ (.sh t.dJ :: ts) (v :: vs) := by
 classical
 obtain ⟨fp, gp, e, r, nd, k⟩ := S.rep
 cases r with
 | @cons _ _ _ _ f1 f2 r1 r2 =>
   have nZ : ∀ a ∈ f1, Z a = none /\ b.B a = none := fun a ha => k a (arQ _ (arW _ ha))
   have sz : aO Z (fun a => if a ∈ f1 then H a else Z a) := fun a o q => by
     by_cases ha : a ∈ f1
     . rw [(nZ a ha).1] at q; cases q
     . show (if a ∈ f1 then H a else Z a) = some o
       rw [arS ha]; exact q
   have nd1 := ass.mp nd
   have dj : ∀ a ∈ fp ++ f2, a ∉ f1 := fun a ha h1 => by
     rcases arV.mp ha with h | h
     . exact nd1.2.2 a h a (arW _ h1) rfl
     . exact (ass.mp nd1.2.1).2.2 a h1 a h rfl
   refine ⟨fun a => if a ∈ f1 then H a else Z a, sz, ⟨⟨fp, [] ++ f2, e.mono sz (fun _ _ => rfl), .cons (.sh (r1.dJ sz fun a ha => arU ha)) (r2.mono sz fun _ _ => rfl), ?_, fun a ha => ?_⟩, S.bh, S.zz.trans sz, fun a o q => ?_, fun a o q z => ?_, fun a o q i => ?_, S.tab⟩⟩
   . exact nd.sublist (asv (asy _) (as6 _ _))
   . have VZ : a ∈ fp ++ f2 := ha
     refine ⟨?_, (k a ?_).2⟩
     . show (if a ∈ f1 then H a else Z a) = none
       rw [arS (dj a VZ)]
       refine (k a ?_).1
       rcases arV.mp VZ with h | h
       . exact arW _ h
       . exact arQ _ (arQ _ h)
     . rcases arV.mp VZ with h | h
       . exact arW _ h
       . exact arQ _ (arQ _ h)
   . have q' : (if a ∈ f1 then H a else Z a) = some o := q
     by_cases ha : a ∈ f1
     . rw [arU ha] at q'; exact q'
     . rw [arS ha] at q'; exact S.zh a o q'
   . have q' : (if a ∈ f1 then H a else Z a) = some o := q
     by_cases ha : a ∈ f1
     . exact (nZ a ha).2
     . rw [arS ha] at q'; exact S.new a o q' z
   . exact sz a o (S.tp a o q i)
variable {i : Nat}
theorem cA.aaW (S : Q.ab) (hi : δ[i]? = some (some t)) : ∃ v Z', σ[i]? = some (some v) /\ aO Z Z' /\ cA K CL b H Z' (δ.set i (some (.sh t.dJ))) σ (.sh t.dJ :: ts) (v :: vs) := by
 classical
 obtain ⟨fp, gp, e, r, nd, k⟩ := S.rep
 obtain ⟨v, f1, f2, f3, hv, uU, rt, put, _⟩ := e.get hi
 subst uU
 have nZ : ∀ a ∈ f2, Z a = none /\ b.B a = none := fun a ha => k a (by simp [ha])
 have sz : aO Z (fun a => if a ∈ f2 then H a else Z a) := fun a o q => by
   by_cases ha : a ∈ f2
   . rw [(nZ a ha).1] at q; cases q
   . show (if a ∈ f2 then H a else Z a) = some o
     rw [arS ha]; exact q
 have dj : ∀ a ∈ (f1 ++ f3) ++ gp, a ∉ f2 := fun a ha h2 => by
   have hp : ((f1 ++ (f2 ++ f3)) ++ gp).Perm (f2 ++ ((f1 ++ f3) ++ gp)) := by
     rw [← arR, ← arR]
     refine (List.perm_append_right_iff gp).mpr ?_
     rw [← arR]
     exact (List.perm_append_right_iff f3).mpr aso
   exact (ass.mp (hp.nodup_iff.mp nd)).2.2 a h2 a ha rfl
 have rF : cC K CL (fun a => if a ∈ f2 then H a else Z a) t.dJ v := rt.dJ sz fun a ha => arU ha
 have afJ : σ.set i (some v) = σ := by
   apply aum
   intro j
   rw [List.getElem?_set]
   split
   . rename_i h; subst h
     split
     . exact hv.symm
     . rename_i h2; rw [ata Q.a]
   . rfl
 have e2 : fQ K CL H (fun a => if a ∈ f2 then H a else Z a) (δ.set i (some (.sh t.dJ))) σ (f1 ++ ([] ++ f3)) := by
   have := put (H' := H) (t' := .sh t.dJ) (v' := v) (g := []) sz (fun _ _ => rfl) (.sh rF)
   rwa [afJ] at this
 refine ⟨v, fun a => if a ∈ f2 then H a else Z a, hv, sz, ⟨⟨f1 ++ ([] ++ f3), [] ++ gp, e2, .cons (.sh rF) (r.mono sz fun _ _ => rfl), ?_, fun a ha => ?_⟩, S.bh, S.zz.trans sz, fun a o q => ?_, fun a o q z => ?_, fun a o q i => sz a o (S.tp a o q i), S.tab⟩⟩
 . exact nd.sublist (asv (asv (asy _) (as6 _ _)) (asy _))
 . have VZ : a ∈ (f1 ++ f3) ++ gp := ha
   have hm : a ∈ (f1 ++ (f2 ++ f3)) ++ gp := by
     simp only [arV] at VZ ⊢
     rcases VZ with (h | h) | h
     . exact .inl (.inl h)
     . exact .inl (.inr (.inr h))
     . exact .inr h
   refine ⟨?_, (k a hm).2⟩
   show (if a ∈ f2 then H a else Z a) = none
   rw [arS (dj a VZ)]
   exact (k a hm).1
 . have q' : (if a ∈ f2 then H a else Z a) = some o := q
   by_cases ha : a ∈ f2
   . rw [arU ha] at q'; exact q'
   . rw [arS ha] at q'; exact S.zh a o q'
 . have q' : (if a ∈ f2 then H a else Z a) = some o := q
   by_cases ha : a ∈ f2
   . exact (nZ a ha).2
   . rw [arS ha] at q'; exact S.new a o q' z
theorem cA.move (S : Q.ab) (hi : δ[i]? = some (some t)) : ∃ v, σ[i]? = some (some v) /\ cA K CL b H Z (δ.set i none) σ (t :: ts) (v :: vs) := by
 obtain ⟨fp, gp, e, r, nd, k⟩ := S.rep
 obtain ⟨v, f1, f2, f3, hv, uU, rt, _, del⟩ := e.get hi
 subst uU
 have afJ : σ.set i (some v) = σ := by
   apply aum
   intro j
   rw [List.getElem?_set]
   split
   . rename_i h; subst h
     split
     . exact hv.symm
     . rename_i h2; rw [ata Q.a]
   . rfl
 have hp : ((f1 ++ (f2 ++ f3)) ++ gp).Perm ((f1 ++ f3) ++ (f2 ++ gp)) := by
   have h1 : (f2 ++ f3).Perm (f3 ++ f2) := aso
   have h2 := (asx f1 h1).append_right gp
   simp only [arR] at h2 ⊢
   exact h2
 refine ⟨v, hv, ⟨⟨f1 ++ f3, f2 ++ gp, ?_, .cons rt r, hp.nodup_iff.mp nd, fun a ha => k a (hp.mem_iff.mpr ha)⟩, S.bh, S.zz, S.zh, S.new, S.tp, S.tab⟩⟩
 have := del (o := some v)
 rwa [afJ] at this
theorem cA.look (S : Q.ab) (hi : δ[i]? = some (some t)) : ∃ v, σ[i]? = some (some v) /\ cC K CL H t.dJ v := by
 obtain ⟨fp, gp, e, r, nd, k⟩ := S.rep
 obtain ⟨v, f1, f2, f3, hv, uU, rt, _, _⟩ := e.get hi
 exact ⟨v, hv, rt.dJ S.zh fun _ _ => rfl⟩
theorem cA.aem {d : D} (S : Q.ab) (hi : δ[i]? = some (some (.sh d))) : ∃ v, σ[i]? = some (some v) /\ cC K CL Z d v := by
 obtain ⟨fp, gp, e, r, nd, k⟩ := S.rep
 obtain ⟨v, f1, f2, f3, hv, uU, rt, _, _⟩ := e.get hi
 cases rt with
 | sh h => exact ⟨v, hv, h⟩
theorem cA.set (S : Q.aZ) (hi : i < δ.length) : cA K CL b H Z (δ.set i (some t)) (σ.set i (some v)) ts vs := by
 obtain ⟨fp, gp, e, r, nd, k⟩ := S.rep
 cases r with
 | @cons _ _ _ _ f1 f2 r1 r2 =>
   obtain ⟨f, h1, f', h2, h3⟩ := e.put r1 hi
   have hp : (f ++ f2).Perm (f' ++ (f1 ++ f2)) := by
     refine (h3.append_right f2).trans ?_
     rw [← arR]
     exact aso.append_right f2
   have ajL : (f' ++ (f1 ++ f2)).Sublist (fp ++ (f1 ++ f2)) := asv h2 (asy _)
   exact ⟨⟨f, f2, h1, r2, hp.nodup_iff.mpr (nd.sublist ajL), fun a ha => k a (ajL.subset (hp.mem_iff.mp ha))⟩, S.bh, S.zz, S.zh, S.new, S.tp, S.tab⟩
mutual
def D.pM : D -> Bool
 | .tup ds => D.bQ ds
 | .lst _ => false
 | .ins _ _ => false
 | .BE _ => false
 | .dct _ => false
 | .any => false
 | _ => true
def D.bQ : List D -> Bool
 | [] => true
 | d :: ds => d.pM && D.bQ ds
end
mutual
def T.clean : T -> Bool
 | .sh d => d.pM
 | .tup ts => T.eB ts
 | .lst ts => T.eB ts
 | .ins _ fs => T.cz fs
 | .BE ql => D.bQ (ql.map (·.2))
 | .dct ql => T.Hs ql
 | .pin _ t => t.clean
def T.eB : List T -> Bool
 | [] => true
 | t :: ts => t.clean && T.eB ts
def T.cz : List Q.A -> Bool
 | [] => true
 | (_, t) :: ts => t.clean && T.cz ts
def T.Hs : List (List Key × T) -> Bool
 | [] => true
 | (_, t) :: ts => t.clean && T.Hs ts
end
def cO (X : Cx) (CL : Q.e) (b : Bx) (e : Expr) (δ : Q.s) (t : T) (δ' : Q.s) : Prop :=
 ∀ (H Z : Hp) (σ : L2.St) (ts : List T) (vs : List V) (Q : VK), cA X.K CL b H Z δ σ ts vs -> (∀ v H' Z', aO Z Z' -> aO H H' -> cA X.K CL b H' Z' δ' σ (t :: ts) (v :: vs) -> Q v H') -> Tr X e σ H Q
def eN (X : Cx) (CL : Q.e) (b : Bx) (e : Expr) (δ : Q.s) (d : D) (δ' : Q.s) : Prop :=
 ∀ (H Z : Hp) (σ : L2.St) (ts : List T) (vs : List V) (Q : VK), cA X.K CL b H Z δ σ ts vs -> (∀ v H' Z', aO Z Z' -> aO H H' -> cA X.K CL b H' Z' δ' σ ts vs -> cC X.K CL H' d v -> Q v H') -> Tr X e σ H Q
def wZ (X : Cx) (CL : Q.e) (b : Bx) (e : Expr) (δ : Q.s) (p : Bool) (δ' : Q.s) : Prop :=
 ∀ (H Z : Hp) (σ : L2.St) (ts : List T) (vs : List V) (Q : Bool -> Hp -> Prop), cA X.K CL b H Z δ σ ts vs -> (∀ H' Z', aO Z Z' -> aO H H' -> cA X.K CL b H' Z' δ' σ ts vs -> Q p H') -> aaT X e σ H Q
def Ro (X : Cx) (CL : Q.e) (b : Bx) (es : List Expr) (δ : Q.s) (tl : List T) (δ' : Q.s) : Prop :=
 ∀ (H Z : Hp) (σ : L2.St) (ts : List T) (vs : List V) (Q : List V -> Hp -> Prop), cA X.K CL b H Z δ σ ts vs →
   (∀ us H' Z', us.length = tl.length -> aO Z Z' -> aO H H' -> cA X.K CL b H' Z' δ' σ (tl.reverse ++ ts) (us.reverse ++ vs) -> Q us H') -> Tt X es σ H Q
def V0 (X : Cx) (CL : Q.e) (b : Bx) (es : List Expr) (δ : Q.s) (ds : List D) (δ' : Q.s) : Prop :=
 ∀ (H Z : Hp) (σ : L2.St) (ts : List T) (vs : List V) (Q : List V -> Hp -> Prop), cA X.K CL b H Z δ σ ts vs →
   (∀ us H' Z', aO Z Z' -> aO H H' -> cA X.K CL b H' Z' δ' σ ts vs -> aK X.K CL H' ds us -> Q us H') -> Tt X es σ H Q
structure i7 where
 nx : List Q.L -> Prop
 rt : T -> List Q.L -> Prop
 bk : List Q.L -> Prop := fun _ => False
 ct : List Q.L -> Prop := fun _ => False
structure Meets (K : Q.n) (CL : Q.e) (b : Bx) (Z : Hp) (ts : List T) (vs : List V) (D : i7) (E : Ends) : Prop where
 nx : ∀ δ' σ' H' Z', aO Z Z' -> cA K CL b H' Z' δ' σ' ts vs -> D.nx δ' -> E.nx σ' H'
 rt : ∀ t v H' Z' δ' σ', aO Z Z' -> cA K CL b H' Z' δ' σ' (t :: ts) (v :: vs) -> D.rt t δ' -> E.rt v H'
 bk : ∀ δ' σ' H' Z', aO Z Z' -> cA K CL b H' Z' δ' σ' ts vs -> D.bk δ' -> E.bk σ' H'
 ct : ∀ δ' σ' H' Z', aO Z Z' -> cA K CL b H' Z' δ' σ' ts vs -> D.ct δ' -> E.ct σ' H'
def TSv (X : Cx) (CL : Q.e) (b : Bx) (st : Stmt) (δ : Q.s) (D : i7) : Prop :=
 ∀ (H Z : Hp) (σ : L2.St) (ts : List T) (vs : List V) (E : Ends), cA X.K CL b H Z δ σ ts vs -> Meets X.K CL b Z ts vs D E -> afH X st E σ H
def ic (X : Cx) (CL : Q.e) (b : Bx) (st : List Stmt) (δ : Q.s) (D : i7) : Prop :=
 ∀ (H Z : Hp) (σ : L2.St) (ts : List T) (vs : List V) (E : Ends), cA X.K CL b H Z δ σ ts vs -> Meets X.K CL b Z ts vs D E -> afI X st E σ H
theorem Meets.mono {D : i7} {E : Ends} (M : Meets K CL b Z ts vs D E) (e : aO Z Z') : Meets K CL b Z' ts vs D E :=
 ⟨fun _ _ _ _ s => M.nx _ _ _ _ (e.trans s), fun _ _ _ _ _ _ s => M.rt _ _ _ _ _ _ (e.trans s), fun _ _ _ _ s => M.bk _ _ _ _ (e.trans s), fun _ _ _ _ s => M.ct _ _ _ _ (e.trans s)⟩
theorem Rp (zh : Q.bH) (h : xW K H a xs) : xW K Z a xs := by
 rcases h with (h | ⟨o, h⟩) | h
 . exact .inl (.inl (zh _ _ h rfl))
 . exact .inl (.inr ⟨o, zh _ _ h rfl⟩)
 . exact .inr h
theorem cC.pM (zh : Q.bH) {d : D} (k : d.pM = true) (h : cC K CL H d v) : cC K CL Z d v :=
 cC.rec (motive_1 := fun d v _ => d.pM = true -> cC K CL Z d v) (motive_2 := fun d v _ => D.bQ d = true -> aK K CL Z d v) (motive_3 := fun d v _ => True) (motive_4 := fun d v _ => True) (motive_5 := fun d v _ => True)
   (fun _ => .non) (fun b _ => .bl b) (fun b _ => .int b) (fun b _ => .str b) (fun _ k => by rw [D.pM] at k; cases k) (fun b _ => .val b) (fun h _ r k => .tup (Rp zh h) (r (by rw [D.pM] at k; exact k))) Q.aY Q.aY Q.aY Q.aY Q.ak (fun _ _ h r k => by rw [D.bQ, asa] at k; exact .cons (h k.1) (r k.2)) trivial Q.Z trivial Q.Z trivial Q.Z h k
theorem aK.pM (zh : Q.bH) {d : List D} {v : List V} (k : D.bQ d = true) (h : aK K CL H d v) : aK K CL Z d v :=
 aK.rec (motive_1 := fun d v _ => d.pM = true -> cC K CL Z d v) (motive_2 := fun d v _ => D.bQ d = true -> aK K CL Z d v) (motive_3 := fun d v _ => True) (motive_4 := fun d v _ => True) (motive_5 := fun d v _ => True)
   (fun _ => .non) (fun b _ => .bl b) (fun b _ => .int b) (fun b _ => .str b) (fun _ k => by rw [D.pM] at k; cases k) (fun b _ => .val b) (fun h _ r k => .tup (Rp zh h) (r (by rw [D.pM] at k; exact k))) Q.aY Q.aY Q.aY Q.aY Q.ak (fun _ _ h r k => by rw [D.bQ, asa] at k; exact .cons (h k.1) (r k.2)) trivial Q.Z trivial Q.Z trivial Q.Z h k
theorem gJ.clean {Z1 : Hp} (zi : ∀ {d : D} {v : V}, d.pM = true -> cC K CL Z1 d v -> cC K CL Z d v) {ql : List (Key × D)} {gs : List (Key × V)} (k : D.bQ (ql.map (·.2)) = true) (h : gJ K CL Z1 ql gs) : gJ K CL Z ql gs :=
 gJ.ind (P := fun ql gs => D.bQ (ql.map (·.2)) = true -> gJ K CL Z ql gs) Q.ak (fun h _ i k => by rw [asl, D.bQ, asa] at k; exact .cons (zi k.1 h) (i k.2)) h k
theorem eL.clean {Z1 : Hp} (zh : ∀ a xs, Z1 a = some (.tup xs) -> Z a = some (.tup xs)) (zi : ∀ {d : D} {v : V}, d.pM = true -> cC K CL Z1 d v -> cC K CL Z d v) (k : t.clean = true) (h : eL K CL H Z1 t v fp) : eL K CL H Z t v fp :=
 eL.rec (motive_1 := fun t v fp _ => t.clean = true -> eL K CL H Z t v fp) (motive_2 := fun t v fp _ => T.eB t = true -> bu K CL H Z t v fp) (motive_3 := fun t v fp _ => T.cz t = true -> fF K CL H Z t v fp) (motive_4 := fun t v fp _ => T.Hs t = true -> AK K CL H Z t v fp)
   (fun h k => .sh (zi Q.bl h)) (fun h _ r k => .tup (zh _ _ h) (r Q.bl)) (fun h _ r k => .lst h (r Q.bl)) (fun h _ r k => .ins h (r Q.bl)) (fun h f k => .BE h (gJ.clean zi Q.bl f)) (fun h _ r k => .dct h (r Q.bl)) (fun _ r k => .pin (r Q.bl)) Q.ak (fun _ _ h r k => by rw [T.eB, asa] at k; exact .cons (h k.1) (r k.2)) Q.ak (fun _ _ h r k => by rw [T.cz, asa] at k; exact .cons (h k.1) (r k.2)) Q.ak (fun _ _ h r k => by rw [T.Hs, asa] at k; exact .cons (h k.1) (r k.2)) h k
theorem cA.back {W W' : Hp} (S : Q.ab) (hh : aO H H') (zw : aO Z W) (ww : aO W W') (wh : aO W' H') (new : ∀ a o, W' a = some o -> W a = none -> H a = none)
   (tp : ∀ a o, H' a = some o -> pL o = true -> W' a = some o) (r : eL K CL H' W' t v fp) (nd : fp.Nodup) (own : ∀ a ∈ fp, W' a = none /\ H a = none) (c : W = Z \/ t.clean = true) :
   ∃ Z', aO Z Z' /\ cA K CL b H' Z' δ σ (t :: ts) (v :: vs) := by
 classical
 let Z' : Hp := fun a => if (H a).isSome = true then Z a else W' a
 have zs : ∀ {a : Addr} {o : HO}, H a = some o -> Z' a = Z a := fun {a o} e => by
   show (if (H a).isSome = true then Z a else W' a) = Z a
   rw [arU (by rw [e]; rfl)]
 have zn : ∀ {a : Addr}, H a = none -> Z' a = W' a := fun {a} e => by
   show (if (H a).isSome = true then Z a else W' a) = W' a
   rw [arS (by rw [e]; simp)]
 have sz : aO Z Z' := fun a o q => by rw [zs (S.zh a o q)]; exact q
 have zw' : ∀ a o, Z' a = some o -> W' a = some o := fun a o q => by
   cases e : H a with
   | none => rw [zn e] at q; exact q
   | some u => rw [zs e] at q; exact ww a o (zw a o q)
 have ztp : ∀ a o, H' a = some o -> pL o = true -> Z' a = some o := fun a o q i => by
   cases e : H a with
   | none => rw [zn e]; exact tp a o q i
   | some u =>
     rw [zs e]
     have := hh a u e
     rw [q] at this; cases this
     exact S.tp a o e i
 have r' : eL K CL H' Z' t v fp := by
   rcases c with c | c
   . have : Z' = W' := by
       funext a
       cases e : H a with
       | none => exact zn e
       | some u =>
         rw [zs e]
         cases q : W' a with
         | none =>
           cases q2 : Z a with
           | none => rfl
           | some o => rw [ww a o (zw a o q2)] at q; cases q
         | some o =>
           cases q2 : W a with
           | none => rw [new a o q q2] at e; cases e
           | some o2 =>
             have := ww a o2 q2
             rw [q] at this; cases this
             rw [← c]; exact q2
     rw [this]; exact r
   . refine eL.clean (fun a xs h => ?_) (fun {d v} k h => ?_) c r
     . exact ztp a _ (wh a _ h) rfl
     . exact cC.pM (H := H') ztp k (h.mono wh)
 obtain ⟨f0, g0, e0, r0, nd0, k0⟩ := S.rep
 have old : ∀ a ∈ f0 ++ g0, ∃ o, H a = some o := fun a ha => (arV.mp ha).elim (e0.there a) (r0.there a)
 have keep : ∀ a ∈ f0 ++ g0, H' a = H a := fun a ha => by
   obtain ⟨o, e⟩ := old a ha
   rw [e]; exact hh a o e
 refine ⟨Z', sz, ⟨⟨f0, fp ++ g0, e0.mono sz (fun a ha => keep a (arW _ ha)), .cons r' (r0.mono sz fun a ha => keep a (arQ _ ha)), ?_, fun a ha => ?_⟩, S.bh.trans hh, S.zz.trans sz, fun a o q => wh a o (zw' a o q), fun a o q z => ?_, ztp, S.tab⟩⟩
 . have hp : (f0 ++ (fp ++ g0)).Perm (fp ++ (f0 ++ g0)) := by
     rw [← arR, ← arR]
     exact aso.append_right g0
   refine hp.nodup_iff.mpr (ass.mpr ⟨nd, nd0, fun a ha c hc e => ?_⟩)
   subst e
   obtain ⟨o, q⟩ := old a hc
   rw [(own a ha).2] at q; cases q
 . have : a ∈ f0 ++ g0 \/ a ∈ fp := by
     simp only [arV] at ha ⊢
     rcases ha with h | h | h
     . exact .inl (.inl h)
     . exact .inr h
     . exact .inl (.inr h)
   rcases this with h | h
   . obtain ⟨o, q⟩ := old a h
     exact ⟨by rw [zs q]; exact (k0 a h).1, (k0 a h).2⟩
   . exact ⟨by rw [zn (own a h).2]; exact (own a h).1, S.bh.free (own a h).2⟩
 . cases e : H a with
   | none => exact S.bh.free e
   | some u => rw [zs e] at q; exact S.new a o q z
section
variable {δ1 δ2 : Q.s} {e1 e2 : Expr} {pos : Pos} {d d1 d2 : D}
theorem AO (h : Q.ai) : eN X CL b e δ t.dJ δ1 := fun H Z σ ts vs Q S k => h H Z σ ts vs Q S fun v H' Z' z s S' => k v H' Z' z s S'.pop S'.view
theorem ah (h : cO X CL b e δ (.sh d) δ1) : eN X CL b e δ d δ1 := by have := AO h; rwa [T.dJ] at this
theorem cj (h : Q.aL) (i : d.pM = true) : cO X CL b e δ (.sh d) δ1 := fun H Z σ ts vs Q S k => h H Z σ ts vs Q S fun v H' Z' z s S' r => k v H' Z' z s (S'.push (cC.pM S'.tp i r))
theorem Oj (h : Q.ai) : cO X CL b e δ (.sh t.dJ) δ1 := fun H Z σ ts vs Q S k => h H Z σ ts vs Q S fun v H' Z' z s S' => by
 obtain ⟨Z2, z2, S2⟩ := S'.VY
 exact k v H' Z2 (z.trans z2) s S2
theorem aj {i : Int} {j : Nat} : cO X CL b (.Constant (.int i) j pos) δ (.sh (.int i)) δ := fun H Z σ ts vs Q S k => dX Vp (k _ _ Z Q.m Q.m (S.push (.int i)))
theorem tu {i : Bool} {j : Nat} : cO X CL b (.Constant (.bool i) j pos) δ (.sh (.bl i)) δ := fun H Z σ ts vs Q S k => dX aee (k _ _ Z Q.m Q.m (S.push (.bl i)))
theorem aX {x : Str} {j : Nat} : cO X CL b (.Constant (.str x) j pos) δ (.sh (.str x)) δ := fun H Z σ ts vs Q S k => dX ae0 (k _ _ Z Q.m Q.m (S.push (.str x)))
section
variable {x : Str} (i : Nat) (hi : X.N[i]? = some x := by rfl) (hv : Vis X.env.scope x := by first | exact Or.inl rfl | exact Or.inr (Or.inl rfl) | exact Or.inr (Or.inr rfl)) (hd : Q.B := by decide) (qS : Q.aH := by decide)
include hi hv hd qS
theorem afK (h : δ[i]? = some (some (.sh d)) := by rfl) : cO X CL b Q.S δ (.sh d) δ := fun H Z σ ts vs Q S k => by
 obtain ⟨v, e, r⟩ := S.aem h
 exact dX (mq hi hv hd qS) ⟨v, e, k v H Z Q.m Q.m (S.push r)⟩
theorem aaX (h : δ[i]? = some (some t) := by rfl) : cO X CL b Q.S δ (.sh t.dJ) (δ.set i (some (.sh t.dJ))) := fun H Z σ ts vs Q S k => by
 obtain ⟨v, Z', e, z, S'⟩ := S.aaW h
 exact dX (mq hi hv hd qS) ⟨v, e, k v H Z' z Q.m S'⟩
theorem aaY (h : δ[i]? = some (some t) := by rfl) : cO X CL b Q.S δ t (δ.set i none) := fun H Z σ ts vs Q S k => by
 obtain ⟨v, e, S'⟩ := S.move h
 exact dX (mq hi hv hd qS) ⟨v, e, k v H Z Q.m Q.m S'⟩
theorem afL (h : δ[i]? = some (some t) := by rfl) : eN X CL b Q.S δ t.dJ δ := fun H Z σ ts vs Q S k => by
 obtain ⟨v, e, r⟩ := S.look h
 exact dX (mq hi hv hd qS) ⟨v, e, k v H Z Q.m Q.m S r⟩
end
def scV : D -> Option V
 | .non => some .non
 | .bl b => some (.bl b)
 | .int i => some (.int i)
 | .str x => some (.str x)
 | _ => none
theorem cC.sc {d : D} {w : V} (r : cC K CL Z d v) (h : scV d = some w) : v = w := by
 cases r <;> first | (exact asH h) | (cases h)
theorem aaZ {d : D} {w : V} (h : scV d = some w) : cC K CL Z d w := by
 cases d <;> first | (cases h; constructor) | (cases h)
theorem w9 {op : Operator} {r : R2} {w1 w2 w : V} (ho : Bk X (binaryOp op) r) (h1 : eN X CL b e1 δ d1 δ1) (h2 : eN X CL b e2 δ1 d2 δ2) (s1 : scV d1 = some w1) (s2 : scV d2 = some w2) (s3 : scV d = some w)
   (hr : ∀ (H : Hp) (Q : VK), Q w H -> r w1 w2 H Q) : cO X CL b (.BinOp e1 op e2 pos) δ (.sh d) δ2 := fun H Z σ ts vs Q S k => by
 refine dX (Vx ho fG fG) (h1 H Z σ ts vs _ S fun v1 H1 Z1 z1 k1 S1 r1 => h2 H1 Z1 σ ts vs _ S1 fun v2 H2 Z2 z2 k2 S2 r2 => ?_)
 rw [r1.sc s1, r2.sc s2]
 exact hr H2 Q (k w H2 Z2 Q.C Q.K (S2.push (aaZ s3)))
theorem dM {i j : Int} (h1 : Q.ax) (h2 : Q.aI) : cO X CL b (.BinOp e1 .Add e2 pos) δ (.sh (.int (i + j))) δ2 := w9 afo h1 h2 rfl rfl rfl fun _ _ q => ⟨i, j, rfl, rfl, q⟩
theorem tD {i j : Int} (h1 : Q.ax) (h2 : Q.aI) : cO X CL b (.BinOp e1 .Sub e2 pos) δ (.sh (.int (i - j))) δ2 := w9 afp h1 h2 rfl rfl rfl fun _ _ q => ⟨i, j, rfl, rfl, q⟩
theorem C3 {i j : Int} (h1 : Q.ax) (h2 : Q.aI) (c : aaD i j) : cO X CL b (.BinOp e1 .Mult e2 pos) δ (.sh (.int (i * j))) δ2 := w9 afq h1 h2 rfl rfl rfl fun _ _ q => ⟨i, j, rfl, rfl, c, q⟩
theorem bW {i j : Int} (h1 : Q.ax) (h2 : Q.aI) (c : 0 < j) : cO X CL b (.BinOp e1 .Mod e2 pos) δ (.sh (.int (i % j))) δ2 := w9 afr h1 h2 rfl rfl rfl fun _ _ q => ⟨i, j, rfl, rfl, c, q⟩
theorem cW {i j : Int} (h1 : Q.ax) (h2 : Q.aI) (c : ajs i j) : cO X CL b (.BinOp e1 .FloorDiv e2 pos) δ (.sh (.int (i / j))) δ2 := w9 aaE h1 h2 rfl rfl rfl fun _ _ q => ⟨i, j, rfl, rfl, c, q⟩
theorem Ol {i j : Int} (h1 : Q.ax) (h2 : Q.aI) (c : ajt i j) : cO X CL b (.BinOp e1 .Pow e2 pos) δ (.sh (.int (i ^ j.toNat))) δ2 := w9 afs h1 h2 rfl rfl rfl fun _ _ q => ⟨i, j, rfl, rfl, c, q⟩
theorem xg {x y : Str} (h1 : eN X CL b e1 δ (.str x) δ1) (h2 : eN X CL b e2 δ1 (.str y) δ2) (c : x.length + y.length <= sizeLine) : cO X CL b (.BinOp e1 .Add e2 pos) δ (.sh (.str (x ++ y))) δ2 := w9 N4 h1 h2 rfl rfl rfl fun _ _ q => ⟨x, y, rfl, rfl, c, q⟩
theorem C4 {op : CmpOp} {r : R2} {p : Bool} {w1 w2 : V} (ho : Bk X (compareOp op) r) (h1 : eN X CL b e1 δ d1 δ1) (h2 : eN X CL b e2 δ1 d2 δ2) (s1 : scV d1 = some w1) (s2 : scV d2 = some w2)
   (hr : ∀ (H : Hp) (Q : VK), Q (.bl p) H -> r w1 w2 H Q) (hm : behindInMarks op e2 = false) : wZ X CL b (.Compare e1 [op] [e2] pos) δ p δ2 /\ cO X CL b (.Compare e1 [op] [e2] pos) δ (.sh (.bl p)) δ2 := by
 constructor
 . intro H Z σ ts vs Q S k
   refine Hq (uR ho fG fG hm) (h1 H Z σ ts vs _ S fun v1 H1 Z1 z1 k1 S1 r1 => h2 H1 Z1 σ ts vs _ S1 fun v2 H2 Z2 z2 k2 S2 r2 => ?_)
   rw [r1.sc s1, r2.sc s2]
   exact hr H2 _ ⟨p, rfl, k H2 Z2 Q.C Q.K S2⟩
 . intro H Z σ ts vs Q S k
   refine dX (uQ ho fG fG hm) (h1 H Z σ ts vs _ S fun v1 H1 Z1 z1 k1 S1 r1 => h2 H1 Z1 σ ts vs _ S1 fun v2 H2 Z2 z2 k2 S2 r2 => ?_)
   rw [r1.sc s1, r2.sc s2]
   exact hr H2 _ (k _ H2 Z2 Q.C Q.K (S2.push (.bl p)))
theorem eU {i j : Int} (h1 : Q.ax) (h2 : Q.aI) : wZ X CL b (.Compare e1 [.Eq] [e2] pos) δ (decide (i = j)) δ2 /\ cO X CL b (.Compare e1 [.Eq] [e2] pos) δ (.sh (.bl (decide (i = j)))) δ2 :=
 C4 aeg h1 h2 rfl rfl (fun _ _ q => ⟨rfl, by rw [show decide (V.int i = V.int j) = decide (i = j) by simp]; exact q⟩) (sY _)
theorem pN {i j : Int} (h1 : Q.ax) (h2 : Q.aI) : wZ X CL b Q.ba δ (!decide (i = j)) δ2 /\ cO X CL b Q.ba δ (.sh (.bl (!decide (i = j)))) δ2 :=
 C4 Vz h1 h2 rfl rfl (fun _ _ q => ⟨rfl, by rw [show decide (V.int i = V.int j) = decide (i = j) by simp]; exact q⟩) (sY _)
theorem d7 {i j : Str} (h1 : eN X CL b e1 δ (.str i) δ1) (h2 : eN X CL b e2 δ1 (.str j) δ2) : wZ X CL b (.Compare e1 [.Eq] [e2] pos) δ (decide (i = j)) δ2 /\ cO X CL b (.Compare e1 [.Eq] [e2] pos) δ (.sh (.bl (decide (i = j)))) δ2 :=
 C4 aeg h1 h2 rfl rfl (fun _ _ q => ⟨rfl, by rw [show decide (V.str i = V.str j) = decide (i = j) by simp]; exact q⟩) (sY _)
theorem V1 {i j : Str} (h1 : eN X CL b e1 δ (.str i) δ1) (h2 : eN X CL b e2 δ1 (.str j) δ2) : wZ X CL b Q.ba δ (!decide (i = j)) δ2 /\ cO X CL b Q.ba δ (.sh (.bl (!decide (i = j)))) δ2 :=
 C4 Vz h1 h2 rfl rfl (fun _ _ q => ⟨rfl, by rw [show decide (V.str i = V.str j) = decide (i = j) by simp]; exact q⟩) (sY _)
theorem ajM {i j : Int} (h1 : Q.ax) (h2 : Q.aI) : wZ X CL b (.Compare e1 [.Lt] [e2] pos) δ (decide (i < j)) δ2 /\ cO X CL b (.Compare e1 [.Lt] [e2] pos) δ (.sh (.bl (decide (i < j)))) δ2 := C4 ajv h1 h2 rfl rfl (fun _ _ q => ⟨i, j, rfl, rfl, q⟩) (sY _)
theorem Ga {i j : Int} (h1 : Q.ax) (h2 : Q.aI) : wZ X CL b (.Compare e1 [.Gt] [e2] pos) δ (decide (j < i)) δ2 /\ cO X CL b (.Compare e1 [.Gt] [e2] pos) δ (.sh (.bl (decide (j < i)))) δ2 := C4 ajw h1 h2 rfl rfl (fun _ _ q => ⟨i, j, rfl, rfl, q⟩) (sY _)
end
theorem bu.split : ∀ {as bs : List T} {us ws : List V} {gp : Q.t}, as.length = us.length -> bu K CL H Z (as ++ bs) (us ++ ws) gp -> ∃ g1 g2, gp = g1 ++ g2 /\ bu K CL H Z as us g1 /\ bu K CL H Z bs ws g2
 | [], _, [], _, gp, _, r => ⟨[], gp, rfl, .nil, r⟩
 | [], _, _ :: _, _, _, h, _ => by simp at h
 | _ :: _, _, [], _, _, h, _ => by simp at h
 | a :: as, bs, u :: us, ws, gp, h, r => by
   cases r with
   | @cons _ _ _ _ f1 f2 r1 r2 =>
     obtain ⟨g1, g2, e, h1, h2⟩ := bu.split (as := as) (us := us) (by simpa using h) r2
     exact ⟨f1 ++ g1, g2, by rw [e, arR], .cons r1 h1, h2⟩
variable {us : List V}
theorem bu.app {as bs : List T} {ws : List V} {g1 g2 : Q.t} (h : bu K CL H Z as us g1) (q : bu K CL H Z bs ws g2) : bu K CL H Z (as ++ bs) (us ++ ws) (g1 ++ g2) :=
 bu.ind (P := fun as us g1 => bu K CL H Z (as ++ bs) (us ++ ws) (g1 ++ g2)) q (fun r _ i => by rw [arR]; exact .cons r i) h
theorem bu.rev : ∀ {as : List T} {us : List V} {g : Q.t}, bu K CL H Z as.reverse us.reverse g -> ∃ g', bu K CL H Z as us g' /\ g'.Perm g
 | [], [], g, r => by
   have r' : bu K CL H Z [] [] g := r
   cases r'
   exact ⟨[], .nil, aui _⟩
 | [], u :: us, g, r => by have := r.length; simp at this
 | a :: as, [], g, r => by have := r.length; simp at this
 | a :: as, u :: us, g, r => by
   rw [asz, asz] at r
   have hl := r.length
   obtain ⟨g1, g2, e, r1, r2⟩ := bu.split (by simp at hl ⊢; omega) r
   subst e
   obtain ⟨g', r', p⟩ := bu.rev r1
   cases r2 with
   | @cons _ _ _ _ f1 f2 q1 q2 =>
     cases q2
     refine ⟨f1 ++ g', .cons q1 r', ?_⟩
     rw [asj]
     exact (asx f1 p).trans aso
theorem bu.ofF : ∀ {ds : List D} {us : List V}, aK K CL Z ds us -> bu K CL H Z (ds.map T.sh) us []
 | _, _, .nil => .nil
 | _, _, .cons r t => .cons (fp := []) (gp := []) (.sh r) (bu.ofF t)
theorem bu.toF : ∀ {ds : List D} {us : List V} {g : Q.t}, bu K CL H Z (ds.map T.sh) us g -> aK K CL Z ds us /\ g = []
 | [], _, _, r => by
   have r' : bu K CL H Z [] _ _ := r
   cases r'
   exact ⟨.nil, rfl⟩
 | d :: ds, _, _, r => by
   have r' : bu K CL H Z (T.sh d :: ds.map T.sh) _ _ := r
   cases r' with
   | cons r1 r2 =>
     cases r1 with
     | sh h =>
       obtain ⟨q, e⟩ := bu.toF r2
       exact ⟨.cons h q, by rw [e]; rfl⟩
theorem eV : ∀ (ds : List D), T.ez (ds.map T.sh) = ds
 | [] => rfl
 | d :: ds => by rw [asl, T.ez, eV ds, T.dJ]
variable {tl : List T}
theorem cA.V2 (S : cA K CL b H Z δ σ (tl.reverse ++ ts) (us.reverse ++ vs)) (hl : us.length = tl.length) (hp : H p = none) :
   aO Z (upd Z p (.tup us)) /\ aO H (upd H p (.tup us)) /\ cA K CL b (upd H p (.tup us)) (upd Z p (.tup us)) δ σ (.tup tl :: ts) (.ref p :: vs) := by
 obtain ⟨fp, gp, e, r, nd, k⟩ := S.rep
 obtain ⟨g1, g2, eg, r1, r2⟩ := bu.split (by simp [hl]) r
 subst eg
 obtain ⟨g', r', pm⟩ := r1.rev
 have zp : Z p = none := S.zh.free hp
 have sz : aO Z (upd Z p (.tup us)) := aO.upd zp
 have sh : aO H (upd H p (.tup us)) := aO.upd hp
 have keep : ∀ a ∈ fp ++ (g1 ++ g2), a ≠ p := fun a ha => by
   have : ∃ o, H a = some o := by
     rcases arV.mp ha with h | h
     . exact e.there a h
     . exact r.there a h
   obtain ⟨o, q⟩ := this
   exact cE q hp
 have V3 : (fp ++ (g' ++ g2)).Perm (fp ++ (g1 ++ g2)) := (pm.append_right g2).append_left fp
 have kk : ∀ a ∈ fp ++ (g' ++ g2), a ≠ p := fun a ha => keep a (V3.mem_iff.mp ha)
 refine ⟨sz, sh, ⟨⟨fp, g' ++ g2, e.mono sz (fun a ha => aL (keep a (arW _ ha))), .cons (.tup b9 (r'.mono sz fun a ha => aL (kk a (by simp [ha])))) (r2.mono sz fun a ha => aL (keep a (by simp [ha]))), V3.nodup_iff.mpr nd, fun a ha => ?_⟩, S.bh.trans sh, S.zz.trans sz, fun a o q => ?_, fun a o q z => ?_, fun a o q i => ?_, S.tab⟩⟩
 . exact ⟨by rw [aL (kk a ha)]; exact (k a (V3.mem_iff.mp ha)).1, (k a (V3.mem_iff.mp ha)).2⟩
 . by_cases ha : a = p
   . subst ha; rw [b9] at q ⊢; exact q
   . rw [aL ha] at q ⊢; exact S.zh a o q
 . by_cases ha : a = p
   . subst ha; exact S.bh.free hp
   . rw [aL ha] at q; exact S.new a o q z
 . by_cases ha : a = p
   . subst ha; rw [b9] at q ⊢; exact q
   . rw [aL ha] at q ⊢; exact S.tp a o q i
theorem cA.qW {g0 : Q.t} (S : cA K CL b H Z δ σ (tl.reverse ++ ts) (us.reverse ++ vs)) (hl : us.length = tl.length) (hp : H p = none) :
   aO H (upd H p (.lst us)) /\ cA K CL b (upd H p (.lst us)) Z δ σ (.lst tl :: ts) (.ref p :: vs) := by
 obtain ⟨fp, gp, e, r, nd, k⟩ := S.rep
 obtain ⟨g1, g2, eg, r1, r2⟩ := bu.split (by simp [hl]) r
 subst eg
 obtain ⟨g', r', pm⟩ := r1.rev
 have zp : Z p = none := S.zh.free hp
 have sh : aO H (upd H p (.lst us)) := aO.upd hp
 have keep : ∀ a ∈ fp ++ (g1 ++ g2), a ≠ p := fun a ha => by
   have : ∃ o, H a = some o := by
     rcases arV.mp ha with h | h
     . exact e.there a h
     . exact r.there a h
   obtain ⟨o, q⟩ := this
   exact cE q hp
 have V3 : (fp ++ (g' ++ g2)).Perm (fp ++ (g1 ++ g2)) := (pm.append_right g2).append_left fp
 have kk : ∀ a ∈ fp ++ (g' ++ g2), a ≠ p := fun a ha => keep a (V3.mem_iff.mp ha)
 have pm3 : (fp ++ ((p :: g') ++ g2)).Perm (p :: (fp ++ (g' ++ g2))) := by
   rw [asb]; exact atH
 refine ⟨sh, ⟨⟨fp, (p :: g') ++ g2, e.mono Q.m (fun a ha => aL (keep a (arW _ ha))), .cons (.lst b9 (r'.mono Q.m fun a ha => aL (kk a (by simp [ha])))) (r2.mono Q.m fun a ha => aL (keep a (by simp [ha]))), ?_, fun a ha => ?_⟩, S.bh.trans sh, S.zz, S.zh.trans sh, S.new, fun a o q i => ?_, S.tab⟩⟩
 . refine pm3.nodup_iff.mpr (as2.mpr ⟨fun h => kk p h rfl, V3.nodup_iff.mpr nd⟩)
 . rcases arP.mp (pm3.mem_iff.mp ha) with h | h
   . subst h; exact ⟨zp, S.bh.free hp⟩
   . exact k a (V3.mem_iff.mp h)
 . by_cases ha : a = p
   . subst ha; rw [b9] at q; cases q; cases i
   . rw [aL ha] at q; exact S.tp a o q i
variable {δ1 δ2 : Q.s} {e1 e2 : Expr} {p q : Bool} {pos : Pos} {d : D} {ds : List D}
theorem b8 : Ro X CL b [] δ [] δ := fun H Z σ ts vs Q S k => Hr fc (k [] H Z rfl Q.m Q.m S)
theorem aN (h1 : Q.ai) (h2 : Ro X CL b es δ1 tl δ2) (hs : Q.Y := by exact bK rfl) : Ro X CL b Q.D δ (t :: tl) δ2 := fun H Z σ ts vs Q S k =>
 Hr (cD fG Oh hs) (h1 H Z σ ts vs _ S fun v H1 Z1 z1 k1 S1 => h2 H1 Z1 σ _ _ _ S1 fun us H2 Z2 hl z2 k2 S2 => k (v :: us) H2 Z2 (by simp [hl]) Q.C Q.K (by
   rw [asz, asz, arR, arR]
   exact S2))
theorem aB : V0 X CL b [] δ [] δ := fun H Z σ ts vs Q S k => Hr fc (k [] H Z Q.m Q.m S .nil)
theorem ai (h1 : Q.aL) (h2 : V0 X CL b es δ1 ds δ2) (hs : Q.Y := by exact bK rfl) : V0 X CL b Q.D δ (d :: ds) δ2 := fun H Z σ ts vs Q S k =>
 Hr (cD fG Oh hs) (h1 H Z σ ts vs _ S fun v H1 Z1 z1 k1 S1 r1 => h2 H1 Z1 σ _ _ _ S1 fun us H2 Z2 z2 k2 S2 r2 => k (v :: us) H2 Z2 Q.C Q.K S2 (.cons (r1.mono k2) r2))
variable {j : Nat}
theorem mw (h : Ro X CL b es δ tl δ1) (hl : tl.length <= sizeLine) : cO X CL b (.Tuple es j pos) δ (.tup tl) δ1 := fun H Z σ ts vs Q S k =>
 dX (afw Oh) (h H Z σ ts vs _ S fun us H1 Z1 hu z1 k1 S1 => ⟨by rw [hu]; exact hl, fun p hp => by
   obtain ⟨a, c, S2⟩ := S1.V2 hu hp
   exact k _ _ _ (z1.trans a) (k1.trans c) S2⟩)
theorem fS (h : Ro X CL b es δ (ds.map T.sh) δ1) (hl : Q.aT) : cO X CL b (.Tuple es j pos) δ (.sh (.tup ds)) δ1 := by
 have := Oj (mw (pos := pos) (j := j) h (by simpa using hl))
 rwa [T.dJ, eV] at this
theorem d8 (h : Ro X CL b es δ tl δ1) (hl : tl.length <= sizeLine) : cO X CL b (.List es pos) δ (.lst tl) δ1 := fun H Z σ ts vs Q S k =>
 dX (afx Oh) (h H Z σ ts vs _ S fun us H1 Z1 hu z1 k1 S1 => ⟨by rw [hu]; exact hl, fun p hp => by
   obtain ⟨c, S2⟩ := S1.qW (g0 := []) hu hp
   exact k _ _ _ z1 (k1.trans c) S2⟩)
theorem g6 (h : cO X CL b e δ (.sh (.bl p)) δ1) (he : ∀ whole, isTrue e X.env whole = (do let v ← whole; standAt e.pos; holding [v] (truthy v)) := by intro _; rfl) : wZ X CL b e δ p δ1 := fun H Z σ ts vs Q S k =>
 Hq (ae3 fG he) (h H Z σ ts vs _ S fun v H1 Z1 z1 k1 S1 => ⟨p, by have := S1.view; rw [T.dJ] at this; exact this.sc rfl, k H1 Z1 z1 k1 S1.pop⟩)
theorem tE (h : Q.aV) : wZ X CL b (.UnaryOp .Not e pos) δ (!p) δ1 := fun H Z σ ts vs Q S k => Hq (ae6 ptS) (h H Z σ ts vs _ S fun H1 Z1 z1 k1 S1 => k H1 Z1 z1 k1 S1)
def afN (X : Cx) (e : Expr) : TT := fun σ H Q => ∀ (whole : Sem Value) (pins : Q.v) (s : Shared), Inv X pins σ H s -> wpAny Q.o X.A (isTrue e X.env whole) (TP X pins σ Q) X.xe s
theorem pwS : PW X e (afN X e) := fun whole pins s _ _ _ I h => h whole pins s I
def TWv (X : Cx) (CL : Q.e) (b : Bx) (e : Expr) (δ : Q.s) (p : Bool) (δ' : Q.s) : Prop :=
 ∀ (H Z : Hp) (σ : L2.St) (ts : List T) (vs : List V) (Q : Bool -> Hp -> Prop), cA X.K CL b H Z δ σ ts vs -> (∀ H' Z', aO Z Z' -> aO H H' -> cA X.K CL b H' Z' δ' σ ts vs -> Q p H') -> afN X e σ H Q
theorem aa0 {t : TT} (h : PW X e t) (q : t σ H Q) : afN X e σ H Q := fun whole pins s I => h whole pins s σ H Q I q
theorem pO (h : TWv X CL b e δ p δ1) : wZ X CL b e δ p δ1 := fun H Z σ ts vs Q S k pins s I => h H Z σ ts vs Q S k _ pins s I
theorem kW (h : Q.aV) : TWv X CL b (.BoolOp .And [e] pos) δ p δ1 := fun H Z σ ts vs Q S k => aa0 (aay ptS) (h H Z σ ts vs _ S k)
theorem pP (h : Q.aV) : TWv X CL b (.BoolOp .Or [e] pos) δ p δ1 := fun H Z σ ts vs Q S k => aa0 (ae4 ptS) (h H Z σ ts vs _ S k)
theorem nA (h : Q.aV) (h2 : p = true -> TWv X CL b (.BoolOp .And (e2 :: es) pos) δ1 q δ1) : TWv X CL b (.BoolOp .And (e :: e2 :: es) pos) δ (p && q) δ1 := fun H Z σ ts vs Q S k =>
 aa0 (ae5 ptS pwS) (h H Z σ ts vs _ S fun H1 Z1 z1 k1 S1 => by
   cases p with
   | true => exact Og (h2 rfl H1 Z1 σ ts vs _ S1 fun H2 Z2 z2 k2 S2 => k H2 Z2 Q.C Q.K S2)
   | false => exact Oe (k H1 Z1 z1 k1 S1))
theorem tF (h : Q.aV) (h2 : p = false -> TWv X CL b (.BoolOp .Or (e2 :: es) pos) δ1 q δ1) : TWv X CL b (.BoolOp .Or (e :: e2 :: es) pos) δ (p || q) δ1 := fun H Z σ ts vs Q S k =>
 aa0 (ajb ptS pwS) (h H Z σ ts vs _ S fun H1 Z1 z1 k1 S1 => by
   cases p with
   | true => exact Og (k H1 Z1 z1 k1 S1)
   | false => exact Oe (h2 rfl H1 Z1 σ ts vs _ S1 fun H2 Z2 z2 k2 S2 => k H2 Z2 Q.C Q.K S2))
theorem Ht {op : BoolOp} (h : Q.ai) : cO X CL b (.BoolOp op [e] pos) δ t δ1 := fun H Z σ ts vs Q S k => dX (ae7 fG) (h H Z σ ts vs _ S k)
theorem Hu (h : cO X CL b e δ (.sh (.bl p)) δ1) (h2 : p = true -> cO X CL b (.BoolOp .And (e2 :: es) pos) δ1 (.sh (.bl q)) δ1) : cO X CL b (.BoolOp .And (e :: e2 :: es) pos) δ (.sh (.bl (p && q))) δ1 := fun H Z σ ts vs Q S k =>
 dX (ae8 fG fG) (h H Z σ ts vs _ S fun v H1 Z1 z1 k1 S1 => by
   have hv : v = .bl p := by have := S1.view; rw [T.dJ] at this; exact this.sc rfl
   refine ⟨p, hv, ?_⟩
   cases p with
   | true => exact Og (h2 rfl H1 Z1 σ ts vs _ S1.pop fun v H2 Z2 z2 k2 S2 => k v H2 Z2 Q.C Q.K S2)
   | false => exact Oe (k _ H1 Z1 z1 k1 (S1.pop.push (.bl false))))
theorem ajN (h : cO X CL b e δ (.sh (.bl p)) δ1) (h2 : p = false -> cO X CL b (.BoolOp .Or (e2 :: es) pos) δ1 (.sh (.bl q)) δ1) : cO X CL b (.BoolOp .Or (e :: e2 :: es) pos) δ (.sh (.bl (p || q))) δ1 := fun H Z σ ts vs Q S k =>
 dX (aje fG fG) (h H Z σ ts vs _ S fun v H1 Z1 z1 k1 S1 => by
   have hv : v = .bl p := by have := S1.view; rw [T.dJ] at this; exact this.sc rfl
   refine ⟨p, hv, ?_⟩
   cases p with
   | true => exact Og (k _ H1 Z1 z1 k1 (S1.pop.push (.bl true)))
   | false => exact Oe (h2 rfl H1 Z1 σ ts vs _ S1.pop fun v H2 Z2 z2 k2 S2 => k v H2 Z2 Q.C Q.K S2))
theorem afP (h : cO X CL b e δ (.sh (.bl p)) δ1) : cO X CL b (.UnaryOp .Not e pos) δ (.sh (.bl (!p))) δ1 := fun H Z σ ts vs Q S k =>
 dX (L2.ae9 fG) (h H Z σ ts vs _ S fun v H1 Z1 z1 k1 S1 => ⟨p, by have := S1.view; rw [T.dJ] at this; exact this.sc rfl, k _ H1 Z1 z1 k1 (S1.pop.push (.bl (!p)))⟩)
theorem afQ (h : Q.aV) (h1 : p = true -> cO X CL b e1 δ1 t δ2) (h2 : p = false -> cO X CL b e2 δ1 t δ2) : cO X CL b (.IfExp e e1 e2 pos) δ t δ2 := fun H Z σ ts vs Q S k =>
 dX (Vs ptS fG fG) (h H Z σ ts vs _ S fun H1 Z1 z1 k1 S1 => by
   cases p with
   | true => exact Og (h1 rfl H1 Z1 σ ts vs _ S1 fun v H2 Z2 z2 k2 S2 => k v H2 Z2 Q.C Q.K S2)
   | false => exact Oe (h2 rfl H1 Z1 σ ts vs _ S1 fun v H2 Z2 z2 k2 S2 => k v H2 Z2 Q.C Q.K S2))
variable {k : Int}
theorem BF (r : aK K CL Z ds vs) (h : AJ ds k = some d) : ∃ v, AJ vs k = some v /\ cC K CL Z d v := by
 unfold AJ at h ⊢
 rw [← r.length]
 cases e : VM ds.length k with
 | none => rw [e] at h; cases h
 | some j =>
   rw [e] at h
   exact r.get h
theorem aE (h1 : eN X CL b e1 δ (.tup ds) δ1) (h2 : Q.bA) (hk : AJ ds k = some d) (hs : uS e2 := by exact fun _ _ => rfl) : eN X CL b (.Subscript e1 e2 pos) δ d δ2 := fun H Z σ ts vs Q S kk =>
 dX (F6 Oa fG fG hs) (h1 H Z σ ts vs _ S fun v1 H1 Z1 z1 k1 S1 r1 => h2 H1 Z1 σ ts vs _ S1 fun v2 H2 Z2 z2 k2 S2 r2 => by
   have r1' := r1.mono k2
   cases r1' with
   | tup hq rr =>
     obtain ⟨v, hv, rv⟩ := BF rr hk
     exact ⟨_, _, k, v, rfl, r2.sc rfl, hq, hv, kk v H2 Z2 Q.C Q.K S2 rv⟩)
theorem bz (h1 : eN X CL b e1 δ (.lst ds) δ1) (h2 : Q.bA) (hk : AJ ds k = some d) (hs : uS e2 := by exact fun _ _ => rfl) : eN X CL b (.Subscript e1 e2 pos) δ d δ2 := fun H Z σ ts vs Q S kk =>
 dX (F6 Rk fG fG hs) (h1 H Z σ ts vs _ S fun v1 H1 Z1 z1 k1 S1 r1 => h2 H1 Z1 σ ts vs _ S1 fun v2 H2 Z2 z2 k2 S2 r2 => by
   have r1' := r1.mono k2
   cases r1' with
   | lst hq rr =>
     obtain ⟨v, hv, rv⟩ := BF rr hk
     exact ⟨_, _, k, v, rfl, r2.sc rfl, hq, hv, kk v H2 Z2 Q.C Q.K S2 rv⟩)
variable {x : Str}
theorem V4 {c : Nat} (h1 : eN X CL b e1 δ (.str x) δ1) (h2 : Q.bA) (hl : x.length <= sizeLine) (hk : AJ x.cps.toList k = some c) (hs : uS e2 := by exact fun _ _ => rfl) : cO X CL b (.Subscript e1 e2 pos) δ (.sh (.str ⟨#[c]⟩)) δ2 := fun H Z σ ts vs Q S kk =>
 dX (F6 afB fG fG hs) (h1 H Z σ ts vs _ S fun v1 H1 Z1 z1 k1 S1 r1 => h2 H1 Z1 σ ts vs _ S1 fun v2 H2 Z2 z2 k2 S2 r2 =>
   ⟨x, k, c, r1.sc rfl, r2.sc rfl, hl, hk, kk _ H2 Z2 Q.C Q.K (S2.push (.str _))⟩)
theorem i9 (h1 : cO X CL b e1 δ (.sh (.tup ds)) δ1) (h2 : Q.bA) (hk : AJ ds k = some d) (hs : uS e2 := by exact fun _ _ => rfl) : cO X CL b (.Subscript e1 e2 pos) δ (.sh d) δ2 := fun H Z σ ts vs Q S kk =>
 dX (F6 Oa fG fG hs) (h1 H Z σ ts vs _ S fun v1 H1 Z1 z1 k1 S1 => h2 H1 Z1 σ _ _ _ S1 fun v2 H2 Z2 z2 k2 S2 r2 => by
   obtain ⟨fp, gp, _, r, _, _⟩ := S2.rep
   cases r with
   | cons r _ =>
     cases r with
     | sh r =>
       cases r with
       | tup hq rr =>
         obtain ⟨v, hv, rv⟩ := BF rr hk
         exact ⟨_, _, k, v, rfl, r2.sc rfl, aO.VX S2.zh hq, hv, kk v H2 Z2 Q.C Q.K (S2.pop.push rv)⟩)
theorem Om (h1 : cO X CL b e1 δ (.sh (.lst ds)) δ1) (h2 : Q.bA) (hk : AJ ds k = some d) (hs : uS e2 := by exact fun _ _ => rfl) : cO X CL b (.Subscript e1 e2 pos) δ (.sh d) δ2 := fun H Z σ ts vs Q S kk =>
 dX (F6 Rk fG fG hs) (h1 H Z σ ts vs _ S fun v1 H1 Z1 z1 k1 S1 => h2 H1 Z1 σ _ _ _ S1 fun v2 H2 Z2 z2 k2 S2 r2 => by
   obtain ⟨fp, gp, _, r, _, _⟩ := S2.rep
   cases r with
   | cons r _ =>
     cases r with
     | sh r =>
       cases r with
       | lst hq rr =>
         obtain ⟨v, hv, rv⟩ := BF rr hk
         exact ⟨_, _, k, v, rfl, r2.sc rfl, S2.zh.seq hq, hv, kk v H2 Z2 Q.C Q.K (S2.pop.push rv)⟩)
theorem cA.wG : ∀ {ds : List D} {us : List V} {ts : List T} {vs : List V}, aK K CL Z ds us -> cA K CL b H Z δ σ ts vs -> cA K CL b H Z δ σ ((ds.map T.sh).reverse ++ ts) (us.reverse ++ vs)
 | _, _, _, _, .nil, S => S
 | _, _, ts, vs, .cons (d := d) (v := v) (ds := ds) (vs := us) r t, S => by
   rw [asl, asz, asz, arR, arR]
   exact cA.wG t (S.push r)
theorem cA.drops (S : cA K CL b H Z δ σ (tl ++ ts) (us ++ vs)) (hl : us.length = tl.length) : cA K CL b H Z δ σ ts vs := by
 induction tl generalizing us with
 | nil =>
   cases us with
   | nil => exact S
   | cons _ _ => simp at hl
 | cons t tl ih =>
   cases us with
   | nil => simp at hl
   | cons u us => exact ih S.pop (by simpa using hl)
theorem cA.aa1 {ds : List D} (S : cA K CL b H Z δ σ ((ds.map T.sh).reverse ++ ts) (us.reverse ++ vs)) (hl : us.length = ds.length) : aK K CL Z ds us := by
 obtain ⟨fp, gp, e, r, nd, k⟩ := S.rep
 obtain ⟨g1, g2, eg, r1, r2⟩ := bu.split (by simp [hl]) r
 obtain ⟨g', r', pm⟩ := r1.rev
 exact r'.toF.1
section
variable {pp : Pos} {ds : List D}
theorem BG (hm : X.mg "len" = none) (h : Q.bm) (hg : Gl X "len" := by rfl) (hs : Q.R := by exact bK rfl) (hpl : (backTo pos (starEach ([] : List Expr) X.env)).any (·.1) = false := by rfl) : cO X CL b (.Call (.Name "len" pp) [e] [] pos) δ (.sh (.int ds.length)) δ1 := fun H Z σ ts vs Q S k =>
 dX (qo x8 hg hm PySem.boot_len Q.af (he := hs)) (h H Z σ ts vs _ S fun v H1 Z1 z1 k1 S1 r => by
   cases r with
   | lst hq rr => exact ⟨_, _, rfl, .inl hq, by rw [← rr.length]; exact k _ H1 Z1 z1 k1 (S1.push (.int _))⟩)
theorem Hv (hm : X.mg "len" = none) (h : eN X CL b e δ (.tup ds) δ1) (hg : Gl X "len" := by rfl) (hs : Q.R := by exact bK rfl) : cO X CL b (.Call (.Name "len" pp) [e] [] pos) δ (.sh (.int ds.length)) δ1 := fun H Z σ ts vs Q S k =>
 dX (qo x8 hg hm PySem.boot_len Q.af (he := hs)) (h H Z σ ts vs _ S fun v H1 Z1 z1 k1 S1 r => by
   cases r with
   | tup hq rr => exact ⟨_, _, rfl, .inr hq, by rw [← rr.length]; exact k _ H1 Z1 z1 k1 (S1.push (.int _))⟩)
theorem nB (hm : X.mg "list" = none) (h : cO X CL b e δ (.sh (.lst ds)) δ1) (hg : Gl X "list" := by rfl) (hv : bootBuiltins "list" = some (.type "list") := by rfl) (hs : Q.R := by exact bK rfl) : cO X CL b (.Call (.Name "list" pp) [e] [] pos) δ (.lst (ds.map T.sh)) δ1 := fun H Z σ ts vs Q S k =>
 dX (qp x9 hg hm hv Q.af (he := hs)) (h H Z σ ts vs _ S fun v H1 Z1 z1 k1 S1 => by
   obtain ⟨fp, gp, _, r, _, _⟩ := S1.rep
   cases r with
   | cons r _ =>
     cases r with
     | sh r =>
       cases r with
       | lst hq rr =>
         refine ⟨_, _, rfl, .inl (S1.zh.seq hq), fun l hl => ?_⟩
         obtain ⟨c, S2⟩ := (cA.wG rr S1.pop).qW (g0 := []) (by simp [rr.length]) hl
         exact k _ _ _ z1 (k1.trans c) S2)
theorem cG (hm : X.mg "list" = none) (h : Q.bm) (hi : D.bQ ds = true) (hg : Gl X "list" := by rfl) (hv : bootBuiltins "list" = some (.type "list") := by rfl) (hs : Q.R := by exact bK rfl) : cO X CL b (.Call (.Name "list" pp) [e] [] pos) δ (.lst (ds.map T.sh)) δ1 := fun H Z σ ts vs Q S k =>
 dX (qp x9 hg hm hv Q.af (he := hs)) (h H Z σ ts vs _ S fun v H1 Z1 z1 k1 S1 r => by
   cases r with
   | lst hq rr =>
     refine ⟨_, _, rfl, .inl hq, fun l hl => ?_⟩
     obtain ⟨c, S2⟩ := (cA.wG (aK.pM S1.tp hi rr) S1).qW (g0 := []) (by simp [rr.length]) hl
     exact k _ _ _ z1 (k1.trans c) S2)
def Oo (K : Q.n) (CL : Q.e) {A : Type} (n : Nat) (arg : A -> List D) (Pre : A -> Prop) (res : A -> T) : Sp := fun vs H Q _ =>
 ∃ (W : Hp) (a : A), aO W H /\ (∀ c o, H c = some o -> pL o = true -> W c = some o) /\ aK K CL W (arg a) vs /\ (arg a).length = n /\ Pre a /\ qV CL W ∧
   ∀ v H' W' fp, aO H H' -> aO W W' -> aO W' H' -> (∀ c o, W' c = some o -> W c = none -> H c = none) -> (∀ c o, H' c = some o -> pL o = true -> W' c = some o) →
     eL K CL H' W' (res a) v fp -> fp.Nodup -> (∀ c ∈ fp, W' c = none /\ H c = none) -> Q v H'
variable {A : Type} {k n : Nat} {f : Addr} {fd : FuncData} {ps : Q.h} {arg : A -> List D} {Pre : A -> Prop} {res : A -> T}
theorem aa2 (a : A) (F : iM X.prog X.w X.K X.mg X.base wY k f fd ps (Oo X.K CL n arg Pre res)) (hr : ig k X.A) (hm : X.mg x = some (.ref f)) (hk : Q.bL) (hb : Binds X.K fd ps [])
   (h : V0 X CL b Q.D δ (arg a) δ1) (hn : (arg a).length = n) (hp : Pre a) (hc : (res a).clean = true) (hg : Gl X x)
   (xZ : Q.B := by decide) (he : Q.Y := by exact bK rfl) (hpl : Q.as := by rfl) :
   cO X CL b Q.aX δ (res a) δ1 := fun H Z σ ts vs Q S kk =>
 dX (Hi F hr hg hm hk hb .nil F9 Oh xZ he hpl) (h H Z σ ts vs _ S fun us H1 Z1 z1 k1 S1 r => by
   rw [asj]
   refine ⟨H1, a, .refl _, fun _ _ q _ => q, r, hn, hp, S1.aaV, fun v H' W' fp hh ww wh nw tp rt nd own => ?_⟩
   obtain ⟨Z', z', S'⟩ := S1.back hh S1.zh ww wh nw tp rt nd own (.inr hc)
   exact kk v H' Z' (z1.trans z') (k1.trans hh) S')
theorem V5 (a : A) (F : iM X.prog X.w X.K X.mg X.base wY k f fd ps (Oo X.K CL n arg Pre res)) (hr : ig k X.A) (hm : X.mg x = some (.ref f)) (hk : Q.bL) (hb : Binds X.K fd ps [])
   (h : Ro X CL b Q.D δ ((arg a).map T.sh) δ1) (hn : (arg a).length = n) (hp : Pre a) (hg : Gl X x)
   (xZ : Q.B := by decide) (he : Q.Y := by exact bK rfl) (hpl : Q.as := by rfl) :
   cO X CL b Q.aX δ (res a) δ1 := fun H Z σ ts vs Q S kk =>
 dX (Hi F hr hg hm hk hb .nil F9 Oh xZ he hpl) (h H Z σ ts vs _ S fun us H1 Z1 hl z1 k1 S1 => by
   rw [asj]
   have hl' : us.length = (arg a).length := by rw [hl, arL]
   have S2 := S1.drops (by simp [hl'])
   refine ⟨Z1, a, S1.zh, S1.tp, S1.aa1 hl', hn, hp, S1.aaU, fun v H' W' fp hh ww wh nw tp rt nd own => ?_⟩
   obtain ⟨Z', z', S'⟩ := S2.back hh Q.m ww wh nw tp rt nd own Q.F
   exact kk v H' Z' (z1.trans z') (k1.trans hh) S')
variable {D D' : i7} {st : Stmt} {kX ajO : List Stmt}
theorem Meets.to {E : Ends} (M : Meets K CL b Z ts vs D E) (h1 : ∀ δ, D'.nx δ -> D.nx δ) (h2 : ∀ t δ, D'.rt t δ -> D.rt t δ) (h3 : ∀ δ, D'.bk δ -> D.bk δ) (h4 : ∀ δ, D'.ct δ -> D.ct δ) : Meets K CL b Z ts vs D' E :=
 ⟨fun _ _ _ _ s S k => M.nx _ _ _ _ s S (h1 _ k), fun _ _ _ _ _ _ s S k => M.rt _ _ _ _ _ _ s S (h2 _ _ k), fun _ _ _ _ s S k => M.bk _ _ _ _ s S (h3 _ k), fun _ _ _ _ s S k => M.ct _ _ _ _ s S (h4 _ k)⟩
theorem au (h : D.nx δ) : ic X CL b [] δ D := fun H Z σ ts vs E S M => ajK aaA (M.nx δ σ H Z Q.m S h)
theorem fh (h : TSv X CL b st δ { D with nx := fun δ1 => ic X CL b kX δ1 D }) : ic X CL b (st :: kX) δ D := fun H Z σ ts vs E S M =>
 ajK (Vt psS pbS) (h H Z σ ts vs _ S ⟨fun δ' σ' H' Z' s S' k => k H' Z' σ' ts vs E S' (M.mono s), M.rt, M.bk, M.ct⟩)
theorem V6 (h : D.bk δ) : TSv X CL b (.Break pos) δ D := fun H Z σ ts vs E S M => z8 Vu (M.bk δ σ H Z Q.m S h)
theorem afS (h : Q.ai) (k : D.rt t δ1) : TSv X CL b (.Return (some e) pos) δ D := fun H Z σ ts vs E S M => z8 (afb fG) (h H Z σ ts vs _ S fun v H1 Z1 z1 k1 S1 => M.rt t v H1 Z1 δ1 σ z1 S1 k)
theorem ajP (h : Q.aV) (h1 : p = true -> ic X CL b kX δ1 D) (h2 : p = false -> ic X CL b ajO δ1 D) : TSv X CL b (.If e kX ajO pos) δ D := fun H Z σ ts vs E S M =>
 z8 (ajh ptS pbS pbS) (h H Z σ ts vs _ S fun H1 Z1 z1 k1 S1 => by
   cases p with
   | true => exact Og (h1 rfl H1 Z1 σ ts vs E S1 (M.mono z1))
   | false => exact Oe (h2 rfl H1 Z1 σ ts vs E S1 (M.mono z1)))
theorem V7 (i : Nat) {pos' : Pos} (h : Q.ai) (k : D.nx (δ1.set i (some t))) (hl : i < δ1.length := by decide) (hN : X.N.Nodup := by assumption) (hi : X.N[i]? = some x := by rfl) (hx : Loc X.env.scope x := by first | exact .inl rfl | exact .inr rfl)
   (hs : Q.bG := by rfl) (hf : Q.bg := by first | exact .inl rfl | exact .inr rfl | assumption) : TSv X CL b (.Assign [.Name x pos'] e pos) δ D := fun H Z σ ts vs E S M =>
 z8 (Vv hN hi hx fG hs hf) (h H Z σ ts vs _ S fun v H1 Z1 z1 k1 S1 => M.nx _ _ H1 Z1 z1 (S1.set hl) k)
end
def entry (N : Q.h) (ds : List D) : List Q.L := ds.map (fun d => some (T.sh d)) ++ List.replicate (N.length - ds.length) none
theorem nE {K : Q.n} {CL : Q.e} {H Z : Hp} : ∀ {ds : List D} {vs : List V} (n : Nat), aK K CL Z ds vs -> fQ K CL H Z (ds.map (fun d => some (T.sh d)) ++ List.replicate n none) (vs.map some ++ List.replicate n none) []
 | _, _, 0, .nil => .nil
 | _, _, n + 1, .nil => .skip (nE (ds := []) (vs := []) n .nil)
 | _, _, n, .cons r t => .cons (fp := []) (gp := []) (.sh r) (nE n t)
variable {P : Program} {w : World} {mg : Q.J} {base : Heap} {qual : Str} {st : Stmt} {f : Addr} {fd : FuncData} {N ps : Q.h} {A : Type}
theorem BH {k : Nat} {arg : A -> List D} {Pre : A -> Prop} {res : A -> T} (F : iN K x qual st f fd) (S : aH N ps (ak st))
   (hb : ∀ (mj : Value) (Ar : Around) (outer : List Env) (s : Shared) (H : Hp) (E : XK) (b : Bx) (a : A), ig k (Ar.deeper Q.bK) -> Pre a →
     ic (CY wY P w K mg base N qual (ak st) f mj Ar outer s H E).nox CL b (g5 st) (entry N (arg a)) { nx := fun _ => res a = .sh .non, rt := fun t _ => t = res a }) :
   iM P w K mg base wY (k + 1) f fd ps (Oo K CL ps.length arg Pre res) := by
 refine F.ok S (fun vs H Q E h => ?_) (fun mj Ar outer s H vs Q E hr h => ?_)
 . obtain ⟨W, a, _, _, r, hl, _⟩ := h
   rw [← r.length]; exact hl
 . obtain ⟨W, a, wh, tp, r, hl, hp, tb, kk⟩ := h
   refine ⟨_, pbS, hb mj Ar outer s H E ⟨H, W⟩ a hr hp H W _ [] [] _ ⟨⟨[], [], ?_, .nil, List.nodup_nil, fun a ha => by cases ha⟩, .refl _, .refl _, wh, fun a o q z => ?_, tp, tb⟩ ⟨fun δ' σ' H' Z' s' S' e => ?_, fun t v H' Z' δ' σ' s' S' e => ?_, fun _ _ _ _ _ _ e => e.elim, fun _ _ _ _ _ _ e => e.elim⟩⟩
   . unfold entry L2.start
     rw [← r.length]
     exact nE _ r
   . have q' : W a = some o := q
     have z' : W a = none := z
     rw [q'] at z'; cases z'
   . exact kk .non H' Z' [] S'.bh S'.zz S'.zh S'.new S'.tp (by rw [show res a = .sh .non from e]; exact .sh .non) List.nodup_nil fun a ha => by cases ha
   . have e' : t = res a := e
     subst e'
     obtain ⟨fp, gp, _, r', nd, own⟩ := S'.rep
     cases r' with
     | @cons _ _ _ _ f1 f2 r1 r2 =>
       have h1 := (ass.mp nd).2.1
       exact kk v H' Z' f1 S'.bh S'.zz S'.zh S'.new S'.tp r1 (ass.mp h1).1 fun a ha => own a (arQ _ (arW _ ha))
variable {prog : Program} {A : Around} {R : Result -> Shared -> Prop} {s : Shared} {elt iter : Expr} {ifs : List Expr} {scope : Scope}
theorem Hw {target : Expr} {it acc : Value} (I : Nat -> Shared -> Prop)
   (turn : ∀ n s, I n s -> wpAny Q.N A (pyNext it) (fun r s₁ => match r with
     | none => R (.ok .next) s₁
     | some v => wpAny Q.N A (letOwnedTupleGo target it v) (fun _ s₁' => wpAny Q.N A (assign target env v) (fun _ s₂ =>
         wpAny Q.N A (forIn ifs true fun c r => if r = true then do let ok ← isTrue c env (eval c env); pure (ForInStep.yield ok) else pure (ForInStep.yield r)) (fun ok s₃ =>
           if ok = true then wpAny Q.N A (eval elt env) (fun x s₄ =>
             wpAny Q.N A (call (.builtin "list.append") [acc, x]) (fun _ s₅ => ∃ m, m < n /\ I m s₅) (fun _ _ => False) s₄) (fun _ _ => False) s₃
           else ∃ m, m < n /\ I m s₃) (fun _ _ => False) s₂) (fun _ _ => False) s₁') (fun _ _ => False) s₁) (fun _ _ => False) s)
   (n : Nat) (h : I n s) :
   codeAny Q.N A (.compLoop (.ListComp elt [⟨target, iter, ifs, 0⟩] scope pos) 0 it acc env) R s := by
 refine codeAny_loop rfl I (fun n s hI => ?_) n h
 show wpAny _ A ((compTurn (.ListComp elt [⟨target, iter, ifs, 0⟩] scope pos) 0 it acc env).onRaise (fun x => do noteFrame x env; theTreesLotGoes x)) _ _ s
 refine wpAny_noted ?_
 rw [compTurn_list]
 refine arX (wpAny_standAt (arX (atD (turn n s hI) (fun r s₁ h₁ => ?_) fun _ _ h' => h'.elim)))
 cases r with
 | none => exact asE h₁
 | some v =>
   refine arX (atD h₁ (fun _ s₁' h₁' => ?_) fun _ _ h' => h'.elim)
   refine arX (atD h₁' (fun _ s₂ h₂ => arX (atD h₂ (fun ok s₃ h₃ => ?_) fun _ _ h' => h'.elim)) fun _ _ h' => h'.elim)
   cases ok with
   | false => exact asE ⟨rfl, h₃⟩
   | true =>
     exact arX (arX (atD h₃ (fun x s₄ h₄ => arX (atD h₄ (fun _ s₅ h₅ => asE (asE ⟨rfl, h₅⟩)) fun _ _ h' => h'.elim)) fun _ _ h' => h'.elim))
def jR (env : Env) : List (Str × NameKind) -> List (Str × Addr) -> List (Str × Addr)
 | [], cs => cs
 | (n, k) :: r, cs => jR env r (if k == .free then (n, (env.cells.lookup n).getD 0) :: cs else cs)
theorem EJ (h : ∀ x ∈ scope.names, x.2 = .free -> ∃ c, env.cells.lookup x.1 = some c) : closureFor scope env = pure (jR env scope.names []) := by
 have go : ∀ (l : Q.aS) (cs : List (Str × Addr)), (∀ x ∈ l, x.2 = .free -> ∃ c, env.cells.lookup x.1 = some c) →
     (forIn l cs fun x r => match x with | (name, kind) => if (kind == NameKind.free) = true then do let a ← cellOf env name; pure (ForInStep.yield ((name, a) :: r)) else pure (ForInStep.yield r) : Sem (List (Str × Addr))) = pure (jR env l cs) := by
   intro l
   induction l with
   | nil => intro cs _; rfl
   | cons x r ih =>
     intro cs hx
     obtain ⟨n, k⟩ := x
     rw [List.forIn_cons]
     by_cases hk : k = .free
     . subst hk
       obtain ⟨c, hc⟩ := hx (n, .free) arK rfl
       have e : cellOf env n = pure c := by unfold cellOf; rw [hc]
       simp only [beq_self_eq_true, if_true, e, pure_bind]
       rw [ih _ fun y hy => hx y (arO _ hy)]
       simp only [jR, beq_self_eq_true, if_true]
       rw [hc]; rfl
     . have hb : (k == NameKind.free) = false := by simpa using hk
       simp only [hb, Bool.false_eq_true, if_false, pure_bind]
       rw [ih _ fun y hy => hx y (arO _ hy)]
       simp only [jR, hb, Bool.false_eq_true, if_false]
 unfold closureFor
 have := go scope.names [] h
 simp only [bind_pure] at this ⊢
 exact this
theorem xh {env : Env} : ∀ {l : Q.aS} {cs : List (Str × Addr)} {y : Str} {c : Addr}, (∀ x ∈ l, x.2 = .free -> ∃ c, env.cells.lookup x.1 = some c) -> (∀ y c, cs.lookup y = some c -> env.cells.lookup y = some c) →
   (jR env l cs).lookup y = some c -> env.cells.lookup y = some c
 | [], cs, y, c, _, h, e => h y c e
 | (n, k) :: r, cs, y, c, hx, h, e => by
   refine xh (l := r) (fun z hz => hx z (arO _ hz)) (fun z d hz => ?_) e
   by_cases hk : k = .free
   . subst hk
     obtain ⟨c', hc⟩ := hx (n, .free) arK rfl
     simp only [beq_self_eq_true, if_true, hc, Option.getD_some, asG] at hz
     by_cases hzn : (z == n) = true
     . rw [hzn] at hz
       have : z = n := by simpa using hzn
       subst this
       cases hz
       exact hc
     . have : (z == n) = false := by simpa using hzn
       rw [this] at hz
       exact h z d hz
   . have hb : (k == NameKind.free) = false := by simpa using hk
     rw [hb] at hz
     exact h z d hz
theorem AQ {env : Env} {y : Str} : ∀ {l : Q.aS} {cs : List (Str × Addr)}, (∃ c, cs.lookup y = some c) -> ∃ c, (jR env l cs).lookup y = some c
 | [], cs, h => h
 | (n, k) :: r, cs, h => by
   refine AQ (l := r) ?_
   by_cases hk : (k == NameKind.free) = true
   . rw [arU hk, asG]
     by_cases hy : (y == n) = true
     . rw [hy]; exact ⟨_, rfl⟩
     . have : (y == n) = false := by simpa using hy
       rw [this]; exact h
   . rw [arS hk]; exact h
theorem xj {env : Env} {y : Str} : ∀ {l : Q.aS} {cs : List (Str × Addr)}, l.lookup y = some .free -> ∃ c, (jR env l cs).lookup y = some c
 | [], _, h => by simp at h
 | (n, k) :: r, cs, h => by
   rw [asG] at h
   by_cases hy : (y == n) = true
   . rw [hy] at h
     cases h
     refine AQ (l := r) ?_
     rw [arU (by rfl), asG, hy]
     exact ⟨_, rfl⟩
   . have : (y == n) = false := by simpa using hy
     rw [this] at h
     exact xj (l := r) h
def fB (X : Cx) (scope : Scope) (Nc : Q.h) (C : Addr) (s : Shared) (H : Hp) (fp : Q.t) : Cx where
 prog := X.prog
 w := X.w
 K := X.K
 mg := X.mg
 base := X.base
 A := X.A
 N := Nc
 s₀ := s
 H₀ := H
 env := compEnvC scope (jR X.env scope.names []) C X.env
 outer := X.stack
 stack := X.stack
 ex := fp
 fn := fun _ => false
 calm := X.calm
 pn := []
 xe := fun _ _ => False
structure qt (X : Cx) (scope : Scope) (x : Str) (Nc : Q.h) (ix : List Nat) : Prop where
 kind : scope.kind = .function
 Hx : ∀ y ∈ scope.names, y.2 ≠ .cell
 nd : Nc.Nodup
 names : ∀ y ∈ scope.names, y.2 = .local -> scope.names.lookup y.1 = some .local
 own : scope.names.lookup x = some .local
 frees : ∀ y ∈ scope.names, y.2 = .free -> scope.names.lookup y.1 = some .free /\ (X.env.kindOf y.1 = some .cell \/ X.env.kindOf y.1 = some .free)
 hd : Nc = x :: ix.filterMap (X.N[·]?)
 ixs : ∀ i ∈ ix, ∃ y, X.N[i]? = some y /\ scope.names.lookup y = some .free
theorem iu {env : Env} : ∀ {names : Q.aS} {x : Str} {k : NameKind}, names.lookup x = some k -> 
   (names.map fun (n, k) => if (k == NameKind.free && env.scope.kind == .function && env.kindOf n == some .cell) then (n, NameKind.cell) else (n, k)).lookup x = some (if (k == NameKind.free && env.scope.kind == .function && env.kindOf x == some .cell) then .cell else k)
 | [], _, _, h => by simp at h
 | (n, k') :: r, x, k, h => by
   have ih := @iu env r x k
   show List.lookup x (Q.ck :: _) = _
   cases hx : x == n with
   | true =>
     simp only [asG, hx] at h
     cases h
     have e : x = n := by simpa using hx
     subst e
     split <;> simp [asG]
   | false =>
     simp only [asG, hx] at h
     split
     . simp only [asG, hx]; exact ih h
     . simp only [asG, hx]; exact ih h
theorem mF {env : Env} : ∀ {names : Q.aS} {x : Str}, names.lookup x = none -> 
   (names.map fun (n, k) => if (k == NameKind.free && env.scope.kind == .function && env.kindOf n == some .cell) then (n, NameKind.cell) else (n, k)).lookup x = none
 | [], _, _ => rfl
 | (n, k') :: r, x, h => by
   have ih := @mF env r x
   show List.lookup x (Q.ck :: _) = _
   cases hx : x == n with
   | true => simp only [asG, hx] at h; cases h
   | false =>
     simp only [asG, hx] at h
     split
     . simp only [asG, hx]; exact ih h
     . simp only [asG, hx]; exact ih h
variable {Nc : Q.h} {pins : Q.v}
theorem Tv {Q9 : Q.v} {σ' : L2.St} {s' : Shared} {h'' : Heap} (I : Q.q) (uU : ∀ b ∈ fp, Bj X pins H b)
   (J : Inv (fB X scope Nc s.heap.objs.size s H fp) Q9 σ' H' s') (hs : Heap.SameBut s.heap.objs.size s'.heap h'') : Inv X pins σ H' { s' with heap := h'' } := by
 have un : Un (Vb X.stack) fp H H' s.heap s'.heap := J.base
 have un2 : Un (Vb X.stack) fp H H' s.heap h'' := by
   have ne : ∀ b o, s.heap.get? b = some o -> b ≠ s.heap.objs.size := fun b o e => asJ (ar9 e)
   refine ⟨fun b o e n hb hx => (hs.2 b (ne b o e)).trans (un.keep b o e n hb hx), fun b o e n hb hx => ?_, un.free, fun b o e hx => ?_, un.G7, un.ez, un.G8⟩
   . obtain ⟨sl, q⟩ := un.slot b o e n hb hx
     exact ⟨sl, (hs.2 b (ne b o e)).trans q⟩
   . obtain ⟨o', q⟩ := un.there b o e hx
     exact ⟨o', (hs.2 b (ne b o e)).trans q⟩
 have nC : H' s.heap.objs.size = none := J.free
 have gX : Bv X.prog X.w H' h'' := fun b u e => by
   refine (J.gX b u e).G6 (fun c v hc q => (hs.2 c ?_).trans q) (fun _ q => q) fun _ _ q => q
   rintro rfl
   rcases hc with z | z
   . subst z; rw [nC] at e; cases e
   . rw [nC] at z; cases z
 obtain ⟨hh, g, d, t, os'⟩ := s'
 obtain rfl : os' = s.os := J.os
 show L2.Inv X pins σ H' { s with heap := h'', gens := g, drawn := d, toks := t }
 exact I.call (h' := h'') (g' := g) (d' := d) (t' := t) (ch := fp) un2 gX J.bare fun b hb => ⟨(uU b hb).2.2.2.1, (uU b hb).2.1, (uU b hb).2.2.2.2.1, (uU b hb).2.2.2.2.2⟩
def afT (X : Cx) : List Expr -> TT
 | [] => fun _ H Q => Q true H
 | [c] => aaT X c
 | _ => fun _ _ _ => False
theorem V8 (I : Q.q) (h : afT X ifs σ H Q) (hx : X.xe = fun _ _ => False) :
   wpAny Q.o X.A (forIn ifs true fun c r => if r = true then do let ok ← isTrue c X.env (eval c X.env); pure (ForInStep.yield ok) else pure (ForInStep.yield r)) (TP X pins σ Q) (fun _ _ => False) s := by
 match ifs, h with
 | [], h => exact wpAny_tests_nil ⟨H, I, h⟩
 | [c], h =>
   have := h pins s I
   rw [hx] at this
   exact wpAny_tests_one this
def TIv (X : Cx) (CL : Q.e) (b : Bx) (ifs : List Expr) (δ : Q.s) (p : Bool) : Prop :=
 match ifs with
 | [] => p = true
 | [c] => wZ X CL b c δ p δ
 | _ => False
theorem TIv.sem (h : TIv X CL b ifs δ p) (S : cA X.K CL b H Z δ σ [] [])
   (k : ∀ H' Z', aO Z Z' -> aO H H' -> cA X.K CL b H' Z' δ σ [] [] -> Q p H') : afT X ifs σ H Q := by
 match ifs, h with
 | [], h =>
   have e : p = true := h
   subst e
   exact k H Z Q.m Q.m S
 | [c], h => exact (show wZ X CL b c δ p δ from h) H Z σ [] [] Q S k
theorem fV : (T.lst ts).clean = T.eB ts := by rw [T.clean]
theorem C5 {g : D -> T} : ∀ {ds : List D}, (∀ d ∈ ds, (g d).clean = true) -> T.eB (ds.map g) = true
 | [], _ => by rw [aub, T.eB]
 | d :: ds, h => by
   rw [asl, T.eB, h d arK, C5 fun e he => h e (arO _ he)]
   rfl
theorem bu.at : ∀ {tl : List T} {us : List V} {fp : Q.t} {j : Nat} {t : T}, bu K CL H Z tl us fp -> tl[j]? = some t -> ∃ v f1 f2 f3, us[j]? = some v /\ fp = f1 ++ (f2 ++ f3) /\ eL K CL H Z t v f2 ∧
   ∀ {H' : Hp} {t' : T} {v' : V} {g : Q.t}, (∀ a ∈ f1 ++ f3, H' a = H a) -> eL K CL H' Z t' v' g -> bu K CL H' Z (tl.set j t') (us.set j v') Q.aj
 | _, _, _, _, _, .nil, e => by simp at e
 | _, _, _, 0, _, .cons (fp := fp) (gp := gp) r q, e => by
   simp at e
   subst e
   exact ⟨_, [], fp, gp, rfl, rfl, r, fun {H' t' v' g} k r' => bu.cons (fp := g) (gp := gp) r' (bu.mono (fp := gp) Q.m (fun a ha => k a (by simpa using ha)) q)⟩
 | _, _, _, j + 1, t, .cons (fp := fp) (gp := gp) r q, e => by
   obtain ⟨v, f1, f2, f3, h1, h2, h3, h4⟩ := bu.at (j := j) (t := t) q (by simpa using e)
   refine ⟨v, fp ++ f1, f2, f3, by simpa using h1, by rw [h2, List.append_assoc], h3, fun k r' => ?_⟩
   rw [arR]
   exact .cons (r.mono Q.m fun a ha => k a (by simp [ha])) (h4 (fun a ha => k a (by rw [arR]; exact arQ _ ha)) r')
variable {α : Type}
theorem je {l : List α} {x : α} (h : l[i]? = some x) : l.set i x = l := by
 apply aum
 intro j
 rw [List.getElem?_set]
 split
 . rename_i e; subst e
   split
   . exact h.symm
   . rename_i h2; rw [ata Q.a]
 . rfl
variable {gp : Q.t}
theorem cA.write {f1 f2 f3 g gp' : Q.t} (S : Q.ab) (nd : ((f1 ++ (f2 ++ f3)) ++ gp).Nodup) (own : ∀ c ∈ (f1 ++ (f2 ++ f3)) ++ gp, Z c = none /\ b.B c = none) (ha : a ∈ f2)
   (hH : ∃ o, H a = some o) (e' : fQ K CL (upd H a (.lst xs)) Z δ2 σ Q.aj) (r' : bu K CL (upd H a (.lst xs)) Z tl us gp') (pm : (Q.aj ++ gp').Nodup) (sub : ∀ c ∈ Q.aj ++ gp', c ∈ (f1 ++ (f2 ++ f3)) ++ gp) :
   cA K CL b (upd H a (.lst xs)) Z δ2 σ tl us := by
 have oa := own a (by simp [ha])
 refine ⟨⟨_, _, e', r', pm, fun c hc => own c (sub c hc)⟩, fun c o q => ?_, S.zz, fun c o q => ?_, S.new, fun c o q i => ?_, S.tab⟩
 . rw [aL (cE q oa.2)]; exact S.bh c o q
 . rw [aL (cE q oa.1)]; exact S.zh c o q
 . by_cases hc : c = a
   . subst hc; rw [b9] at q; cases q; cases i
   . rw [aL hc] at q; exact S.tp c o q i
theorem cA.append (S : Q.aZ) (hi : δ[i]? = some (some (.lst tl))) :
   ∃ a us, σ[i]? = some (some (.ref a)) /\ H a = some (.lst us) /\ us.length = tl.length /\ cA K CL b (upd H a (.lst (us ++ [v]))) Z (δ.set i (some (.lst (tl ++ [t])))) σ ts vs := by
 obtain ⟨fp, gp, e, r, nd, k⟩ := S.rep
 obtain ⟨v0, f1, f2, f3, hv, uU, rt, put, _⟩ := e.get hi
 subst uU
 cases rt with
 | @lst a us _ g ha rs =>
   cases r with
   | @cons _ _ _ _ ft gr q1 q2 =>
     have ne : ∀ c ∈ Q.aj ++ (ft ++ gr), c ≠ a := fun c hc e => by
       subst e
       have hp : ((f1 ++ ((c :: g) ++ f3)) ++ (ft ++ gr)).Perm (c :: (Q.aj ++ (ft ++ gr))) := by
         rw [asb, ← asb]
         exact (atH.append_right _)
       exact (as2.mp (hp.nodup_iff.mp nd)).1 hc
     refine ⟨a, us, hv, ha, rs.length.symm, ?_⟩
     have r1 : eL K CL (upd H a (.lst (us ++ [v]))) Z (.lst (tl ++ [t])) (.ref a) (a :: (g ++ (ft ++ []))) :=
       .lst b9 (bu.app (rs.mono Q.m fun c hc => aL Q.au) (.cons (q1.mono Q.m fun c hc => aL Q.au) .nil))
     have e2 := put (H' := upd H a (.lst (us ++ [v]))) Q.m (fun c hc => aL (ne c (by
       rcases arV.mp hc with h | h
       . simp [h]
       . simp [h]))) r1
     rw [je hv] at e2
     have hp : ((f1 ++ ((a :: (g ++ (ft ++ []))) ++ f3)) ++ gr).Perm ((f1 ++ ((a :: g) ++ f3)) ++ (ft ++ gr)) := by
       simp only [asj, asb, arR]
       refine asx f1 (List.Perm.cons a (asx g ?_))
       rw [← arR, ← arR]
       exact aso.append_right gr
     exact S.write nd k (arK) ⟨_, ha⟩ e2 (q2.mono Q.m fun c hc => aL Q.au) (hp.nodup_iff.mpr nd) fun c hc => hp.mem_iff.mp hc
theorem cA.setAt (S : Q.aZ) (hi : δ[i]? = some (some (.lst tl))) (hj : j < tl.length) :
   ∃ a us, σ[i]? = some (some (.ref a)) /\ H a = some (.lst us) /\ us.length = tl.length /\ cA K CL b (upd H a (.lst (us.set j v))) Z (δ.set i (some (.lst (tl.set j t)))) σ ts vs := by
 obtain ⟨fp, gp, e, r, nd, k⟩ := S.rep
 obtain ⟨v0, f1, f2, f3, hv, uU, rt, put, _⟩ := e.get hi
 subst uU
 cases rt with
 | @lst a us _ g ha rs =>
   cases r with
   | @cons _ _ _ _ ft gr q1 q2 =>
     have ne : ∀ c ∈ Q.aj ++ (ft ++ gr), c ≠ a := fun c hc e => by
       subst e
       have hp : ((f1 ++ ((c :: g) ++ f3)) ++ (ft ++ gr)).Perm (c :: (Q.aj ++ (ft ++ gr))) := by
         rw [asb, ← asb]
         exact (atH.append_right _)
       exact (as2.mp (hp.nodup_iff.mp nd)).1 hc
     refine ⟨a, us, hv, ha, rs.length.symm, ?_⟩
     obtain ⟨vj, g1, g2, g3, _, hg, _, set⟩ := rs.at (arZ hj)
     subst hg
     have r1 : eL K CL (upd H a (.lst (us.set j v))) Z (.lst (tl.set j t)) (.ref a) (a :: (g1 ++ (ft ++ g3))) :=
       .lst b9 (set (fun c hc => aL (ne c (by
         rcases arV.mp hc with h | h
         . simp [h]
         . simp [h]))) (q1.mono Q.m fun c hc => aL Q.au))
     have e2 := put (H' := upd H a (.lst (us.set j v))) Q.m (fun c hc => aL (ne c (by
       rcases arV.mp hc with h | h
       . simp [h]
       . simp [h]))) r1
     rw [je hv] at e2
     have hp : ((f1 ++ ((a :: (g1 ++ (ft ++ g3))) ++ f3)) ++ gr).Perm ((f1 ++ ((a :: (g1 ++ g3)) ++ f3)) ++ (ft ++ gr)) := by
       simp only [asb, arR]
       refine asx f1 (List.Perm.cons a (asx g1 ?_))
       have := (aso (l₁ := ft) (l₂ := g3 ++ f3)).append_right gr
       simp only [arR] at this
       exact this
     have sb : ((f1 ++ ((a :: (g1 ++ g3)) ++ f3)) ++ (ft ++ gr)).Sublist ((f1 ++ ((a :: (g1 ++ (g2 ++ g3))) ++ f3)) ++ (ft ++ gr)) := by
       refine asv (asv (asy _) (asv (List.Sublist.cons₂ a ?_) (asy _))) (asy _)
       exact asv (asy _) (as6 _ _)
     exact S.write nd k (arK) ⟨_, ha⟩ e2 (q2.mono Q.m fun c hc => aL Q.au) (hp.nodup_iff.mpr (nd.sublist sb)) fun c hc => sb.subset (hp.mem_iff.mp hc)
section
variable {tl0 : List T} {D : i7} {pp pa pb : Pos}
theorem afV (i : Nat) (h0 : δ[i]? = some (some (.lst tl0))) (h : Q.ai) (h1 : δ1[i]? = some (some (.lst tl))) (hl : tl.length < sizeLine) (k : D.nx (δ1.set i (some (.lst (tl ++ [t])))))
   (hi : X.N[i]? = some x := by rfl) (hv : Vis X.env.scope x := by first | exact Or.inl rfl | exact Or.inr (Or.inl rfl) | exact Or.inr (Or.inr rfl)) (hd : Q.B := by decide) (qS : Q.aH := by decide)
   (qq : attributeBase Q.U "append" X.env (eval Q.U X.env) = eval Q.U X.env := by rfl)
   (CZ : Q.bE := by rfl)
   (hline : (pa.endLine == pb.line) = true := by rfl) (hs : Q.R := by exact bK rfl) (Hy : swapsWith Q.bT none pos.line X.env = pure false := by rfl) :
   TSv X CL b (.Expr Q.bT pos) δ D := fun H Z σ ts vs E S M =>
 z8 (BD (Rl atL PySem.F.slot_list_append PySem.F.type_list_append F7 (mq hi hv hd qS) Q.af qq CZ hline hs rfl) Hy) (by
   obtain ⟨v0, e0, r0⟩ := S.look h0
   refine ⟨v0, e0, ?_, ?_⟩
   . rw [T.dJ] at r0
     cases r0 with
     | lst hq _ => exact .inl ⟨rfl, _, hq⟩
   . refine h H Z σ ts vs _ S fun v H1 Z1 z1 k1 S1 => ?_
     obtain ⟨a, us, ea, ha, hu, S2⟩ := S1.append h1
     rw [e0] at ea
     cases ea
     exact ⟨a, us, v, rfl, rfl, ha, by rw [hu]; exact hl, M.nx _ σ _ Z1 z1 S2 k⟩)
end
def ajS : Option Q.L -> Option T
 | some (some t) => some (.sh t.dJ)
 | _ => none
def shO : Option Q.L -> Option T
 | some (some (T.sh d)) => some (.sh d)
 | _ => none
def K3 (δ : Q.s) (ix : List Nat) : List Q.L := ix.map fun i => ajS δ[i]?
def K4 (δ : Q.s) (ix : List Nat) : List Q.L := ix.map fun i => shO δ[i]?
theorem K5 (S : Q.ab) : ∀ (ix : List Nat) (H' : Hp), fQ K CL H' H (K3 δ ix) (ix.map fun i => (σ[i]?).getD none) []
 | [], _ => .nil
 | i :: r, H' => by
   have ih := K5 S r H'
   show fQ K CL H' H (ajS δ[i]? :: K3 δ r) (((σ[i]?).getD none) :: r.map fun i => (σ[i]?).getD none) []
   cases e : δ[i]? with
   | none => exact .skip ih
   | some o =>
     cases o with
     | none => exact .skip ih
     | some t =>
       obtain ⟨v, hv, rv⟩ := S.look e
       rw [hv]
       exact .cons (fp := []) (gp := []) (.sh rv) ih
theorem K6 (S : Q.ab) : ∀ (ix : List Nat) (H' : Hp), fQ K CL H' Z (K4 δ ix) (ix.map fun i => (σ[i]?).getD none) []
 | [], _ => .nil
 | i :: r, H' => by
   have ih := K6 S r H'
   show fQ K CL H' Z (shO δ[i]? :: K4 δ r) (((σ[i]?).getD none) :: r.map fun i => (σ[i]?).getD none) []
   cases e : δ[i]? with
   | none => exact .skip ih
   | some o =>
     cases o with
     | none => exact .skip ih
     | some t =>
       cases t with
       | sh d =>
         obtain ⟨v, hv, rv⟩ := S.aem e
         rw [hv]
         exact .cons (fp := []) (gp := []) (.sh rv) ih
       | tup _ => exact .skip ih
       | lst _ => exact .skip ih
       | ins _ _ => exact .skip ih
       | BE _ => exact .skip ih
       | dct _ => exact .skip ih
       | pin _ _ => exact .skip ih
section
variable {ds : List D}
structure Comes (X : Cx) (CL : Q.e) (b : Bx) (δ1 : Q.s) (σ : L2.St) (ts : List T) (vs : List V) (Z H : Hp) (ds : List D) (J : It) (H1 : Hp) : Prop where
 ex : ∃ Z1 us, aO Z Z1 /\ aO H H1 /\ cA X.K CL b H1 Z1 δ1 σ ts vs /\ aK X.K CL Z1 ds us /\ (∀ i H2, aO Z1 H2 -> i < ds.length -> J.go i H2) ∧
   (∀ i H2 x H', aO Z1 H2 -> i < ds.length -> J.yld i H2 x H' -> H' = H2 /\ us[i]? = some x) /\ (∀ H2, aO Z1 H2 -> J.stop ds.length H2)
def K7 (X : Cx) (CL : Q.e) (b : Bx) (tg e : Expr) (δ : Q.s) (ds : List D) (δ1 : Q.s) : Prop :=
 ∃ wi, PI X tg e wi /\ ∀ (H Z : Hp) (σ : L2.St) (ts : List T) (vs : List V) (R : It -> Hp -> Prop), cA X.K CL b H Z δ σ ts vs -> (∀ J H1, Comes X CL b δ1 σ ts vs Z H ds J H1 -> R J H1) -> wi σ H R
theorem dN {tg : Expr} (h : cO X CL b iter δ (.sh (.lst ds)) δ1) : K7 X CL b tg iter δ ds δ1 := by
 refine ⟨_, aaC fG, fun H Z σ ts vs R S k => h H Z σ ts vs _ S fun v H1 Z1 z1 k1 S1 => ?_⟩
 obtain ⟨fp, gp, _, r, _, _⟩ := S1.rep
 cases r with
 | cons r _ =>
   cases r with
   | sh r =>
     cases r with
     | @lst a us _ hq rr =>
       refine ⟨a, rfl, ⟨us, S1.zh.seq hq⟩, k _ _ ⟨Z1, us, z1, k1, S1.pop, rr, fun i H2 s hi => ?_, fun i H2 y H' s hi hy => ⟨hy.1, hy.2 us (s.seq hq)⟩, fun H2 s => ⟨us, s.seq hq, by rw [rr.length]; exact ar5 _⟩⟩⟩
       have NR : i < us.length := by rw [← rr.length]; exact hi
       exact ⟨us, us[i], s.seq hq, by simp [NR]⟩
theorem Oq {tg : Expr} (h : cO X CL b iter δ (.sh (.tup ds)) δ1) : K7 X CL b tg iter δ ds δ1 := by
 refine ⟨_, afl fG, fun H Z σ ts vs R S k => h H Z σ ts vs _ S fun v H1 Z1 z1 k1 S1 => ?_⟩
 obtain ⟨fp, gp, _, r, _, _⟩ := S1.rep
 cases r with
 | cons r _ =>
   cases r with
   | sh r =>
     cases r with
     | @tup a us _ hq rr =>
       refine ⟨a, rfl, ⟨us, aO.VX S1.zh hq⟩, k _ _ ⟨Z1, us, z1, k1, S1.pop, rr, fun i H2 s hi => ?_, fun i H2 y H' s hi hy => ⟨hy.1, hy.2 us (aO.VX s hq)⟩, fun H2 s => ⟨us, aO.VX s hq, by rw [rr.length]; exact ar5 _⟩⟩⟩
       have NR : i < us.length := by rw [← rr.length]; exact hi
       exact ⟨us, us[i], aO.VX s hq, by simp [NR]⟩
def bV (lo : Int) (n : Nat) : List D := (List.range n).map fun (i : Nat) => D.int (lo + i)
theorem K8 (lo : Int) (n : Nat) : aK K CL Z (bV lo n) ((List.range n).map fun (i : Nat) => V.int (lo + i)) := by
 unfold bV
 generalize List.range n = l
 induction l with
 | nil => exact .nil
 | cons i r ih => exact .cons (.int _) ih
theorem d9 {tg : Expr} {pr pc : Pos} {n : Int} (hm : X.mg "range" = none) (h : eN X CL b iter δ (.int n) δ1) (hn : -(2 ^ 62) <= n /\ n < 2 ^ 62) (hg : Gl X "range") (F0 : starEach [iter] X.env = [(false, eval iter X.env)] := by rfl) (afW : starEach [iter] X.env = (false, eval iter X.env) :: starEach [] X.env := by exact bK rfl) :
   K7 X CL b tg (.Call (.Name "range" pr) [iter] [] pc) δ (bV 0 n.toNat) δ1 := by
 refine ⟨_, SY hg hm (cD fG fc afW) F0, fun H Z σ ts vs R S k => h H Z σ ts vs _ S fun v H1 Z1 z1 k1 S1 r => ⟨n, by rw [r.sc rfl], hn.1, hn.2, k _ _ ⟨Z1, _, z1, k1, S1, K8 0 n.toNat, fun i H2 s hi => ?_, fun i H2 y H' s hi hy => ?_, fun H2 s => ?_⟩⟩⟩
 . show i < n.toNat
   have : (bV 0 n.toNat).length = n.toNat := by simp [bV]
   omega
 . have NR : i < n.toNat := by simpa [bV] using hi
   refine ⟨hy.1, ?_⟩
   rw [asA, as8 NR, hy.2]
   rfl
 . show n.toNat <= (bV 0 n.toNat).length
   simp [bV]
theorem Gb {tg : Expr} {pr pc : Pos} {m n : Int} (hm : X.mg "range" = none) (h1 : eN X CL b e1 δ (.int m) δ1) (h2 : eN X CL b e2 δ1 (.int n) δ2) (hn : -(2 ^ 62) <= m /\ m < 2 ^ 62 /\ -(2 ^ 62) <= n /\ n < 2 ^ 62) (hg : Gl X "range")
   (F0 : starEach [e1, e2] X.env = [(false, eval e1 X.env), (false, eval e2 X.env)] := by rfl) (afW : starEach [e2] X.env = [(false, eval e2 X.env)] := by rfl) (amC : Q.cb := by rfl) (amD : starEach [e2] X.env = (false, eval e2 X.env) :: starEach [] X.env := by rfl) :
   K7 X CL b tg (.Call (.Name "range" pr) [e1, e2] [] pc) δ (bV m (n - m).toNat) δ2 := by
 refine ⟨_, S6 hg hm (cD fG (cD fG fc amD) amC) F0 afW, fun H Z σ ts vs R S k => h1 H Z σ ts vs _ S fun v H1 Z1 z1 k1 S1 r => h2 H1 Z1 σ ts vs _ S1 fun v2 H2 Z2 z2 k2 S2 r2 => ⟨m, n, by rw [r.sc rfl, r2.sc rfl], hn, k _ _ ⟨Z2, _, z1.trans z2, k1.trans k2, S2, K8 m (n - m).toNat, fun i H2 s hi => ?_, fun i H2 y H' s hi hy => ?_, fun H2 s => ?_⟩⟩⟩
 . show i < (n - m).toNat
   have : (bV m (n - m).toNat).length = (n - m).toNat := by simp [bV]
   omega
 . have NR : i < (n - m).toNat := by simpa [bV] using hi
   refine ⟨hy.1, ?_⟩
   rw [asA, as8 NR, hy.2]
   rfl
 . show (n - m).toNat <= (bV m (n - m).toNat).length
   simp [bV]
theorem afX {D : i7} {kX : List Stmt} (i : Nat) {pos' : Pos} (P : Nat -> List Q.L -> Prop) (h : K7 X CL b (.Name x pos') iter δ ds δ1) (h0 : P 0 δ1) (hl : ∀ j δ, P j δ -> i < δ.length)
   (hs : ∀ j d δ, ds[j]? = some d -> P j δ -> ic X CL b kX (δ.set i (some (.sh d))) { nx := P Q.l, rt := D.rt, bk := D.nx, ct := P Q.l }) (hd : ∀ δ, P ds.length δ -> D.nx δ)
   (hp : PassesOwn Q.o X.A X.env X.xe) (hc : X.calm = true) (hN : X.N.Nodup) (hi : X.N[i]? = some x) (hx : Loc X.env.scope x) (hf : Q.bg) (hq : Q.bi := by intro _; rfl) :
   TSv X CL b (.For (.Name x pos') iter kX [] pos) δ D := fun H Z σ ts vs E S M => by
 obtain ⟨wi, pi, hw⟩ := h
 refine z8 (afm hp hc pi (xX hN hi hx hf) pbS hq) (hw H Z σ ts vs _ S fun J H1 zz => ?_)
 obtain ⟨Z1, us, z1, k1, S1, rr, go, yl, st⟩ := zz
 refine ⟨fun j m σ H2 => m = ds.length - j /\ j <= ds.length /\ ∃ Z2 δ2, aO Z1 Z2 /\ cA X.K CL b H2 Z2 δ2 σ ts vs /\ P j δ2, ⟨_, rfl, asr _, Z1, δ1, .refl _, S1, h0⟩, ?_⟩
 rintro j m σ H2 ⟨rfl, hj, Z2, δ2, s, S2, p2⟩
 by_cases wk : j < ds.length
 . refine .inr ⟨go j H2 (s.trans S2.zh) wk, fun σ' H' => ∃ Z2 δ2, aO Z1 Z2 /\ cA X.K CL b H' Z2 δ2 σ' ts vs /\ P Q.l δ2, fun σ' H' h => ⟨ds.length - Q.l, by omega, rfl, wk, h⟩, fun y H' hy => ?_⟩
   obtain ⟨e, hu⟩ := yl j H2 y H' (s.trans S2.zh) wk hy
   subst e
   obtain ⟨d, hd', rd⟩ := rr.aaS hu
   have S3 := (S2.push (rd.mono s)).set (hl j δ2 p2)
   exact hs j d δ2 hd' p2 _ Z2 _ ts vs _ S3 ⟨fun δ' σ' H' Z' s' S' k => ⟨Z', δ', s.trans s', S', k⟩, fun t v H' Z' δ' σ' s' S' k => M.rt t v H' Z' δ' σ' (z1.trans (s.trans s')) S' k, fun δ' σ' H' Z' s' S' k => M.nx δ' σ' H' Z' (z1.trans (s.trans s')) S' k, fun δ' σ' H' Z' s' S' k => ⟨Z', δ', s.trans s', S', k⟩⟩
 . have e : j = ds.length := by omega
   subst e
   exact .inl ⟨st H2 (s.trans S2.zh), M.nx δ2 σ H2 Z2 (z1.trans s) S2 (hd δ2 p2)⟩
def Block (X : Cx) (CL : Q.e) (scope : Scope) (Nc : Q.h) (ifs : List Expr) (elt : Expr) (δc : Q.s) (ds : List D) (p : D -> Bool) (g : D -> T) : Prop :=
 ∀ C s0 H0 f0 b' d, d ∈ ds -> TIv Q.be CL b' ifs (some (.sh d) :: δc) (p d) /\ (p d = true -> cO Q.be CL b' elt (some (.sh d) :: δc) (g d) (some (.sh d) :: δc))
variable {δc : Q.s} {p : D -> Bool} {g : D -> T}
end
def isD : L3.D -> String -> Option Bool
 | .non, n => if n = "int" \/ n = "str" \/ n = "list" \/ n = "tuple" \/ n = "bool" \/ n = "dict" then some false else none
 | .bl _, n => if n = "int" \/ n = "bool" then some true else if n = "str" \/ n = "list" \/ n = "tuple" \/ n = "dict" then some false else none
 | .int _, n => if n = "int" then some true else if n = "str" \/ n = "list" \/ n = "tuple" \/ n = "bool" \/ n = "dict" then some false else none
 | .str _, n => if n = "str" then some true else if n = "int" \/ n = "list" \/ n = "tuple" \/ n = "bool" \/ n = "dict" then some false else none
 | .lst _, n => if n = "list" then some true else if n = "int" \/ n = "str" \/ n = "tuple" \/ n = "bool" \/ n = "dict" then some false else none
 | .tup _, n => if n = "tuple" then some true else if n = "int" \/ n = "str" \/ n = "list" \/ n = "bool" \/ n = "dict" then some false else none
 | _, _ => none
def afY (t n : String) : Option Bool := if (Value.type t == Value.type n) = true then some true else if PySem.W.kitMeta n = true then (fastBuiltinMro t).map (·.contains (.type n)) else none
theorem qu {t n : String} : PySem.W.kitOne K (.type t) (.type n) = afY t n := rfl
theorem V9 : (["NoneType", "bool", "int", "str", "list", "tuple"].all fun t => ["int", "str", "list", "tuple", "bool", "dict"].all fun n => afY t n == some (t == n || (t == "bool" && n == "int"))) = true := Q.j
theorem uV {t n : String} (ht : t ∈ ["NoneType", "bool", "int", "str", "list", "tuple"]) (hn : n ∈ ["int", "str", "list", "tuple", "bool", "dict"]) : afY t n = some (t == n || (t == "bool" && n == "int")) := by
 have := V9
 rw [atd] at this
 have h := this t ht
 rw [atd] at h
 simpa using h n hn
def tyD : L3.D -> Option String
 | .non => some "NoneType"
 | .bl _ => some "bool"
 | .int _ => some "int"
 | .str _ => some "str"
 | .lst _ => some "list"
 | .tup _ => some "tuple"
 | _ => none
theorem Tw : sX X (.builtin "isinstance") (fun xs H Q => ∃ y n d t, xs = [y, .ty n] /\ cC X.K CL H d y /\ tyD d = some t /\ n ∈ ["int", "str", "list", "tuple", "bool", "dict"] /\ Q (.bl (t == n || (t == "bool" && n == "int"))) H) := by
 intro pins s σ H xs us Q I r h
 obtain ⟨y, n, d, t, rfl, rd, ht, hn, q⟩ := h
 obtain ⟨u, u2, rfl, ru, ru2⟩ := r.two
 cases (show u2 = Value.type n from ru2)
 have fin : ∀ tk, EP X pins σ Q (.bool (t == n || (t == "bool" && n == "int"))) { s with toks := tk } := fun tk => ⟨.bl _, H, I.tok tk, rfl, q⟩
 cases rd with
 | non => cases ht; cases (show u = Value.none from ru); exact atN PySem.W.kitx_none I.KG True.intro (qu.trans (uV (by decide) hn)) (fun z => nomatch z) fin
 | bl c => cases ht; cases (show u = Value.bool c from ru); exact atN PySem.W.kitx_bool I.KG True.intro (qu.trans (uV (by decide) hn)) (fun z => nomatch z) fin
 | int c => cases ht; obtain ⟨tt, e⟩ := (show ∃ t, u = Value.int c t from ru); cases e; exact atN PySem.W.kitx_int I.KG True.intro (qu.trans (uV Q.i hn)) (fun z => nomatch z) fin
 | str c => cases ht; obtain ⟨tt, e⟩ := (show ∃ t, u = Value.str c t from ru); cases e; exact atN PySem.W.kitx_str I.KG True.intro (qu.trans (uV Q.i hn)) (fun z => nomatch z) fin
 | @lst a ws _ hq rr =>
   cases ht
   cases (show u = Value.ref a from ru)
   obtain ⟨its, _, pl, _⟩ := I.list hq
   obtain ⟨o, n', e, c, _⟩ := pl
   exact atN PySem.W.kitx_list I.KG ⟨o, e, c⟩ (qu.trans (uV Q.i hn)) (fun z => nomatch z) fin
 | @tup a ws _ hq rr =>
   cases ht
   cases (show u = Value.ref a from ru)
   obtain ⟨its, _, pl, _⟩ := I.tuple hq
   obtain ⟨o, e, c, _⟩ := pl
   exact atN PySem.W.kitx_tuple I.KG ⟨o, e, c⟩ (qu.trans (uV Q.i hn)) (fun z => nomatch z) fin
 | ins _ _ => cases ht
 | any _ => cases ht
 | val _ => cases ht
 | BE _ _ => cases ht
 | dct _ _ => cases ht
variable {pp pq : Pos}
theorem yd {d : L3.D} {t n : String} {nm : Str} (hm : X.mg "isinstance" = none) (Wa : X.mg nm = none) (hg : Gl X "isinstance") (Wb : Gl X nm) (hbn : bootBuiltins nm = some (.type n)) (hnm : nm ≠ "__name__") (hnd : (nm == ("__debug__" : Str)) = false) (h : Q.aL) (ht : tyD d = some t) (hn : n ∈ ["int", "str", "list", "tuple", "bool", "dict"])
   (hs : starEach [e, .Name nm pq] X.env = (false, eval e X.env) :: starEach [.Name nm pq] X.env := by exact bK rfl) :
   cO X CL b (.Call (.Name "isinstance" pp) [e, .Name nm pq] [] pos) δ (.sh (.bl (t == n || (t == "bool" && n == "int")))) δ1 := fun H Z σ ts vs Q S k =>
 dX (qo (Tw (CL := CL)) hg hm boot_isinstance (cD fG (cD (aax Wb Wa hbn (v := .ty n) rfl hnm hnd) fc) hs) (he := hs)) (h H Z σ ts vs _ S fun v H1 Z1 z1 k1 S1 r =>
   ⟨v, n, d, t, rfl, r, ht, hn, k _ H1 Z1 z1 k1 (S1.push (.bl _))⟩)
variable {n : Nat}
theorem aD (h : Nat.ble n 1000 = true) : n <= sizeLine := asu (bS (arN h))
structure Vn (X : Cx) (i : Nat) (x : Str) : Prop where
 hi : X.N[i]? = some x
 hv : Vis X.env.scope x
 hd : (x == ("__debug__" : Str)) = false
 qS : (x == ("__classdict__" : Str)) = false
structure Ln (X : Cx) (i : Nat) (x : Str) : Prop extends Vn X i x where
 loc : Loc X.env.scope x
 hf : X.fn x = true \/ X.env.scope.names.lookup x = some .local
structure Gx (X : Cx) : Prop where
 nd : X.N.Nodup
 calm : X.calm = true
 xe : PassesOwn Q.o X.A X.env X.xe
structure Fc (X : Cx) (CL : Q.e) (x : Str) (k n : Nat) {A : Type} (arg : A -> List D) (Pre : A -> Prop) (res : A -> T) : Prop where
 ex : ∃ f fd ps, iM X.prog X.w X.K X.mg X.base wY k f fd ps (Oo X.K CL n arg Pre res) /\ X.mg x = some (.ref f) /\ PySem.W.keepIn X.K (.ref f) = true /\ Binds X.K fd ps []
 room : ig k X.A
section
variable {d : L3.D} {D : i7} {kX : List Stmt} {ds : Q.k}
theorem v_ (n : Vn X i x) (h : δ[i]? = some (some (.sh d)) := by rfl) : cO X CL b Q.S δ (.sh d) δ := afK i n.hi n.hv n.hd n.qS h
theorem vF (n : Vn X i x) (h : δ[i]? = some (some t) := by rfl) : cO X CL b Q.S δ (.sh t.dJ) (δ.set i (some (.sh t.dJ))) := aaX i n.hi n.hv n.hd n.qS h
theorem vM (n : Vn X i x) (h : δ[i]? = some (some t) := by rfl) : cO X CL b Q.S δ t (δ.set i none) := aaY i n.hi n.hv n.hd n.qS h
theorem vB (n : Vn X i x) (h : δ[i]? = some (some t) := by rfl) : eN X CL b Q.S δ t.dJ δ := afL i n.hi n.hv n.hd n.qS h
theorem fW (h : eN X CL b e δ (.int k) δ1) : cO X CL b (.UnaryOp .USub e pos) δ (.sh (.int (-k))) δ1 := fun H Z σ ts vs Q S kk =>
 dX (ajp afu fG) (h H Z σ ts vs _ S fun v H1 Z1 z1 k1 S1 r => ⟨k, r.sc rfl, kk _ H1 Z1 z1 k1 (S1.push (.int _))⟩)
theorem vL (n : Vn X i x) (h : δ[i]? = some (some (.lst (ds.map T.sh))) := by rfl) : eN X CL b Q.S δ (.lst ds) δ := by
 have := vB (CL := CL) (b := b) (pos := pos) n h
 rwa [T.dJ, eV] at this
theorem c_ {k : Nat} {A : Type} {arg : A -> List L3.D} {Pre : A -> Prop} {res : A -> T} (a : A) (F : Fc X CL x k n arg Pre res) (hg : Gl X x) (h : V0 X CL b Q.D δ (arg a) δ1) (hp : Pre a) (hc : (res a).clean = true) (hn : (arg a).length = n := by rfl)
   (xZ : Q.B := by decide) (he : Q.Y := by exact bK rfl) (hpl : Q.as := by rfl) :
   cO X CL b Q.aX δ (res a) δ1 := by
 obtain ⟨f, fd, ps, F1, m, k, b⟩ := F.ex
 exact aa2 a F1 F.room m k b h hn hp hc hg xZ he hpl
theorem cF {k : Nat} {A : Type} {arg : A -> List L3.D} {Pre : A -> Prop} {res : A -> T} (a : A) (F : Fc X CL x k n arg Pre res) (hg : Gl X x) (h : Ro X CL b Q.D δ ((arg a).map T.sh) δ1) (hp : Pre a) (hn : (arg a).length = n := by rfl)
   (xZ : Q.B := by decide) (he : Q.Y := by exact bK rfl) (hpl : Q.as := by rfl) :
   cO X CL b Q.aX δ (res a) δ1 := by
 obtain ⟨f, fd, ps, F1, m, k, b⟩ := F.ex
 exact V5 a F1 F.room m k b h hn hp hg xZ he hpl
theorem aG {pos' : Pos} (g : Gx X) (n : Ln X i x) (h : Q.ai) (k : ic X CL b kX (δ1.set i (some t)) D) (hl : i < δ1.length := by exact arN rfl) (hs : Q.bG := by rfl) :
   ic X CL b (.Assign [.Name x pos'] e pos :: kX) δ D := fh (V7 i h k hl g.nd n.hi n.loc hs n.hf)
theorem aY (h : Q.ai) (k : D.rt t δ1) : ic X CL b (.Return (some e) pos :: kX) δ D := fh (afS h k)
theorem cT {a c : List Stmt} (h : Q.aV) (h1 : p = true -> ic X CL b a δ1 { D with nx := fun δ2 => ic X CL b kX δ2 D }) (h2 : p = false -> ic X CL b c δ1 { D with nx := fun δ2 => ic X CL b kX δ2 D }) : ic X CL b (.If e a c pos :: kX) δ D := fh (ajP h h1 h2)
theorem ic.to {D' : i7} (h : ic X CL b kX δ D') (h1 : ∀ δ, D'.nx δ -> D.nx δ) (h2 : ∀ t δ, D'.rt t δ -> D.rt t δ) (h3 : ∀ δ, D'.bk δ -> D.bk δ) (h4 : ∀ δ, D'.ct δ -> D.ct δ) : ic X CL b kX δ D := fun H Z σ ts vs E S M => h H Z σ ts vs E S (M.to h1 h2 h3 h4)
theorem C6 {a c : List Stmt} (J : List Q.L -> Prop) (h : Q.aV) (h1 : p = true -> ic X CL b a δ1 { D with nx := J }) (h2 : p = false -> ic X CL b c δ1 { D with nx := J }) (k : ∀ δ2, J δ2 -> ic X CL b kX δ2 D) : ic X CL b (.If e a c pos :: kX) δ D :=
 cT h (fun hp => ic.to (h1 hp) k (fun _ _ q => q) (fun _ q => q) (fun _ q => q)) (fun hp => ic.to (h2 hp) k (fun _ _ q => q) (fun _ q => q) (fun _ q => q))
theorem eO {body : List Stmt} {pos' : Pos} (g : Gx X) (n : Ln X i x) (P : Nat -> List Q.L -> Prop) (h : K7 X CL b (.Name x pos') e δ ds δ1) (h0 : P 0 δ1) (hl : ∀ j δ, P j δ -> i < δ.length)
   (hs : ∀ j d δ, ds[j]? = some d -> P j δ -> ic X CL b body (δ.set i (some (.sh d))) { nx := P Q.l, rt := D.rt, bk := fun δ2 => ic X CL b kX δ2 D, ct := P Q.l }) (hd : ∀ δ, P ds.length δ -> ic X CL b kX δ D) (hq : ∀ x, foldedSetIterable e X.env x = pure x := by intro _; rfl) :
   ic X CL b (.For (.Name x pos') e body [] pos :: kX) δ D :=
 fh (afX (D := { D with nx := fun δ1 => ic X CL b kX δ1 D }) i P h h0 hl hs hd g.xe g.calm g.nd n.hi n.loc n.hf hq)
theorem nF {o : Option Expr} {l : Nat} (h : ∃ c, swapsWith e o l env = pure c) : swapsWith e o l env = pure true \/ swapsWith e o l env = pure false := by
 obtain ⟨c, h⟩ := h
 cases c
 . exact .inr h
 . exact .inl h
theorem dF {C : Addr} (h1 : Nc[i]? = some x) (h2 : scope.names.lookup x = some .local) (hd : Q.B := by decide) (qS : Q.aH := by decide) : Vn (fB X scope Nc C s H fp) i x :=
 ⟨h1, .inl (lookup_relabel_local h2), hd, qS⟩
theorem iy {C : Addr} (h1 : Nc[i]? = some x) (h2 : scope.names.lookup x = some .free) (hd : Q.B := by decide) (qS : Q.aH := by decide) : Vn (fB X scope Nc C s H fp) i x := by
 refine ⟨h1, ?_, hd, qS⟩
 have q := iu (env := X.env) h2
 show (relabel scope X.env).names.lookup x = some .local \/ (relabel scope X.env).names.lookup x = some .cell \/ (relabel scope X.env).names.lookup x = some .free
 rw [show (relabel scope X.env).names.lookup x = _ from q]
 split
 . exact .inr Q.F
 . exact .inr (.inr rfl)
theorem jS {C : Addr} (h2 : scope.names.lookup x = some .globalImplicit) : Gl (fB X scope Nc C s H fp) x := by
 have q := iu (env := X.env) h2
 show (relabel scope X.env).names.lookup x = some .globalImplicit
 rw [show (relabel scope X.env).names.lookup x = _ from q]
 rfl
theorem oE {C : Addr} {k : Nat} {A : Type} {arg : A -> List L3.D} {Pre : A -> Prop} {res : A -> T} (F : Fc X CL x k n arg Pre res) : Fc (fB X scope Nc C s H fp) CL x k n arg Pre res := ⟨F.ex, F.room⟩
end
theorem Hz {i j : Bool} (h1 : eN X CL b e1 δ (.bl i) δ1) (h2 : eN X CL b e2 δ1 (.bl j) δ2) : wZ X CL b Q.ba δ (!decide (i = j)) δ2 /\ cO X CL b Q.ba δ (.sh (.bl (!decide (i = j)))) δ2 :=
 C4 Vz h1 h2 rfl rfl (fun _ _ q => ⟨rfl, by rw [show decide (V.bl i = V.bl j) = decide (i = j) by simp]; exact q⟩) (sY _)
variable {d : L3.D} {t : String}
theorem Gd : bootBuiltins "int" = some (.type "int") := Q.j
theorem isI (hm : X.mg "isinstance" = none) (Wa : X.mg "int" = none) (hg : Gl X "isinstance") (Wb : Gl X "int") (h : Q.aL) (ht : tyD d = some t := by rfl) (hs : starEach [e, .Name "int" pq] X.env = (false, eval e X.env) :: starEach [.Name "int" pq] X.env := by exact bK rfl) :
   cO X CL b (.Call (.Name "isinstance" pp) [e, .Name "int" pq] [] pos) δ (.sh (.bl (t == "int" || (t == "bool" && "int" == "int")))) δ1 := yd hm Wa hg Wb Gd Q.i Q.i h ht Q.i hs
theorem Ot : bootBuiltins "bool" = some (.type "bool") := Q.j
theorem isB (hm : X.mg "isinstance" = none) (Wa : X.mg "bool" = none) (hg : Gl X "isinstance") (Wb : Gl X "bool") (h : Q.aL) (ht : tyD d = some t := by rfl) (hs : starEach [e, .Name "bool" pq] X.env = (false, eval e X.env) :: starEach [.Name "bool" pq] X.env := by exact bK rfl) :
   cO X CL b (.Call (.Name "isinstance" pp) [e, .Name "bool" pq] [] pos) δ (.sh (.bl (t == "bool" || (t == "bool" && "bool" == "int")))) δ1 := yd hm Wa hg Wb Ot Q.i Q.i h ht Q.i hs
theorem Tz : bootBuiltins "str" = some (.type "str") := Q.j
theorem isS (hm : X.mg "isinstance" = none) (Wa : X.mg "str" = none) (hg : Gl X "isinstance") (Wb : Gl X "str") (h : Q.aL) (ht : tyD d = some t := by rfl) (hs : starEach [e, .Name "str" pq] X.env = (false, eval e X.env) :: starEach [.Name "str" pq] X.env := by exact bK rfl) :
   cO X CL b (.Call (.Name "isinstance" pp) [e, .Name "str" pq] [] pos) δ (.sh (.bl (t == "str" || (t == "bool" && "str" == "int")))) δ1 := yd hm Wa hg Wb Tz Q.i Q.i h ht Q.i hs
theorem aT : bootBuiltins "list" = some (.type "list") := Q.j
theorem isL (hm : X.mg "isinstance" = none) (Wa : X.mg "list" = none) (hg : Gl X "isinstance") (Wb : Gl X "list") (h : Q.aL) (ht : tyD d = some t := by rfl) (hs : starEach [e, .Name "list" pq] X.env = (false, eval e X.env) :: starEach [.Name "list" pq] X.env := by exact bK rfl) :
   cO X CL b (.Call (.Name "isinstance" pp) [e, .Name "list" pq] [] pos) δ (.sh (.bl (t == "list" || (t == "bool" && "list" == "int")))) δ1 := yd hm Wa hg Wb aT Q.i Q.i h ht Q.i hs
theorem AU : bootBuiltins "tuple" = some (.type "tuple") := Q.j
theorem isT (hm : X.mg "isinstance" = none) (Wa : X.mg "tuple" = none) (hg : Gl X "isinstance") (Wb : Gl X "tuple") (h : Q.aL) (ht : tyD d = some t := by rfl) (hs : starEach [e, .Name "tuple" pq] X.env = (false, eval e X.env) :: starEach [.Name "tuple" pq] X.env := by exact bK rfl) :
   cO X CL b (.Call (.Name "isinstance" pp) [e, .Name "tuple" pq] [] pos) δ (.sh (.bl (t == "tuple" || (t == "bool" && "tuple" == "int")))) δ1 := yd hm Wa hg Wb AU Q.i Q.i h ht Q.i hs
def jf (sc : Scope) (l : Q.aS) : Bool := l.all fun p => sc.names.lookup p.1 == some p.2
theorem fU {sc : Scope} {l : Q.aS} (h : jf sc l = true) (i : Nat) {k : NameKind} (hi : l[i]? = some (x, k)) : sc.names.lookup x = some k := by
 unfold jf at h
 rw [atd] at h
 exact auh.mp (h _ (asT hi))
inductive Wc (X : Cx) : List Nat -> List Str -> Prop where
 | nil : Wc X [] []
 | cons {i : Nat} {y : Str} {ix : List Nat} {ys : Q.h} (n : Vn X i y) (k : X.env.kindOf y = some .cell \/ X.env.kindOf y = some .free) (r : Wc X ix ys) : Wc X (i :: ix) (y :: ys)
def Wd (scope : Scope) (x : Str) (tG : Q.h) : Bool :=
 scope.kind == .function && scope.names.lookup x == some .local && tG.all (fun y => scope.names.lookup y == some .free) && decide ((x :: tG).Nodup) &&
   scope.names.all fun y => y.2 != .cell && (y.2 != .local || scope.names.lookup y.1 == some .local) && (y.2 != .free || (tG.contains y.1 && scope.names.lookup y.1 == some .free))
variable {ix : List Nat}
theorem cL {tG : Q.h} (c : Wc X ix tG) (ok : Wd scope x tG = true) : qt X scope x (x :: tG) ix := by
 unfold Wd at ok
 simp only [asa, atd, asI, auh] at ok
 obtain ⟨⟨⟨⟨h1, h2⟩, h3⟩, h4⟩, h5⟩ := ok
 have kc : ∀ y ∈ tG, X.env.kindOf y = some .cell \/ X.env.kindOf y = some .free := by
   clear h3 h4 h5
   induction c with
   | nil => intro y hy; cases hy
   | cons n k r ih =>
     intro y hy
     rcases arP.mp hy with e | hy
     . subst e; exact k
     . exact ih y hy
 refine ⟨h1, fun y hy e => ?_, h4, fun y hy e => ?_, h2, fun y hy e => ?_, ?_, fun i hi => ?_⟩
 . have := (h5 y hy).1.1
   rw [e] at this
   simp at this
 . have := (h5 y hy).1.2
   rw [e] at this
   simpa using this
 . have := (h5 y hy).2
   rw [e] at this
   simp at this
   exact ⟨this.2, kc _ this.1⟩
 . congr 1
   clear h3 h4 h5 kc
   induction c with
   | nil => rfl
   | cons n k r ih => rw [asW, n.hi, ← ih]
 . clear h4 h5 kc
   induction c with
   | nil => cases hi
   | @cons i' y ix ys n k r ih =>
     rcases arP.mp hi with e | hi
     . subst e; exact ⟨y, n.hi, h3 y arK⟩
     . exact ih (fun z hz => h3 z (arO _ hz)) hi
def D.AV : D -> Int
 | .int i => i
 | _ => 0
def D.toS : D -> Str
 | .str x => x
 | _ => Str.empty
theorem cY {bs : Q.b} (h0 : 0 <= k) (h1 : k < bs.length) : AJ (bs.map D.int) k = some (.int (bs.getD k.toNat 0)) := by
 obtain ⟨j, rfl⟩ : ∃ j : Nat, k = j := ⟨k.toNat, by omega⟩
 refine cV ?_
 have hl : j < bs.length := by omega
 rw [asA, arZ hl]
 simp [List.getD, hl]
theorem bJ : ∀ (bs : Q.b), D.bQ (bs.map D.int) = true
 | [] => rfl
 | i :: r => by rw [asl, D.bQ, bJ r]; rfl
theorem gK {lo : Int} {d : D} (h : (bV lo n)[j]? = some d) : d = .int (lo + j) /\ j < n := by
 have hl : j < n := by
   have := (asp.mp h).1
   simpa [bV] using this
 refine ⟨?_, hl⟩
 unfold bV at h
 rw [asA, as8 hl] at h
 exact (asH h).symm
theorem iz (l : List α) : l.filter (fun _ => true) = l := by simp
theorem K9 {K : Q.n} {CL : Q.e} {Z : Hp} : ∀ (ns : Q.b), aK K CL Z (ns.map D.int) (ns.map V.int)
 | [] => .nil
 | n :: r => .cons (.int n) (K9 r)
theorem af1 {arg : List Int -> List D} {pre : List Int -> Prop} {res : List Int -> T} {ns : Q.b} (ha : arg ns = [.lst (ns.map D.int)]) (hp : pre ns) (hr : res ns = .sh (.bl true)) (hS : qT K H a (ns.map V.int)) (h0 : ∀ x, Rn x = true -> CL x = 0 := by intros; rfl) :
   Oo K CL 1 arg pre res [.ref a] H (fun v _ => v = .bl true) fun _ _ _ => False :=
 ⟨H, ns, .refl _, fun _ _ q _ => q, by rw [ha]; exact .cons (.lst hS (K9 ns)) .nil, by rw [ha]; rfl, hp, fun x hx e => absurd (h0 x hx) e, fun v H' W' fp _ _ _ _ _ r _ _ => by
   rw [hr] at r
   cases r with
   | sh r => exact r.sc rfl⟩
mutual
def D.toPy : D -> PyData
 | .non => .none
 | .bl b => .bool b
 | .int i => .int i
 | .str x => .str x
 | .tup ds => .tuple (D.jH ds)
 | .lst ds => .list (D.jH ds)
 | .ins _ _ => .none
 | .BE _ => .none
 | .dct _ => .none
 | .any => .none
 | .val _ => .none
def D.jH : List D -> List PyData
 | [] => []
 | d :: ds => d.toPy :: D.jH ds
end
inductive z9 : Nat -> D -> Prop where
 | non (n : Nat) : z9 n .non
 | bl (n : Nat) (b : Bool) : z9 n (.bl b)
 | int (n : Nat) (i : Int) : z9 n (.int i)
 | str (n : Nat) (x : Str) (h : PyData.strOk x = true) : z9 n (.str x)
 | tup {n : Nat} {ds : List D} (h : ∀ d ∈ ds, z9 n d) : z9 (n + 1) (.tup ds)
 | lst {n : Nat} {ds : List D} (h : ∀ d ∈ ds, z9 n d) : z9 (n + 1) (.lst ds)
def eqD (a b : D) : Bool := PyData.eqv a.toPy b.toPy
theorem z9.af2 {n : Nat} : ∀ {ds : List D}, (∀ d ∈ ds, d.toPy.canLay0 = true /\ d.toPy.depth <= n) -> PyData.canLayAll0 (D.jH ds) = true /\ PyData.depthAll (D.jH ds) <= n
 | [], _ => ⟨by rw [D.jH, PyData.canLayAll0], by rw [D.jH, PyData.depthAll]; exact asr _⟩
 | d :: ds, h => by
   have h1 := h d arK
   have h2 := z9.af2 (ds := ds) fun e he => h e (arO _ he)
   rw [D.jH, PyData.canLayAll0, PyData.depthAll, h1.1, h2.1]
   exact ⟨rfl, Nat.max_le.mpr ⟨h1.2, h2.2⟩⟩
theorem z9.lay {d : D} (h : z9 n d) : d.toPy.canLay0 = true /\ d.toPy.depth <= n := by
 induction h with
 | non n => exact ⟨by rw [D.toPy, PyData.canLay0], by rw [D.toPy, PyData.depth]; exact asr _⟩
 | bl n b => exact ⟨by rw [D.toPy, PyData.canLay0], by rw [D.toPy, PyData.depth]; exact asr _⟩
 | int n i => exact ⟨by rw [D.toPy, PyData.canLay0], by rw [D.toPy, PyData.depth]; exact asr _⟩
 | str n x hx => exact ⟨by rw [D.toPy, PyData.canLay0]; exact hx, by rw [D.toPy, PyData.depth]; exact asr _⟩
 | @tup n ds _ ih =>
   have := z9.af2 ih
   rw [D.toPy, PyData.canLay0, PyData.depth]
   exact ⟨this.1, by omega⟩
 | @lst n ds _ ih =>
   have := z9.af2 ih
   rw [D.toPy, PyData.canLay0, PyData.depth]
   exact ⟨this.1, by omega⟩
theorem Wf (I : L2.Inv X pins σ H s) {d : D} {u : Value} (hd : z9 n d) (q : cC X.K CL H d v) (r : RelV v u) : ∃ as, Reads s.heap u d.toPy as := by
 refine cC.rec (motive_1 := fun d v _ => ∀ (n : Nat) (u : Value), z9 n d -> RelV v u -> ∃ as, Reads s.heap u d.toPy as)
   (motive_2 := fun ds vs _ => ∀ (n : Nat) (us : Q.u), (∀ d ∈ ds, z9 n d) -> Vals vs us -> ∃ as, ReadsAll s.heap us (D.jH ds) as) (motive_3 := fun _ _ _ => True) (motive_4 := fun _ _ _ => True) (motive_5 := fun _ _ _ => True)
   (fun _ _ _ r => ?non) (fun b _ _ _ r => ?bl) (fun i _ _ _ r => ?int) (fun x _ _ _ r => ?str) (fun _ _ _ hd _ => by cases hd) (fun _ _ _ hd _ => by cases hd) (fun hq _ ih n u hd r => ?tup) (fun hq _ ih n u hd r => ?lst) (fun _ _ _ _ _ hd _ => by cases hd) (fun _ _ _ _ _ hd _ => by cases hd) (fun _ _ _ _ _ hd _ => by cases hd)
   (fun _ _ _ r => ?nil) (fun _ _ ih ihs n us h r => ?cons) trivial Q.Z trivial Q.Z trivial Q.Z q n u hd r
 case non => cases r; rw [D.toPy]; exact ⟨[], .none⟩
 case bl => cases r; rw [D.toPy]; exact ⟨[], .bool b⟩
 case int => obtain ⟨t, rfl⟩ := r; rw [D.toPy]; exact ⟨[], .int i t⟩
 case str => obtain ⟨t, rfl⟩ := r; rw [D.toPy]; exact ⟨[], .str x t⟩
 case tup =>
   cases hd with
   | tup hd =>
     cases r
     obtain ⟨its, rv, ⟨o, e, c, k, dt⟩, _⟩ := I.tuple hq
     obtain ⟨as, ra⟩ := ih _ _ hd rv
     rw [D.toPy]
     exact ⟨as, .tuple e c dt (by simpa using ra)⟩
 case lst =>
   cases hd with
   | lst hd =>
     cases r
     obtain ⟨its, rv, ⟨o, k, e, c, _, dt⟩, _⟩ := I.list hq
     obtain ⟨as, ra⟩ := ih _ _ hd rv
     rw [D.toPy]
     exact ⟨_, .list e c dt (by simpa using ra)⟩
 case nil => cases r; rw [D.jH]; exact ⟨[], .nil⟩
 case cons =>
   cases r with
   | cons r rs =>
     obtain ⟨as, ra⟩ := ih n _ (h _ arK) r
     obtain ⟨bs, rb⟩ := ihs n _ (fun e he => h e (arO _ he)) rs
     rw [D.jH]
     exact ⟨as ++ bs, .cons ra rb⟩
variable {δ3 : Q.s} {p2 : Pos} {t : T} {kX : List Stmt} {DD : i7} {d1 d2 : D} {ds : List D}
theorem af3 (hu : X.A.units + 64 < cLine) : Bk X (compareOp .NotEq) (fun x y H Q => ∃ a c, cC X.K CL H a x /\ cC X.K CL H c y /\ z9 60 a /\ z9 60 c /\ Q (.bl (!eqD a c)) H) := by
 intro pins s σ H x y v u Q I rx ry h
 obtain ⟨a, c, ra, rc, da, dc, q⟩ := h
 obtain ⟨as, r1⟩ := Wf I da ra rx
 obtain ⟨bs, r2⟩ := Wf I dc rc ry
 exact SeqAt.rcNeAt_reads r1 r2 da.lay.1 dc.lay.1 (by have := da.lay.2; omega) X.prog X.w X.xe _ ⟨.bl _, H, I, rfl, q⟩
theorem amE {op : CmpOp} {f : Bool -> Bool} (ho : Bk X (compareOp op) (fun x y H Q => ∃ a c, cC X.K CL H a x /\ cC X.K CL H c y /\ z9 60 a /\ z9 60 c /\ Q (.bl (f (eqD a c))) H)) (h1 : eN X CL b e1 δ d1 δ1) (h2 : eN X CL b e2 δ1 d2 δ2) (k1 : z9 60 d1) (k2 : z9 60 d2)
   (hm : behindInMarks op e2 = false) : wZ X CL b (.Compare e1 [op] [e2] pos) δ (f (eqD d1 d2)) δ2 /\ cO X CL b (.Compare e1 [op] [e2] pos) δ (.sh (.bl (f (eqD d1 d2)))) δ2 := by
 constructor
 . intro H Z σ ts vs Q S k
   refine Hq (uR ho fG fG hm) (h1 H Z σ ts vs _ S fun v1 H1 Z1 z1 k1' S1 r1 => h2 H1 Z1 σ ts vs _ S1 fun v2 H2 Z2 z2 k2' S2 r2 => ?_)
   exact ⟨d1, d2, r1.mono k2', r2, k1, k2, _, rfl, k H2 Z2 Q.C (k1'.trans k2') S2⟩
 . intro H Z σ ts vs Q S k
   refine dX (uQ ho fG fG hm) (h1 H Z σ ts vs _ S fun v1 H1 Z1 z1 k1' S1 r1 => h2 H1 Z1 σ ts vs _ S1 fun v2 H2 Z2 z2 k2' S2 r2 => ?_)
   exact ⟨d1, d2, r1.mono k2', r2, k1, k2, k _ H2 Z2 Q.C (k1'.trans k2') (S2.push (.bl _))⟩
theorem af4 (hu : X.A.units + 64 < cLine) (h1 : eN X CL b e1 δ d1 δ1) (h2 : eN X CL b e2 δ1 d2 δ2) (k1 : z9 60 d1) (k2 : z9 60 d2) : wZ X CL b Q.ba δ (!eqD d1 d2) δ2 /\ cO X CL b Q.ba δ (.sh (.bl (!eqD d1 d2))) δ2 :=
 amE (f := fun b => !b) (af3 hu) h1 h2 k1 k2 (sY _)
def cutD (xs : List α) (lo hi : Option Int) : List α := (xs.drop (HT.z7 xs.length 0 lo)).take (HT.z7 xs.length xs.length hi - HT.z7 xs.length 0 lo)
theorem aK.drop {K : Q.n} {Z : Hp} : ∀ {ds : Q.k} {vs : List V} (n : Nat), aK K CL Z ds vs -> aK K CL Z (ds.drop n) (vs.drop n)
 | _, _, 0, r => r
 | _, _, _ + 1, .nil => .nil
 | _, _, n + 1, .cons _ t => aK.drop n t
theorem aK.take {K : Q.n} {Z : Hp} : ∀ {ds : Q.k} {vs : List V} (n : Nat), aK K CL Z ds vs -> aK K CL Z (ds.take n) (vs.take n)
 | _, _, 0, _ => .nil
 | _, _, _ + 1, .nil => .nil
 | _, _, n + 1, .cons r t => .cons r (aK.take n t)
theorem aK.cut {ds : Q.k} (r : aK K CL Z ds vs) (lo hi : Option Int) : aK K CL Z (cutD ds lo hi) (Ti vs lo hi) := by
 unfold cutD Ti
 rw [r.length]
 exact (r.drop _).take _
theorem tH : ∀ {ds : Q.k}, D.bQ ds = true -> ∀ d ∈ ds, d.pM = true
 | [], _, _, h => by cases h
 | d :: ds, k, e, h => by
   rw [D.bQ, asa] at k
   rcases arP.mp h with h | h
   . subst h; exact k.1
   . exact tH k.2 e h
theorem mJ : ∀ {ds : Q.k}, (∀ d ∈ ds, d.pM = true) -> D.bQ ds = true
 | [], _ => rfl
 | d :: ds, h => by rw [D.bQ, h d arK, mJ fun e he => h e (arO _ he)]; rfl
theorem aa4 {xs : List α} {lo hi : Option Int} {x : α} (h : x ∈ cutD xs lo hi) : x ∈ xs := List.mem_of_mem_drop (List.mem_of_mem_take h)
def TOv (X : Cx) (CL : Q.e) (b : Bx) (e : Option Expr) (δ : Q.s) (k : Option Int) (δ' : Q.s) : Prop :=
 ∃ t, PO X e t /\ ∀ (H Z : Hp) (σ : L2.St) (ts : List T) (vs : List V) (Q : Option Int -> Hp -> Prop), cA X.K CL b H Z δ σ ts vs -> (∀ H' Z', aO Z Z' -> aO H H' -> cA X.K CL b H' Z' δ' σ ts vs -> Q k H') -> t σ H Q
theorem BI : TOv X CL b none δ none δ := ⟨_, aaL, fun H Z σ ts vs Q S k => k H Z Q.m Q.m S⟩
theorem BJ (h : eN X CL b e δ (.int k) δ1) : TOv X CL b (some e) δ (some k) δ1 := ⟨_, aaM fG, fun H Z σ ts vs Q S kk => h H Z σ ts vs _ S fun v H1 Z1 z1 k1 S1 r => ⟨k, r.sc rfl, kk H1 Z1 z1 k1 S1⟩⟩
theorem ye {lo hi : Option Expr} {l h : Option Int} (h1 : Q.bm) (hi1 : D.bQ ds = true) (h2 : TOv X CL b lo δ1 l δ2) (h3 : TOv X CL b hi δ2 h δ3) : cO X CL b (.Subscript e (.Slice lo hi none p2) pos) δ (.lst ((cutD ds l h).map T.sh)) δ3 := fun H Z σ ts vs Q S k => by
 obtain ⟨t2, po2, w2⟩ := h2
 obtain ⟨t3, po3, w3⟩ := h3
 refine dX (VL aaN fG po2 po3) (h1 H Z σ ts vs _ S fun v H1 Z1 z1 k1 S1 r => w2 H1 Z1 σ ts vs _ S1 fun H2 Z2 z2 k2 S2 => w3 H2 Z2 σ ts vs _ S2 fun H3 Z3 z3 k3 S3 => ?_)
 have r' := r.mono (k2.trans k3)
 cases r' with
 | lst hq rr =>
   refine ⟨_, _, rfl, hq, fun p hp => ?_⟩
   have rc := aK.pM S3.tp (mJ fun d hd => tH hi1 d (aa4 hd)) (rr.cut l h)
   obtain ⟨c, S4⟩ := (cA.wG rc S3).qW (g0 := []) (by simp [rc.length]) hp
   exact k _ _ _ (z1.trans (z2.trans z3)) (k1.trans (k2.trans (k3.trans c))) S4
theorem Ge (hm : X.mg "tuple" = none) (h : Q.bm) (hi : D.bQ ds = true) (hg : Gl X "tuple") (hs : Q.R := by exact bK rfl) : cO X CL b (.Call (.Name "tuple" pp) [e] [] pos) δ (.sh (.tup ds)) δ1 := fun H Z σ ts vs Q S k =>
 dX (qp EI hg hm AU Q.af (he := hs)) (h H Z σ ts vs _ S fun v H1 Z1 z1 k1 S1 r => by
   cases r with
   | lst hq rr =>
     refine ⟨_, _, rfl, .inl ⟨hq, fun l hl => ?_⟩⟩
     obtain ⟨a, c, S2⟩ := (cA.wG (aK.pM S1.tp hi rr) S1).V2 (by simp [rr.length]) hl
     obtain ⟨Z3, z3, S3⟩ := S2.VY
     rw [T.dJ, eV] at S3
     exact k _ _ Z3 (z1.trans (a.trans z3)) (k1.trans c) S3)
variable {tl0 : List T} {pa pb : Pos}
theorem iA (n : Vn X i x) (h0 : δ[i]? = some (some (.lst tl0))) (h : Q.ai) (h1 : δ1[i]? = some (some (.lst tl))) (hl : tl.length <= 1000000) (k : ic X CL b kX (δ1.set i (some (.lst (tl ++ [t])))) DD)
   (qq : attributeBase Q.U "append" X.env (eval Q.U X.env) = eval Q.U X.env := by rfl)
   (CZ : Q.bE := by rfl)
   (hline : (pa.endLine == pb.line) = true := by rfl) (hs : Q.R := by exact bK rfl) (Hy : swapsWith Q.bT none pos.line X.env = pure false := by rfl) :
   ic X CL b (.Expr Q.bT pos :: kX) δ DD :=
 fh (afV i h0 h h1 (ath hl (by rw [as5]; decide)) k n.hi n.hv n.hd n.qS qq CZ hline hs Hy)
theorem La {ps : Pos} (n : Vn X i x) (h : Q.ai) (h2 : eN X CL b e2 δ1 (.int k) δ1) (h1 : δ1[i]? = some (some (.lst tl))) (hk : VM tl.length k = some j) (kk : ic X CL b kX (δ1.set i (some (.lst (tl.set j t)))) DD)
   (ha : ∀ v, assign (.Subscript Q.U e2 ps) X.env v = (do
     let ov ← holding [v] (eval Q.U X.env)
     let iv ← holding [v, ov] (eval e2 X.env)
     standAt ps
     holding [v, ov, iv] (setItem ov iv v)
     release [v, ov, iv] []) := by intro _; rfl)
   (hs : swapsWithSole [.Subscript Q.U e2 ps] e pos.line X.env = pure false := by rfl) (hw : swappedStores [.Subscript Q.U e2 ps] e X.env = pure none := by rfl) (ha1 : (assignEach [.Subscript Q.U e2 ps] X.env).map (·.2) = [assign (.Subscript Q.U e2 ps) X.env] := by rfl) :
   ic X CL b (.Assign [.Subscript Q.U e2 ps] e pos :: kX) δ DD := by
 refine fh fun H Z σ ts vs E S M => z8 (afj fG (afi (mq n.hi n.hv n.hd n.qS) fG set_list ha) hs hw ha1) (h H Z σ ts vs _ S fun v H1 Z1 z1 k1 S1 => ?_)
 have hj : j < tl.length := (Hj hk).2.1
 obtain ⟨v0, e0, _⟩ := S1.look h1
 refine ⟨v0, e0, ?_⟩
 refine h2 H1 Z1 σ _ _ _ S1 fun v2 H2 Z2 z2 k2 S2 r2 => ?_
 obtain ⟨a, us, ea, VZ, hu, S3⟩ := S2.setAt h1 hj
 rw [e0] at ea
 cases ea
 exact ⟨a, us, k, j, rfl, r2.sc rfl, VZ, by rw [hu]; exact hk, M.nx _ σ _ Z2 Q.C S3 kk⟩
theorem dY (hn : ds.length = n) (hm : X.mg "len" = none) (h : Q.bm) (hg : Gl X "len") (hs : Q.R := by exact bK rfl) : cO X CL b (.Call (.Name "len" pp) [e] [] pos) δ (.sh (.int n)) δ1 := by
 subst hn
 exact BG hm h hg hs
theorem ck (h : cO X CL b e δ (.lst (ds.map T.sh)) δ1) : eN X CL b e δ (.lst ds) δ1 := by
 have := AO h
 rwa [T.dJ, eV] at this
theorem Rq {ds' : Q.k} (h : cO X CL b e δ (.lst (ds.map T.sh)) δ1) (e' : ds = ds') : eN X CL b e δ (.lst ds') δ1 := e' ▸ ck h
theorem dP {f : α -> D} {l : List α} (z : α) (h0 : 0 <= k) (h1 : k < l.length) : AJ (l.map f) k = some (f (l.getD k.toNat z)) := by
 obtain ⟨j, rfl⟩ : ∃ j : Nat, k = j := ⟨k.toNat, by omega⟩
 refine cV ?_
 have hl : j < l.length := by omega
 rw [asA, arZ hl]
 simp [List.getD, hl]
theorem Wg {β : Type} {f : α -> β} {l : List α} {lo hi : Option Int} : cutD (l.map f) lo hi = (cutD l lo hi).map f := by
 unfold cutD
 rw [arL, auq, List.map_drop]
def qX (l : Bool) (ds : List D) : D := match l with
 | true => .lst ds
 | false => .tup ds
theorem iB {α : Type} {f : α -> D} (h : ∀ a, (f a).pM = true) : ∀ (l : List α), D.bQ (l.map f) = true
 | [] => rfl
 | a :: l => by rw [asl, D.bQ, h a, iB h l]; rfl
variable {d : D}
theorem aa5 {u : Tok} (hm : X.mg x = some (.int k u)) (hg : Gl X x) (hd : Q.B := by decide) : cO X CL b Q.S δ (.sh (.int k)) δ := fun H Z σ ts vs Q S kk =>
 dX (Rb (v := .int k) hg hm ⟨u, rfl⟩ hd) (kk _ H Z Q.m Q.m (S.push (.int k)))
theorem fH (hm : ∃ u, X.mg x = some (.int k u)) (hg : Gl X x) (hd : Q.B := by decide) : cO X CL b Q.S δ (.sh (.int k)) δ := by
 obtain ⟨u, hm⟩ := hm
 exact aa5 hm hg hd
theorem vE (n : Vn X i x) (h : δ[i]? = some (some t)) (e : t.dJ = d) : eN X CL b Q.S δ d δ := e ▸ vB n h
theorem yf (x : Str) : ∀ l : List Str, inV (.str x) (l.map V.str) = decide (x ∈ l)
 | [] => by simp [inV]
 | y :: l => by
   have ih := yf x l
   unfold inV at ih ⊢
   rw [asl, aup, ih]
   have e : ∀ a c : Str, VN (.str a) (.str c) = (a == c) := fun _ _ => rfl
   rw [e]
   by_cases h : y = x
   . subst h; simp
   . have h' : ¬ x = y := fun e => h e.symm
     simp [h, h']
theorem aK.strs {K : Q.n} {Z : Hp} : ∀ {l : Q.h} {vs : List V}, aK K CL Z (l.map D.str) vs -> vs = l.map V.str
 | [], _, r => by
   have r' : aK K CL Z [] _ := r
   cases r'; rfl
 | y :: l, _, r => by
   have r' : aK K CL Z (D.str y :: l.map D.str) _ := r
   cases r' with
   | cons r1 r2 => rw [r1.sc rfl, aK.strs r2]; rfl
theorem jT : ∀ l : List Str, (l.map V.str).all wC = true
 | [] => rfl
 | y :: l => by rw [asl, List.all_cons, jT l]; rfl
theorem aa6 (hm : X.mg "int" = none) (h : eN X CL b e δ (.bl p) δ1) (hg : Gl X "int") (hs : Q.R := by exact bK rfl) : cO X CL b (.Call (.Name "int" pp) [e] [] pos) δ (.sh (.int (if p then 1 else 0))) δ1 := fun H Z σ ts vs Q S k =>
 dX (qp Tc hg hm Gd Q.af (he := hs)) (h H Z σ ts vs _ S fun v H1 Z1 z1 k1 S1 r => .inr ⟨p, by rw [r.sc rfl], k _ H1 Z1 z1 k1 (S1.push (.int _))⟩)
theorem Wh {l : List α} (z : α) (h0 : 0 <= k) (h1 : k < l.length) : AJ l k = some (l.getD k.toNat z) := by
 obtain ⟨j, rfl⟩ : ∃ j : Nat, k = j := ⟨k.toNat, by omega⟩
 refine cV ?_
 have hl : j < l.length := by omega
 rw [arZ hl]
 simp [List.getD, hl]
theorem C7 (h0 : 0 <= k) (h1 : k < n) : VM n k = some k.toNat := by
 unfold VM
 rw [arU h0, arU h1]
theorem str_len (x y : Str) : (x ++ y).length = x.length + y.length := by
 show (x.cps ++ y.cps).size = _
 rw [Array.size_append]; rfl
theorem jI (l : Q.b) : T.eB ((l.map D.int).map T.sh) = true := by
 rw [asn]
 induction l with
 | nil => rfl
 | cons i r ih => rw [asl, T.eB, ih]; rfl
def Itv (K : Q.n) (a : Addr) (n : Nat) : It :=
 ⟨fun i H => i < n /\ ∃ xs, qT K H a xs /\ xs.length = n, fun i H x H' => H' = H /\ ∀ xs, qT K H a xs -> xs[n - 1 - i]? = some x, fun i _ => i = n⟩
variable {tg : Expr}
theorem Wi (a it : Addr) (n : Nat) : Turn P w K tg (Itv K a n) [it] it (fun i h => PySem.Heap.IsRevIter h it a ((n : Int) - 1 - (i : Int))) where
 mem := by simp
 obj := fun i h st b hb => by
   have e : b = it := by simpa using hb
   subst e
   obtain ⟨o, e, c, d⟩ := st
   exact ⟨o, e, fun v z => by rw [d] at z; cases z⟩
 keep := fun i h h' st k => st.at fun o e => k it Q.p o e
 item := by
   intro X hP hw hK hc i pins s σ H E I hf st hg
   subst hP hw hK
   obtain ⟨hi, xs, hq, hl⟩ := hg
   obtain ⟨its, rv, p, hz⟩ := I.list hq
   have wk : n - 1 - i < xs.length := by omega
   obtain ⟨u, hu, ru⟩ := rv.get (arZ wk)
   obtain ⟨f0, f1, f2, f3, f4, f5⟩ := hf it Q.p
   have e1 : (n : Int) - 1 - (i : Int) = ((n - 1 - i : Nat) : Int) := by omega
   have st1 : PySem.Heap.IsRevIter s.heap it a ((n - 1 - i : Nat) : Int) := e1 ▸ st
   refine PySem.wpAny_pyNext_rev_item st1 p.isList (x := u) (by simpa using hu) fun h' Rc sb => ?_
   have I1 : L2.Inv X pins σ H { s with heap := h' } := I.turned (t' := s.toks) (fun b o hb e => (sb.2 b hb).trans e) f0 f1 f3 f4 f5
   have e2 : ((n - 1 - i : Nat) : Int) - 1 = (n : Int) - 1 - ((i + 1 : Nat) : Int) := by omega
   have st2 : PySem.Heap.IsRevIter h' it a ((n : Int) - 1 - ((i + 1 : Nat) : Int)) := e2 ▸ Rc
   obtain ⟨o, e, c, d⟩ := id Rc
   exact ⟨u, rfl, KS (s := { s with heap := h' }) e c d Q.i ⟨_, H, I1, ru, ⟨rfl, fun ys hy => by rw [I.CV hy hq]; exact arZ wk⟩, st2, fun b hb => (hf b hb).1⟩⟩
 done := by
   intro X hP hw hK hc i pins s σ H E I hf st hg
   subst hP hw hK
   obtain ⟨f0, f1, f2, f3, f4, f5⟩ := hf it Q.p
   have e1 : (n : Int) - 1 - (i : Int) = -1 := by have : i = n := hg; omega
   have st1 : PySem.Heap.IsRevIter s.heap it a (-1) := e1 ▸ st
   exact PySem.wpAny_pyNext_rev_end (I.ok.hd hc) st1 fun h' eb => ⟨rfl, I.turned (t' := s.toks) Q.bz f0 f1 f3 f4 f5⟩
 self := fun _ _ _ _ _ st h => PySem.wpAny_pyIter_revIter st h
def amH (K : Q.n) (ta : TA) : TI := fun σ H R => ta σ H fun vs H1 => ∃ a xs, vs = [.ref a] /\ qT K H1 a xs /\ R (Itv K a xs.length) H1
variable {ta : TA}
theorem af5 {a : Expr} {p : Pos} (hg : Gl X "reversed") (hm : X.mg "reversed" = none) (ha : PA X [a] ta) (hs : Q.cd) : PI X tg (.Call (.Name "reversed" p) [a] [] pos) (amH X.K ta) := by
 intro pins s σ H R I h
 refine Call_ (nu I hg hm boot_reversed (asP (gk Q.aK fun us s1 zz => ?_) hs rfl))
 obtain ⟨vs, H1, I1, r1, q1⟩ := zz
 obtain ⟨l, xs, e, hq, q⟩ := q1
 subst e
 cases r1 with
 | cons r rr =>
   cases rr
   cases r
   obtain ⟨its, rv, p, hz⟩ := I1.list hq
   refine PySem.call_reversed_list p.isList ?_
   have hl := rv.length
   have e0 : ((its.toArray.size : Int) - 1) = (xs.length : Int) - 1 - ((0 : Nat) : Int) := by rw [ar7, ← hl]; omega
   have I2 : L2.Inv X pins σ H1 { s1 with heap := s1.heap.push Q.bx } := I1.kept (t' := s1.toks) fun b o e => ar4 _ e
   have st : PySem.Heap.IsRevIter (s1.heap.push Q.bx) s1.heap.objs.size l ((xs.length : Int) - 1 - ((0 : Nat) : Int)) := e0 ▸ ⟨_, asC _ rfl, rfl, rfl⟩
   refine PySem.wpAny_pyIter_revIter st ?_
   refine ⟨s1.heap.objs.size, [s1.heap.objs.size], _, _, H1, rfl, I2, Wi l _ xs.length, st, fun b hb => ?_, q⟩
   have e : b = s1.heap.objs.size := by simpa using hb
   subst e
   exact I1.Hg (ar5 _) (I1.gX.fresh (ar5 _))
variable {pr pc : Pos} {ds : List D}
theorem Wj (hm : X.mg "reversed" = none) (h : cO X CL b e δ (.sh (.lst ds)) δ1) (hg : Gl X "reversed") (hs : Q.R := by exact bK rfl) : K7 X CL b tg (.Call (.Name "reversed" pr) [e] [] pc) δ ds.reverse δ1 := by
 refine ⟨_, af5 hg hm Q.af hs, fun H Z σ ts vs R S k => h H Z σ ts vs _ S fun v H1 Z1 z1 k1 S1 => ?_⟩
 obtain ⟨fp, gp, _, r, _, _⟩ := S1.rep
 cases r with
 | cons r _ =>
   cases r with
   | sh r =>
     cases r with
     | @lst a us _ hq rr =>
       have hlen := rr.length
       have amI : aK X.K CL Z1 ds.reverse us.reverse := by
         have go : ∀ {ds : Q.k} {us : List V} {es : Q.k} {ws : List V}, aK X.K CL Z1 ds us -> aK X.K CL Z1 es ws -> aK X.K CL Z1 (ds.reverse ++ es) (us.reverse ++ ws) := by
           intro ds us es ws r
           induction ds generalizing us es ws with
           | nil => cases r; exact fun q => q
           | cons d ds ih =>
             cases r with
             | cons r1 r2 =>
               intro q
               rw [asz, asz, arR, arR]
               exact ih r2 (.cons r1 q)
         simpa using go rr .nil
       refine ⟨a, us, rfl, S1.zh.seq hq, k _ _ ⟨Z1, us.reverse, z1, k1, S1.pop, amI, fun i H2 s hi => ?_, fun i H2 y H' s hi hy => ?_, fun H2 s => ?_⟩⟩
       . rw [asR] at hi
         exact ⟨by omega, us, s.seq hq, rfl⟩
       . rw [asR] at hi
         refine ⟨hy.1, ?_⟩
         rw [List.getElem?_reverse Q.a]
         exact hy.2 us (s.seq hq)
       . show ds.reverse.length = us.length
         rw [asR]; exact hlen
variable {tt : List T}
theorem cA.af6 (S : Q.ab) (hi : δ[i]? = some (some (.tup tt))) (hj : tt[j]? = some t) :
   ∃ a0 us0 v, σ[i]? = some (some (.ref a0)) /\ Z a0 = some (.tup us0) /\ us0[j]? = some v /\ cA K CL b H Z (δ.set i (some (.tup (tt.set j (.sh .any))))) σ (t :: ts) (v :: vs) := by
 obtain ⟨fp, gp, e, r, nd, k⟩ := S.rep
 obtain ⟨v0, f1, f2, f3, hv, uU, rt, put, _⟩ := e.get hi
 subst uU
 cases rt with
 | @tup a0 us0 _ _ hq r0 =>
   obtain ⟨vj, g1, g2, g3, hvj, hg, rj, set⟩ := r0.at hj
   subst hg
   have r2 := set (H' := H) (t' := .sh .any) (v' := vj) (g := []) (fun _ _ => rfl) (.sh (.any vj))
   rw [je hvj] at r2
   have e2 := put (H' := H) Q.m (fun _ _ => rfl) (eL.tup hq r2)
   rw [je hv] at e2
   have hp : ((f1 ++ ((g1 ++ ([] ++ g3)) ++ f3)) ++ (g2 ++ gp)).Perm ((f1 ++ ((g1 ++ (g2 ++ g3)) ++ f3)) ++ gp) := by
     simp only [at6, arR]
     refine asx f1 (asx g1 ?_)
     have := (aso (l₁ := g3 ++ f3) (l₂ := g2)).append_right gp
     simp only [arR] at this
     exact this
   exact ⟨a0, us0, vj, hv, hq, hvj, ⟨⟨_, g2 ++ gp, e2, .cons rj r, hp.nodup_iff.mpr nd, fun a ha => k a (hp.mem_iff.mp ha)⟩, S.bh, S.zz, S.zh, S.new, S.tp, S.tab⟩⟩
variable {ps : Pos} {kj : Nat}
theorem BK (j : Nat) (n : Vn X i x) (h : δ[i]? = some (some (.tup tt))) (hj : tt[j]? = some t) : cO X CL b (.Subscript Q.U (.Constant (.int j) kj pc) ps) δ t (δ.set i (some (.tup (tt.set j (.sh .any))))) := fun H Z σ ts vs Q S k => by
 obtain ⟨a0, us0, v, hv, hq, hvj, S'⟩ := S.af6 h hj
 exact dX (F6 Oa (mq n.hi n.hv n.hd n.qS) Vp (fun _ _ => rfl)) ⟨_, hv, a0, us0, j, v, rfl, rfl, xW.of (S.zh _ _ hq), cV hvj, k v H Z Q.m Q.m S'⟩
variable {ds : List D}
theorem vFL (n : Vn X i x) (h : δ[i]? = some (some (.lst (ds.map T.sh)))) : cO X CL b Q.S δ (.sh (.lst ds)) (δ.set i (some (.sh (.lst ds)))) := by
 have := vF (CL := CL) (b := b) (pos := pos) n h
 rwa [T.dJ, eV] at this
theorem wF.get : ∀ {fs : List (Str × D)} {gs : Q.aq} {f : Str} {d : D}, wF K CL Z fs gs -> fs.lookup f = some d -> ∃ v, gs.lookup f = some v /\ cC K CL Z d v
 | _, _, _, _, .nil, e => by simp at e
 | _, _, f, d, .cons (x := x) r t, e => by
   rw [asG] at e ⊢
   cases h : f == x with
   | true => rw [h] at e; cases e; exact ⟨_, rfl, r⟩
   | false => rw [h] at e; exact wF.get t e
def EK (f : Str) (t : T) : List Q.A -> List Q.A
 | [] => [(f, t)]
 | (g, x) :: r => if g = f then (g, t) :: r else (g, x) :: EK f t r
theorem fF.length {fs : List Q.A} {gs : Q.aq} (h : fF K CL H Z fs gs fp) : fs.length = gs.length :=
 fF.ind (P := fun d v _ => d.length = v.length) rfl (fun _ _ i => congrArg (· + 1) i) h
theorem fF.put {f : Str} {g : Q.t} (q : eL K CL H Z t v g) : ∀ {fs : List Q.A} {gs : Q.aq} {fp : Q.t}, fF K CL H Z fs gs fp →
   ∃ Rr f', fF K CL H Z (EK f t fs) (ny f v gs) Rr /\ f'.Sublist fp /\ Rr.Perm (g ++ f')
 | _, _, _, .nil => ⟨g ++ [], [], .cons q .nil, asy _, aui _⟩
 | _, _, _, .cons (x := x) (fp := fp) (gp := gp) r rs => by
   rw [EK, ny]
   by_cases h : x = f
   . rw [arU h, arU h]
     exact ⟨g ++ gp, gp, .cons q rs, as6 _ _, aui _⟩
   . rw [arS h, arS h]
     obtain ⟨p, p', h1, h2, h3⟩ := fF.put (f := f) q rs
     refine ⟨fp ++ p, fp ++ p', .cons r h1, asv (asy _) h2, (asx fp h3).trans ?_⟩
     rw [← arR, ← arR]
     exact aso.append_right p'
theorem cA.af7 {o : HO} {Rr gp' : Q.t} (hm : pL o = false) (S : Q.ab) (own : ∀ c ∈ fp ++ gp, Z c = none /\ b.B c = none) (ha : a ∈ fp ++ gp)
   (e' : fQ K CL (upd H a o) Z δ2 σ Rr) (r' : bu K CL (upd H a o) Z tl us gp') (pm : (Rr ++ gp').Nodup) (sub : ∀ c ∈ Rr ++ gp', c ∈ fp ++ gp) :
   cA K CL b (upd H a o) Z δ2 σ tl us := by
 have oa := own a ha
 refine ⟨⟨_, _, e', r', pm, fun c hc => own c (sub c hc)⟩, fun c u q => ?_, S.zz, fun c u q => ?_, S.new, fun c u q i => ?_, S.tab⟩
 . rw [aL (cE q oa.2)]; exact S.bh c u q
 . rw [aL (cE q oa.1)]; exact S.zh c u q
 . by_cases hc : c = a
   . subst hc; rw [b9] at q; cases q; rw [hm] at i; cases i
   . rw [aL hc] at q; exact S.tp c u q i
variable {c : Str}
theorem cA.setField {x : Addr} {f : Str} {fs : List Q.A} (S : Q.aZ) (hi : δ[i]? = some (some (.pin x (.ins c fs)))) :
   ∃ dx gs, σ[i]? = some (some (.ref x)) /\ H x = some (.ins (CL c) dx gs) /\ gs.length = fs.length /\ cA K CL b (upd H x (.ins (CL c) dx (ny f v gs))) Z (δ.set i (some (.pin x (.ins c (EK f t fs))))) σ ts vs := by
 obtain ⟨fp, gp, e, r, nd, k⟩ := S.rep
 obtain ⟨v0, f1, f2, f3, hv, uU, rt, put, _⟩ := e.get hi
 subst uU
 cases rt with
 | pin rt =>
 cases rt with
 | @ins a dx _ gs _ g ha rs =>
   cases r with
   | @cons _ _ _ _ ft gr q1 q2 =>
     have ne : ∀ c ∈ Q.aj ++ (ft ++ gr), c ≠ x := fun c hc e => by
       subst e
       have hp : ((f1 ++ ((c :: g) ++ f3)) ++ (ft ++ gr)).Perm (c :: (Q.aj ++ (ft ++ gr))) := by
         rw [asb, ← asb]
         exact (atH.append_right _)
       exact (as2.mp (hp.nodup_iff.mp nd)).1 hc
     refine ⟨dx, gs, hv, ha, rs.length.symm, ?_⟩
     have q1' := q1.mono (H' := upd H x (.ins (CL c) dx (ny f v gs))) Q.m fun c hc => aL Q.au
     have rs' := rs.mono (H' := upd H x (.ins (CL c) dx (ny f v gs))) Q.m fun c hc => aL Q.au
     obtain ⟨p, p', h1, h2, h3⟩ := fF.put (f := f) q1' rs'
     have r1 : eL K CL (upd H x (.ins (CL c) dx (ny f v gs))) Z (.pin x (.ins c (EK f t fs))) (.ref x) (x :: p) := .pin (.ins b9 h1)
     have e2 := put (H' := upd H x (.ins (CL c) dx (ny f v gs))) Q.m (fun c hc => aL (ne c (by
       rcases arV.mp hc with h | h
       . simp [h]
       . simp [h]))) r1
     rw [je hv] at e2
     have hp : ((f1 ++ ((x :: p) ++ f3)) ++ gr).Perm ((f1 ++ ((x :: p') ++ f3)) ++ (ft ++ gr)) := by
       have h4 : ((f1 ++ ((x :: p) ++ f3)) ++ gr).Perm ((f1 ++ ((x :: (ft ++ p')) ++ f3)) ++ gr) := ((h3.cons x).append_right f3).append_left f1 |>.append_right gr
       refine h4.trans ?_
       simp only [asb, arR]
       refine asx f1 (List.Perm.cons x ?_)
       have := (aso (l₁ := ft) (l₂ := p' ++ f3)).append_right gr
       simp only [arR] at this
       exact this
     have sb : ((f1 ++ ((x :: p') ++ f3)) ++ (ft ++ gr)).Sublist ((f1 ++ ((x :: g) ++ f3)) ++ (ft ++ gr)) :=
       asv (asv (asy _) (asv (List.Sublist.cons₂ x h2) (asy _))) (asy _)
     exact S.af7 rfl k Q.p e2 (q2.mono Q.m fun c hc => aL Q.au) (hp.nodup_iff.mpr (nd.sublist sb)) fun c hc => sb.subset (hp.mem_iff.mp hc)
variable {f : Str} {d : D} {fs : List (Str × D)}
theorem fN (hc : wB X.K (CL c)) (n : bG X.K (CL c) f) (h : eN X CL b e δ (.ins c fs) δ1) (hl : fs.lookup f = some d) (hb : attributeBase e f X.env (eval e X.env) = eval e X.env := by rfl) :
   eN X CL b (.Attribute e f pos) δ d δ1 := fun H Z σ ts vs Q S k =>
 dX (VB fG hb) (h H Z σ ts vs _ S fun v H' Z' z s S' r => by
   cases r with
   | @ins a dx _ gs _ ha rf =>
     obtain ⟨w, hw, rw'⟩ := rf.get hl
     exact ⟨a, CL c, dx, gs, w, rfl, ha, hc, n, hw, k w H' Z' z s S' rw'⟩)
theorem HB (hc : wB X.K (CL c)) (n : bG X.K (CL c) f) (h : cO X CL b e δ (.sh (.ins c fs)) δ1) (hl : fs.lookup f = some d) (hb : attributeBase e f X.env (eval e X.env) = eval e X.env := by rfl) :
   cO X CL b (.Attribute e f pos) δ (.sh d) δ1 := fun H Z σ ts vs Q S k =>
 dX (VB fG hb) (h H Z σ ts vs _ S fun v H' Z' z s S' => by
   obtain ⟨fp, gp, _, r, _, _⟩ := S'.rep
   cases r with
   | cons r _ =>
     cases r with
     | sh r =>
       cases r with
       | @ins a dx _ gs _ ha rf =>
         obtain ⟨w, hw, rw'⟩ := rf.get hl
         exact ⟨a, CL c, dx, gs, w, rfl, S'.zh _ _ ha, hc, n, hw, k w H' Z' z s (S'.pop.push rw')⟩)
theorem yg {gs : List Q.A} (hc : wB X.K (CL c)) (n : bG X.K (CL c) f) (nm : Vn X i x) (h : Q.ai) (h1 : δ1[i]? = some (some (.pin a (.ins c gs)))) (hl : gs.length < 1000)
   (k : ic X CL b kX (δ1.set i (some (.pin a (.ins c (EK f t gs))))) DD) (hs : swapsWith e (some (.Attribute (.Name x pa) f pb)) pc.line X.env = pure false := by rfl) :
   ic X CL b (.Assign [.Attribute (.Name x pa) f pb] e pc :: kX) δ DD := fh fun H Z σ ts vs E S M =>
 z8 (afv (mq nm.hi nm.hv nm.hd nm.qS) fG hs) (h H Z σ ts vs _ S fun v H' Z' z s S' => by
   obtain ⟨dx, ws, hv, hx, hlen, S2⟩ := S'.setField (f := f) h1
   exact ⟨.ref a, hv, a, CL c, dx, ws, rfl, hx, hc, n, by rw [hlen]; exact hl, M.nx _ σ _ Z' z S2 k⟩)
def spI (K : Q.n) (CL : Q.e) {A : Type} (c : Str) (n : Nat) (arg : A -> List D) (Pre : A -> Prop) (res : A -> List Q.A) : Sp := fun vs H Q _ =>
 ∃ (W H0 : Hp) (a : A) (x dx : Addr) (us : List V), vs = .ref x :: us /\ H0 x = none /\ H0 dx = none /\ dx ≠ x /\ H = upd (upd H0 dx (.own x)) x (.ins (CL c) dx []) ∧
   aO W H0 /\ (∀ c o, H0 c = some o -> pL o = true -> W c = some o) /\ aK K CL W (arg a) us /\ (arg a).length + 1 = n /\ Pre a /\ qV CL W ∧
   ∀ H' W' fp, aO H0 H' -> aO W W' -> aO W' H' -> (∀ c o, W' c = some o -> W c = none -> H0 c = none) -> (∀ c o, H' c = some o -> pL o = true -> W' c = some o) →
     eL K CL H' W' (.ins c (res a)) (.ref x) fp -> fp.Nodup -> (∀ c ∈ fp, W' c = none /\ H0 c = none) -> Q .non H'
variable {A : Type} {k : Nat} {f : Addr} {ps : Q.h} {arg : A -> List D} {Pre : A -> Prop}
theorem aa8 {res : A -> List Q.A} (a : A) (M : Mk X.K (CL c) f) (F : iM X.prog X.w X.K X.mg X.base wY k f fd ps (spI X.K CL c n arg Pre res)) (hr : ig (k + 1) X.A) (hm : X.mg x = some (.ref (CL c))) (hb : Binds X.K fd ps [])
   (h : V0 X CL b Q.D δ (arg a) δ1) (hn : (arg a).length + 1 = n) (hp : Pre a) (hc : T.cz (res a) = true) (hg : Gl X x)
   (xZ : Q.B := by decide) (he : Q.Y := by exact bK rfl) (hpl : Q.as := by rfl) :
   cO X CL b Q.aX δ (.ins c (res a)) δ1 := fun H Z σ ts vs Q S kk =>
 dX (Rj M F hr hg hm hb .nil F9 Oh xZ he hpl) (h H Z σ ts vs _ S fun us H1 Z1 z1 k1 S1 r x dx hx hdx ne => by
   rw [asj]
   refine ⟨H1, H1, a, x, dx, us, rfl, hx, hdx, ne, rfl, .refl _, fun _ _ q _ => q, r, hn, hp, S1.aaV, fun H' W' fp hh ww wh nw tp rt nd own => ⟨rfl, ?_⟩⟩
   obtain ⟨Z', z', S'⟩ := S1.back hh S1.zh ww wh nw tp rt nd own (.inr (by rw [T.clean]; exact hc))
   exact kk _ H' Z' (z1.trans z') (k1.trans hh) S')
theorem Rt {arg : A -> List D} {Pre : A -> Prop} {res : A -> List Q.A} (F : iN K x qual st f fd) (S : aH N ps (ak st))
   (hb : ∀ (mj : Value) (Ar : Around) (outer : List Env) (s : Shared) (H : Hp) (E : XK) (b : Bx) (a : A) (y : Addr), ig k (Ar.deeper Q.bK) -> Pre a →
     ic (CY wY P w K mg base N qual (ak st) f mj Ar outer s H E).nox CL b (g5 st) (some (.pin y (.ins c [])) :: ((arg a).map (fun d => some (T.sh d)) ++ List.replicate (N.length - ((arg a).length + 1)) none))
       { nx := fun δ => δ[0]? = some (some (.pin y (.ins c (res a)))), rt := fun _ _ => False }) :
   iM P w K mg base wY (k + 1) f fd ps (spI K CL c ps.length arg Pre res) := by
 refine F.ok S (fun vs H Q E h => ?_) (fun mj Ar outer s H vs Q E hr h => ?_)
 . obtain ⟨W, H0, a, y, dx, us, rfl, _, _, _, _, _, _, r, hl, _⟩ := h
   rw [ar8, ← r.length]; exact hl
 . obtain ⟨W, H0, a, y, dx, us, rfl, hy, hdx, ne, rfl, wh, tp, r, hl, hp, tb, kk⟩ := h
   have old : ∀ {d : Addr} {o : HO}, H0 d = some o -> upd (upd H0 dx (.own y)) y (.ins (CL c) dx []) d = some o := fun {d o} q => by
     rw [aL (cE q hy), aL (cE q hdx)]; exact q
   refine ⟨_, pbS, hb mj Ar outer s _ E ⟨H0, W⟩ a y hr hp _ W _ [] [] _ ⟨⟨[y] ++ [], [], ?_, .nil, by simp, fun d hd => ?_⟩, fun d o q => old q, .refl _, fun d o q => old (wh d o q), fun d o q z => ?_, fun d o q i => ?_, tb⟩ ⟨fun δ' σ' H' Z' s' S' e => ?_, fun t v H' Z' δ' σ' s' S' e => e.elim, fun _ _ _ _ _ _ e => e.elim, fun _ _ _ _ _ _ e => e.elim⟩⟩
   . unfold L2.start
     rw [asl, ar8, asb, ← r.length]
     exact .cons (.pin (.ins b9 .nil)) (nE _ r)
   . have : d = y := by simpa using hd
     subst this
     exact ⟨Oi wh hy, hy⟩
   . have q' : W d = some o := q
     have z' : W d = none := z
     rw [q'] at z'; cases z'
   . by_cases h1 : d = y
     . subst h1; rw [b9] at q; cases q; cases i
     . rw [aL h1] at q
       by_cases h2 : d = dx
       . subst h2; rw [b9] at q; cases q; cases i
       . rw [aL h2] at q; exact tp d o q i
   . obtain ⟨fp, gp, eE, _, nd, own⟩ := S'.rep
     obtain ⟨v, f1, f2, f3, hv, uU, rt, _, _⟩ := eE.get e
     subst uU
     cases rt with
     | pin rt =>
       refine kk H' Z' f2 S'.bh S'.zz S'.zh S'.new S'.tp rt ?_ fun d hd => own d (by simp [hd])
       have h1 := (ass.mp nd).1
       exact (ass.mp (ass.mp h1).2.1).1
variable {body : List Stmt} {ds Wk : List D}
theorem HC (g : Gx X) (P : Nat -> List Q.L -> Prop) (m : Nat) (h0 : P m δ)
   (hs : ∀ m δ, P m δ -> ∃ p δ1, wZ X CL b e δ p δ1 ∧
     (p = true -> ic X CL b body δ1 { nx := fun δ2 => ∃ m', m' < m /\ P m' δ2, rt := DD.rt, bk := fun δ2 => ic X CL b kX δ2 DD, ct := fun δ2 => ∃ m', m' < m /\ P m' δ2 }) /\ (p = false -> ic X CL b kX δ1 DD)) :
   ic X CL b (.While e body [] pos :: kX) δ DD := fh fun H Z σ ts vs E S M =>
 z8 (Vw g.xe ptS pbS) (by
   refine ⟨fun m σ H => ∃ Z2 δ2, aO Z Z2 /\ cA X.K CL b H Z2 δ2 σ ts vs /\ P m δ2, ⟨m, Z, δ, .refl _, S, h0⟩, ?_⟩
   rintro m σ H ⟨Z2, δ2, z2, S2, p2⟩
   obtain ⟨p, δ3, ht, h1, h2⟩ := hs m δ2 p2
   refine ht H Z2 σ ts vs _ S2 fun H3 Z3 z3 k3 S3 => ?_
   cases p with
   | true =>
     rw [arU rfl]
     refine ⟨fun σ' H' => ∃ m', m' < m /\ ∃ Z2 δ2, aO Z Z2 /\ cA X.K CL b H' Z2 δ2 σ' ts vs /\ P m' δ2, fun σ' H' q => q, ?_⟩
     refine h1 rfl H3 Z3 σ ts vs _ S3 ⟨fun δ' σ' H' Z' s' S' ⟨m', l, q⟩ => ⟨m', l, Z', δ', z2.trans (z3.trans s'), S', q⟩, fun t v H' Z' δ' σ' s' S' q => M.rt t v H' Z' δ' σ' (z2.trans (z3.trans s')) S' q,
       fun δ' σ' H' Z' s' S' q => M.nx δ' σ' H' Z' (z2.trans (z3.trans s')) S' q, fun δ' σ' H' Z' s' S' ⟨m', l, q⟩ => ⟨m', l, Z', δ', z2.trans (z3.trans s'), S', q⟩⟩
   | false =>
     rw [arS Q.i]
     exact M.nx δ3 σ H3 Z3 (z2.trans z3) S3 (h2 rfl))
def ajY (K : Q.n) : R2 := fun x y H Q => ∃ l b xs zs, x = .ref l /\ y = .ref b /\ qT K H l xs /\ qT K H b zs /\ xs.length + zs.length <= sizeLine /\ ∀ p, H p = none -> Q (.ref p) (upd H p (.lst (xs ++ zs)))
theorem aa9 : Bk X (binaryOp .Add) (ajY X.K) := by
 intro pins s σ H x y v u Q I rx ry h
 obtain ⟨l, b, xs, zs, rfl, rfl, hH, hB, hz, q⟩ := h
 cases rx
 cases ry
 obtain ⟨its, r, pl, _⟩ := I.list hH
 obtain ⟨sU, r2, pl2, _⟩ := I.list hB
 have e1 := r.length
 have e2 := r2.length
 obtain ⟨⟨c1, dd, da1, sl⟩, ho, hc, n, hd⟩ := pl.isList
 obtain ⟨⟨c2, dd2, da2, sl2⟩, ho2, hc2, n2, hd2⟩ := pl2.isList
 cases hc; cases hc2; cases hd; cases hd2
 refine concat_meets ⟨_, ho, rfl⟩ ⟨_, ho2, rfl⟩ noFill_list_add seq_list_add PySem.F.slot_list_add PySem.F.entry_list_add (PySem.F.args_list_add_2 (Value.ref l) (Value.ref b))
   (list_addW l b its.toArray sU.toArray n n2 dd dd2 sl sl2 (by rw [ar7, ar7]; omega)) ⟨ho, ho2, ?_⟩
 have ea : its.toArray ++ sU.toArray = (its ++ sU).toArray := by simp
 rw [ea]
 exact ⟨.ref _, _, I.ajF (t' := s.toks) (r.append r2) (by rw [arY]; omega), rfl, q _ I.fresh⟩
theorem aK.app {ds Wk : Q.k} {vs2 : List V} (h : aK K CL Z ds vs) (r2 : aK K CL Z Wk vs2) : aK K CL Z (ds ++ Wk) (vs ++ vs2) :=
 aK.ind (P := fun ds vs => aK K CL Z (ds ++ Wk) (vs ++ vs2)) r2 (fun r _ i => .cons r i) h
theorem uW (h1 : eN X CL b e1 δ (.lst ds) δ1) (h2 : eN X CL b e2 δ1 (.lst Wk) δ2) (i1 : D.bQ ds = true) (i2 : D.bQ Wk = true) (hz : ds.length + Wk.length <= sizeLine) :
   cO X CL b (.BinOp e1 .Add e2 pos) δ (.lst ((ds ++ Wk).map T.sh)) δ2 := fun H Z σ ts vs Q S k =>
 dX (Vx aa9 fG fG) (h1 H Z σ ts vs _ S fun v1 H1 Z1 z1 k1 S1 r1 => h2 H1 Z1 σ ts vs _ S1 fun v2 H2 Z2 z2 k2 S2 r2 => by
   have r1' := r1.mono k2
   cases r1' with
   | lst hq1 rr1 =>
     cases r2 with
     | lst hq2 rr2 =>
       refine ⟨_, _, _, _, rfl, rfl, hq1, hq2, by rw [← rr1.length, ← rr2.length]; exact hz, fun p hp => ?_⟩
       have rc := aK.app (aK.pM S2.tp i1 rr1) (aK.pM S2.tp i2 rr2)
       obtain ⟨c, S4⟩ := (cA.wG rc S2).qW (g0 := []) (by simp [rc.length, rr1.length, rr2.length]) hp
       exact k _ _ _ Q.C (k1.trans (k2.trans c)) S4)
theorem boot_min : bootBuiltins "min" = some (.builtin "min") := Q.j
theorem boot_max : bootBuiltins "max" = some (.builtin "max") := Q.j
theorem boot_str : bootBuiltins "str" = some (.type "str") := Q.j
theorem abb {i j : Int} (g : Gx X) (hm : X.mg "min" = none) (hg : Gl X "min") (h : V0 X CL b [e1, e2] δ [.int i, .int j] δ1) (hs : Q.cb := by exact bK rfl) (hpl : (backTo pos (starEach [e2] X.env)).any (·.1) = false := by rfl) :
   cO X CL b (.Call (.Name "min" pp) [e1, e2] [] pos) δ (.sh (.int (if j < i then j else i))) δ1 := fun H Z σ ts vs Q S k =>
 dX (qo (S9 g.calm) hg hm boot_min Oh (he := hs) (hpl := hpl)) (h H Z σ ts vs _ S fun us H1 Z1 z1 k1 S1 r => by
   cases r with
   | cons r1 r =>
     cases r with
     | cons r2 r =>
       cases r
       rw [r1.sc rfl, r2.sc rfl]
       exact ⟨i, j, rfl, k _ H1 Z1 z1 k1 (S1.push (.int _))⟩)
theorem abd {i j : Int} (g : Gx X) (hm : X.mg "max" = none) (hg : Gl X "max") (h : V0 X CL b [e1, e2] δ [.int i, .int j] δ1) (hs : Q.cb := by exact bK rfl) (hpl : (backTo pos (starEach [e2] X.env)).any (·.1) = false := by rfl) :
   cO X CL b (.Call (.Name "max" pp) [e1, e2] [] pos) δ (.sh (.int (if j > i then j else i))) δ1 := fun H Z σ ts vs Q S k =>
 dX (qo (S8 g.calm) hg hm boot_max Oh (he := hs) (hpl := hpl)) (h H Z σ ts vs _ S fun us H1 Z1 z1 k1 S1 r => by
   cases r with
   | cons r1 r =>
     cases r with
     | cons r2 r =>
       cases r
       rw [r1.sc rfl, r2.sc rfl]
       exact ⟨i, j, rfl, k _ H1 Z1 z1 k1 (S1.push (.int _))⟩)
theorem yh {i : Int} (hm : X.mg "str" = none) (hg : Gl X "str") (h : eN X CL b e δ (.int i) δ1) (hi : i.natAbs.log2 < 1920) (hs : Q.R := by exact bK rfl) :
   cO X CL b (.Call (.Name "str" pp) [e] [] pos) δ (.sh (.str (toString i))) δ1 := fun H Z σ ts vs Q S k =>
 dX (qp Hh hg hm boot_str Q.af (he := hs)) (h H Z σ ts vs _ S fun v H1 Z1 z1 k1 S1 r => by
   rw [r.sc rfl]
   exact ⟨i, rfl, hi, k _ H1 Z1 z1 k1 (S1.push (.str _))⟩)
structure Fm (X : Cx) (CL : Q.e) (x : Str) (k n : Nat) {A : Type} (arg : A -> List D) (Pre : A -> Prop) (res : A -> List Q.A) : Prop where
 ex : ∃ f fd ps, Mk X.K (CL x) f /\ iM X.prog X.w X.K X.mg X.base wY k f fd ps (spI X.K CL x n arg Pre res) /\ X.mg x = some (.ref (CL x)) /\ Binds X.K fd ps []
 room : ig (k + 1) X.A
def Wm (N : Q.h) (y : Addr) (c : Str) (ds : List D) : List Q.L := some (.pin y (.ins c [])) :: (ds.map (fun d => some (T.sh d)) ++ List.replicate (N.length - (ds.length + 1)) none)
theorem af9 {CL' : Q.e} {arg : List Int -> List D} {pre : List Int -> Prop} {res : List Int -> T} (ha : ∀ a, arg a = [.lst (a.map .int)]) (hr : ∀ a, res a = .sh (.bl true)) (h0 : ∀ x, Rn x = true -> CL x = 0) :
   ∀ (vs : List V) (H : Hp) (Q : VK) (E : XK), Oo K CL' 1 arg pre res vs H Q E -> Oo K CL 1 arg pre res vs H Q E := by
 rintro vs H Q E ⟨W, a, h1, h2, h3, h4, h5, _, k⟩
 have aga : ∀ {l : Q.b} {us : List V}, aK K CL' W (l.map .int) us -> aK K CL W (l.map .int) us := by
   intro l
   induction l with
   | nil => intro us r; cases r; exact .nil
   | cons i l ih =>
     intro us r
     cases r with
     | cons r t => cases r; exact .cons (.int i) (ih t)
 refine ⟨W, a, h1, h2, ?_, h4, h5, fun x hx e => absurd (h0 x hx) e, fun v H' W' fp a1 a2 a3 a4 a5 r nd own => k v H' W' fp a1 a2 a3 a4 a5 ?_ nd own⟩
 . rw [ha] at h3 ⊢
   cases h3 with
   | cons r t =>
     cases t
     cases r with
     | lst q rr => exact .cons (.lst q (aga rr)) .nil
 . rw [hr] at r ⊢
   cases r with
   | sh r => cases r; exact .sh (.bl _)
section
variable {m : Str} {D : i7}
theorem mk_ {arg : A -> List L3.D} {Pre : A -> Prop} {res : A -> List Q.A} (a : A) (F : Fm X CL x k n arg Pre res) (hg : Gl X x) (h : V0 X CL b Q.D δ (arg a) δ1) (hp : Pre a) (hc : T.cz (res a) = true) (hn : (arg a).length + 1 = n := by rfl)
   (xZ : Q.B := by decide) (he : Q.Y := by exact bK rfl) (hpl : Q.as := by rfl) :
   cO X CL b Q.aX δ (.ins x (res a)) δ1 := by
 obtain ⟨f, fd, ps, M, F1, m, b⟩ := F.ex
 exact aa8 a M F1 F.room m b h hn hp hc hg xZ he hpl
end
theorem oF {f : Str} {d : α} {fs : List (Str × α)} : ((f, d) :: fs).lookup f = some d := by
 rw [asG, beq_self_eq_true]
theorem fq {f g : Str} {d : α} {fs : List (Str × α)} (h : (f == g) = false) : ((g, d) :: fs).lookup f = fs.lookup f := by
 rw [asG, h]
theorem jU {f : Str} : EK f t [] = [(f, t)] := rfl
theorem cP {f g : Str} {u : T} {fs : List Q.A} (h : ¬ g = f) : EK f t ((g, u) :: fs) = (g, u) :: EK f t fs := by
 rw [EK, arS h]
variable {d : L3.D}
theorem yi (x : Int) : ∀ l : List Int, inV (.int x) (l.map V.int) = decide (x ∈ l)
 | [] => by simp [inV]
 | y :: l => by
   have ih := yi x l
   unfold inV at ih ⊢
   rw [asl, aup, ih]
   by_cases h : y = x
   . subst h; simp [VN]
   . have h' : ¬ x = y := fun e => h e.symm
     simp [VN, h, h']
theorem aK.ints {K : Q.n} {Z : Hp} : ∀ {l : Q.b} {vs : List V}, aK K CL Z (l.map D.int) vs -> vs = l.map V.int
 | [], _, r => by
   have r' : aK K CL Z [] _ := r
   cases r'; rfl
 | y :: l, _, r => by
   have r' : aK K CL Z (D.int y :: l.map D.int) _ := r
   cases r' with
   | cons r1 r2 => rw [r1.sc rfl, aK.ints r2]; rfl
theorem jV : ∀ l : List Int, (l.map V.int).all wC = true
 | [] => rfl
 | y :: l => by rw [asl, List.all_cons, jV l]; rfl
def yj (d : L3.D) : Option Q.k := match d with
 | .lst ds => some ds
 | .tup ds => some ds
 | _ => none
theorem cC.yj {ds : Q.k} (r : cC K CL Z d v) (h : L3.yj d = some ds) : ∃ p us, v = .ref p /\ (qT K Z p us \/ xW K Z p us) /\ aK K CL Z ds us := by
 cases r with
 | tup hq rr => cases h; exact ⟨_, _, rfl, .inr hq, rr⟩
 | lst hq rr => cases h; exact ⟨_, _, rfl, .inl hq, rr⟩
 | non => cases h
 | bl => cases h
 | int => cases h
 | str => cases h
 | any => cases h
 | val => cases h
 | BE => cases h
 | dct => cases h
 | ins => cases h
variable {l : Q.b}
theorem yk {i : Int} (h1 : Q.ax) (h2 : eN X CL b e2 δ1 d δ2) (hd : L3.yj d = some (l.map .int)) (hm : behindInMarks .In e2 = false) :
   wZ X CL b (.Compare e1 [.In] [e2] pos) δ (decide (i ∈ l)) δ2 /\ cO X CL b (.Compare e1 [.In] [e2] pos) δ (.sh (.bl (decide (i ∈ l)))) δ2 := by
 constructor
 . intro H Z σ ts vs Q S k
   refine Hq (uR uT fG fG hm) (h1 H Z σ ts vs _ S fun v1 H1 Z1 z1 k1 S1 r1 => h2 H1 Z1 σ ts vs _ S1 fun v2 H2 Z2 z2 k2 S2 r2 => ?_)
   obtain ⟨p, us, rfl, hq, rr⟩ := cC.yj r2 hd
   have e := rr.ints
   subst e
   refine ⟨_, _, rfl, hq, by rw [r1.sc rfl]; rfl, jV l, _, rfl, ?_⟩
   rw [arS ar6, r1.sc rfl, yi]
   exact k H2 Z2 Q.C Q.K S2
 . intro H Z σ ts vs Q S k
   refine dX (uQ uT fG fG hm) (h1 H Z σ ts vs _ S fun v1 H1 Z1 z1 k1 S1 r1 => h2 H1 Z1 σ ts vs _ S1 fun v2 H2 Z2 z2 k2 S2 r2 => ?_)
   obtain ⟨p, us, rfl, hq, rr⟩ := cC.yj r2 hd
   have e := rr.ints
   subst e
   refine ⟨_, _, rfl, hq, by rw [r1.sc rfl]; rfl, jV l, ?_⟩
   rw [arS ar6, r1.sc rfl, yi]
   exact k _ H2 Z2 Q.C Q.K (S2.push (.bl _))
theorem BL {i : Int} (h1 : Q.ax) (h2 : eN X CL b e2 δ1 d δ2) (hd : L3.yj d = some (l.map .int)) (hm : behindInMarks .NotIn e2 = false) :
   wZ X CL b (.Compare e1 [.NotIn] [e2] pos) δ (!decide (i ∈ l)) δ2 /\ cO X CL b (.Compare e1 [.NotIn] [e2] pos) δ (.sh (.bl (!decide (i ∈ l)))) δ2 := by
 constructor
 . intro H Z σ ts vs Q S k
   refine Hq (uR mH fG fG hm) (h1 H Z σ ts vs _ S fun v1 H1 Z1 z1 k1 S1 r1 => h2 H1 Z1 σ ts vs _ S1 fun v2 H2 Z2 z2 k2 S2 r2 => ?_)
   obtain ⟨p, us, rfl, hq, rr⟩ := cC.yj r2 hd
   have e := rr.ints
   subst e
   refine ⟨_, _, rfl, hq, by rw [r1.sc rfl]; rfl, jV l, _, rfl, ?_⟩
   rw [arU rfl, r1.sc rfl, yi]
   exact k H2 Z2 Q.C Q.K S2
 . intro H Z σ ts vs Q S k
   refine dX (uQ mH fG fG hm) (h1 H Z σ ts vs _ S fun v1 H1 Z1 z1 k1 S1 r1 => h2 H1 Z1 σ ts vs _ S1 fun v2 H2 Z2 z2 k2 S2 r2 => ?_)
   obtain ⟨p, us, rfl, hq, rr⟩ := cC.yj r2 hd
   have e := rr.ints
   subst e
   refine ⟨_, _, rfl, hq, by rw [r1.sc rfl]; rfl, jV l, ?_⟩
   rw [arU rfl, r1.sc rfl, yi]
   exact k _ H2 Z2 Q.C Q.K (S2.push (.bl _))
theorem Ru {l : Q.h} (h1 : eN X CL b e1 δ (.str x) δ1) (h2 : eN X CL b e2 δ1 d δ2) (hd : L3.yj d = some (l.map .str)) (hm : behindInMarks .In e2 = false) :
   wZ X CL b (.Compare e1 [.In] [e2] pos) δ (decide (x ∈ l)) δ2 /\ cO X CL b (.Compare e1 [.In] [e2] pos) δ (.sh (.bl (decide (x ∈ l)))) δ2 := by
 constructor
 . intro H Z σ ts vs Q S k
   refine Hq (uR uT fG fG hm) (h1 H Z σ ts vs _ S fun v1 H1 Z1 z1 k1 S1 r1 => h2 H1 Z1 σ ts vs _ S1 fun v2 H2 Z2 z2 k2 S2 r2 => ?_)
   obtain ⟨p, us, rfl, hq, rr⟩ := cC.yj r2 hd
   have e := rr.strs
   subst e
   refine ⟨_, _, rfl, hq, by rw [r1.sc rfl]; rfl, jT l, _, rfl, ?_⟩
   rw [arS ar6, r1.sc rfl, yf]
   exact k H2 Z2 Q.C Q.K S2
 . intro H Z σ ts vs Q S k
   refine dX (uQ uT fG fG hm) (h1 H Z σ ts vs _ S fun v1 H1 Z1 z1 k1 S1 r1 => h2 H1 Z1 σ ts vs _ S1 fun v2 H2 Z2 z2 k2 S2 r2 => ?_)
   obtain ⟨p, us, rfl, hq, rr⟩ := cC.yj r2 hd
   have e := rr.strs
   subst e
   refine ⟨_, _, rfl, hq, by rw [r1.sc rfl]; rfl, jT l, ?_⟩
   rw [arS ar6, r1.sc rfl, yf]
   exact k _ H2 Z2 Q.C Q.K (S2.push (.bl _))
theorem abe {l : Q.h} (h1 : eN X CL b e1 δ (.str x) δ1) (h2 : eN X CL b e2 δ1 d δ2) (hd : L3.yj d = some (l.map .str)) (hm : behindInMarks .NotIn e2 = false) :
   wZ X CL b (.Compare e1 [.NotIn] [e2] pos) δ (!decide (x ∈ l)) δ2 /\ cO X CL b (.Compare e1 [.NotIn] [e2] pos) δ (.sh (.bl (!decide (x ∈ l)))) δ2 := by
 constructor
 . intro H Z σ ts vs Q S k
   refine Hq (uR mH fG fG hm) (h1 H Z σ ts vs _ S fun v1 H1 Z1 z1 k1 S1 r1 => h2 H1 Z1 σ ts vs _ S1 fun v2 H2 Z2 z2 k2 S2 r2 => ?_)
   obtain ⟨p, us, rfl, hq, rr⟩ := cC.yj r2 hd
   have e := rr.strs
   subst e
   refine ⟨_, _, rfl, hq, by rw [r1.sc rfl]; rfl, jT l, _, rfl, ?_⟩
   rw [arU rfl, r1.sc rfl, yf]
   exact k H2 Z2 Q.C Q.K S2
 . intro H Z σ ts vs Q S k
   refine dX (uQ mH fG fG hm) (h1 H Z σ ts vs _ S fun v1 H1 Z1 z1 k1 S1 r1 => h2 H1 Z1 σ ts vs _ S1 fun v2 H2 Z2 z2 k2 S2 r2 => ?_)
   obtain ⟨p, us, rfl, hq, rr⟩ := cC.yj r2 hd
   have e := rr.strs
   subst e
   refine ⟨_, _, rfl, hq, by rw [r1.sc rfl]; rfl, jT l, ?_⟩
   rw [arU rfl, r1.sc rfl, yf]
   exact k _ H2 Z2 Q.C Q.K (S2.push (.bl _))
variable {ds : Q.k}
theorem dh : Ro X CL b [] δ (([] : List L3.D).map T.sh) δ := b8
theorem aJ (h1 : cO X CL b e δ (.sh d) δ1) (h2 : Ro X CL b es δ1 (ds.map T.sh) δ2) (hs : Q.Y := by exact bK rfl) : Ro X CL b Q.D δ ((d :: ds).map T.sh) δ2 := aN h1 h2 hs
theorem gu (h : Ro X CL b es δ (ds.map T.sh) δ1) (hl : Q.aT) : cO X CL b (.List es pos) δ (.lst (ds.map T.sh)) δ1 := d8 h (by simpa using hl)
theorem ym (l : Q.h) : D.bQ (l.map L3.D.str) = true := iB (fun _ => rfl) _
theorem iO (h : cO X CL b e δ (.lst (ds.map T.sh)) δ1) : cO X CL b e δ (.sh (.lst ds)) δ1 := by
 have := Oj h
 rwa [T.dJ, eV] at this
theorem oG (h : Q.ai) (q : t.dJ = d) : cO X CL b e δ (.sh d) δ1 := q ▸ Oj h
theorem abf (h : DD.bk δ) : ic X CL b (.Break pos :: kX) δ DD := fh (V6 h)
theorem tK {d2 : L3.D} (h : Q.aL) (q : d = d2) : eN X CL b e δ d2 δ1 := q ▸ h
theorem aP {t2 : T} (h : Q.ai) (q : t = t2) : cO X CL b e δ t2 δ1 := q ▸ h
structure Lb (Z H Z' H' : Hp) : Prop where
 z : aO Z Z'
 h : aO H H'
 zh : aO Z' H'
 new : ∀ a o, Z' a = some o -> Z a = none -> H a = none
 tp : ∀ a o, H' a = some o -> pL o = true -> Z' a = some o
theorem Lb.refl (zh : aO Z H) (tp : Q.bH) : Lb Z H Z H := ⟨.refl _, .refl _, zh, fun a o q z => (by rw [q] at z; cases z), tp⟩
theorem Lb.tup {p : Addr} (zh : aO Z H) (tp : Q.bH) (hp : H p = none) : Lb Z H (upd Z p (.tup xs)) (upd H p (.tup xs)) := by
 have zp : Z p = none := zh.free hp
 refine ⟨aO.upd zp, aO.upd hp, fun a o q => ?_, fun a o q z => ?_, fun a o q i => ?_⟩
 . by_cases e : a = p
   . subst e; rw [b9] at q ⊢; exact q
   . rw [aL e] at q ⊢; exact zh a o q
 . by_cases e : a = p
   . subst e; exact hp
   . rw [aL e, z] at q; cases q
 . by_cases e : a = p
   . subst e; rw [b9] at q ⊢; exact q
   . rw [aL e] at q ⊢; exact tp a o q i
def ajZ (δ : Q.s) : List Nat -> List D -> List Q.L
 | i :: is, d :: ds => ajZ (δ.set i (some (.sh d))) is ds
 | _, _ => δ
def Gf (σ : L2.St) : List Nat -> List V -> L2.St
 | i :: is, v :: vs => Gf (σ.set i (some v)) is vs
 | _, _ => σ
section
variable {ds : List D}
structure HD (X : Cx) (CL : Q.e) (b : Bx) (δ1 : Q.s) (σ : L2.St) (ts : List T) (vs : List V) (Z H : Hp) (ds : List D) (J : It) (H1 : Hp) : Prop where
 ex : ∃ Z1, aO Z Z1 /\ aO H H1 /\ cA X.K CL b H1 Z1 δ1 σ ts vs /\ (∀ i H2, aO Z1 H2 -> i < ds.length -> J.go i H2) ∧
   (∀ i Z2 H2 x H', aO Z1 Z2 -> aO Z2 H2 -> (∀ a o, H2 a = some o -> pL o = true -> Z2 a = some o) -> i < ds.length -> J.yld i H2 x H' -> ∃ Z3 d, ds[i]? = some d /\ Lb Z2 H2 Z3 H' /\ cC X.K CL Z3 d x) /\ (∀ H2, aO Z1 H2 -> J.stop ds.length H2)
def GIt (X : Cx) (CL : Q.e) (b : Bx) (tg e : Expr) (δ : Q.s) (ds : List D) (δ1 : Q.s) : Prop :=
 ∃ wi, PI X tg e wi /\ ∀ (H Z : Hp) (σ : L2.St) (ts : List T) (vs : List V) (R : It -> Hp -> Prop), cA X.K CL b H Z δ σ ts vs -> (∀ J H1, HD X CL b δ1 σ ts vs Z H ds J H1 -> R J H1) -> wi σ H R
theorem aeq (h : K7 X CL b tg iter δ ds δ1) : GIt X CL b tg iter δ ds δ1 := by
 obtain ⟨wi, pi, hw⟩ := h
 refine ⟨wi, pi, fun H Z σ ts vs R S k => hw H Z σ ts vs R S fun J H1 zz => ?_⟩
 obtain ⟨Z1, us, z1, k1, S1, rr, go, yl, st⟩ := zz
 refine k J H1 ⟨Z1, z1, k1, S1, go, fun i Z2 H2 x H' s1 s2 tp hi hy => ?_, st⟩
 obtain ⟨e, hu⟩ := yl i H2 x H' (s1.trans s2) hi hy
 subst e
 obtain ⟨d, hd, rd⟩ := rr.aaS hu
 exact ⟨Z2, d, hd, .refl s2 tp, rd.mono s1⟩
def Tgt (X : Cx) (CL : Q.e) (tg : Expr) (is : List Nat) (parts : D -> Option (List D)) : Prop :=
 ∃ t : TG, PG X tg t /\ ∀ (Z H : Hp) (d : D) (ps : List D) (x : V) (σ : L2.St) (Q : L2.St -> Hp -> Prop), aO Z H -> cC X.K CL Z d x -> parts d = some ps -> (∀ ys, aK X.K CL Z ps ys -> Q (Gf σ is ys) H) -> t x σ H Q
def part1 (d : D) : Option (List D) := some [d]
def part2 : D -> Option (List D)
 | .tup [a, c] => some [a, c]
 | _ => none
theorem TF {d : D} {ps : List D} (h : part2 d = some ps) : ∃ d1 d2, d = .tup [d1, d2] /\ ps = [d1, d2] := by
 unfold part2 at h
 split at h
 . cases h; exact ⟨_, _, rfl, rfl⟩
 . cases h
theorem Ou {d : D} {ps : List D} {x : V} {Q : L2.St -> Hp -> Prop} (zh : aO Z H) (r : cC K CL Z d x) (e : part2 d = some ps) (k : ∀ ys, aK K CL Z ps ys -> Q (Gf σ [i, j] ys) H) : afg K 2 (KQ (AF i) (KQ (AF j) afe)) x σ H Q := by
 obtain ⟨d1, d2, rfl, rfl⟩ := TF e
 cases r with
 | tup hq rr =>
   cases rr with
   | cons r1 rr =>
     cases rr with
     | cons r2 rr =>
       cases rr
       exact ⟨_, _, rfl, aO.VX zh hq, rfl, _, _, rfl, _, _, rfl, rfl, k _ (.cons r1 (.cons r2 .nil))⟩
theorem Wn {px : Pos} (hN : X.N.Nodup) (n : Ln X i x) : Tgt X CL (.Name x px) [i] part1 :=
 ⟨AF i, xX hN n.hi n.loc n.hf, fun Z H d ps x σ Q zh r e k => by
   cases e
   exact k [x] (.cons r .nil)⟩
theorem abg {y : Str} {px py pt : Pos} (hN : X.N.Nodup) (hc : X.calm = true) (n : Ln X i x) (m : Ln X j y) (hs : (assignEach [.Name x px, .Name y py] X.env).map (·.2) = assign (.Name x px) X.env :: (assignEach [.Name y py] X.env).map (·.2) := by rfl) (KH : (assignEach [.Name y py] X.env).map (·.2) = assign (.Name y py) X.env :: (assignEach [] X.env).map (·.2) := by rfl)
   (hn : (assignEach [.Name x px, .Name y py] X.env).length = 2 := by rfl) (F0 : (assignEach [.Name x px, .Name y py] X.env).findIdx? (·.1) = none := by rfl) : Tgt X CL (.Tuple [.Name x px, .Name y py] k pt) [i, j] part2 :=
 ⟨afg X.K 2 (KQ (AF i) (KQ (AF j) afe)), afh hc (KR (xX hN n.hi n.loc n.hf) (KR (xX hN m.hi m.loc m.hf) aaB KH) hs) hn F0, fun Z H d ps x σ Q zh r e k => Ou zh r e k⟩
end
structure qY (X : Cx) (scope : Scope) (xs : Q.h) (Nc : Q.h) (ix : List Nat) : Prop where
 kind : scope.kind = .function
 Hx : ∀ y ∈ scope.names, y.2 ≠ .cell
 nd : Nc.Nodup
 names : ∀ y ∈ scope.names, y.2 = .local -> scope.names.lookup y.1 = some .local
 own : ∀ x ∈ xs, scope.names.lookup x = some .local
 frees : ∀ y ∈ scope.names, y.2 = .free -> scope.names.lookup y.1 = some .free /\ (X.env.kindOf y.1 = some .cell \/ X.env.kindOf y.1 = some .free)
 hd : Nc = xs ++ ix.filterMap (X.N[·]?)
 ixs : ∀ i ∈ ix, ∃ y, X.N[i]? = some y /\ scope.names.lookup y = some .free
def TH (σ : L2.St) (ix : List Nat) (os : List (Option V)) : L2.St := os ++ ix.map fun i => (σ[i]?).getD none
variable {xs : Q.h}
theorem Lc (sc : qY X scope xs Nc ix) (I : Q.q) (uU : ∀ b ∈ fp, Bj X pins H b /\ b < s.heap.objs.size) {h' : Heap} {m : Q.J} {tk : Nat}
   (hn : h'.Ns s.heap.objs.size m) (hk : ∀ b o, s.heap.get? b = some o -> h'.get? b = some o) :
   Inv (fB X scope Nc s.heap.objs.size s H fp) [] (TH σ ix (List.replicate xs.length none)) H { s with heap := h', toks := tk } := by
 have frees : ∀ y ∈ scope.names, y.2 = .free -> ∃ c, X.env.cells.lookup y.1 = some c := fun y hy e => I.ok.has y.1 (sc.frees y hy e).2
 have sub : ∀ {y : Str} {c : Addr}, (jR X.env scope.names []).lookup y = some c -> X.env.cells.lookup y = some c := fun {y c} e => xh frees (fun _ _ z => by cases z) e
 have hlen : (TH σ ix (List.replicate xs.length none)).length = Nc.length := by
   have all : ∀ l : List Nat, (∀ i ∈ l, ∃ y, X.N[i]? = some y /\ scope.names.lookup y = some .free) -> (l.filterMap (X.N[·]?)).length = l.length := by
     intro l
     induction l with
     | nil => intro _; rfl
     | cons i r ih =>
       intro h
       obtain ⟨y, e, _⟩ := h i arK
       rw [asW, e]
       show _ + 1 = _ + 1
       rw [ih fun j hj => h j (arO _ hj)]
   unfold TH
   rw [sc.hd, arY, arY, arL, asY, all ix sc.ixs]
 have C0 : s.heap.get? s.heap.objs.size = none := Heap.get?_none_of_le (ar5 _)
 refine ⟨⟨I.ok.mod, sc.kind, I.ok.glob, I.ok.blt, ar5 _, fun y z c h1 h2 => I.ok.inj y z c (sub h1) (sub h2), fun y hy => ?_, fun y c hf _ => (by cases (show false = true from hf)), I.ok.hd, I.ok.frames, .inl rfl, fun b hb => ⟨asJ (uU b hb).2, fun y c e => (uU b hb).1.2.2.2.2.1 y c (sub e)⟩, I.bs, asD I.ok.bsz I.sz, fun b o e hb => ?_, fun b hb hf => ?_, I.stack, I.Q8⟩,
   rfl, I.bare, Un.kept hk, ⟨m, hn, fun i y v h1 h2 h3 => ?_⟩, fun y c e => ?_, I.gX.fresh (ar5 _), fun y c e => I.wA y c (sub e), fun p hp => absurd (show p ∈ ([] : List (Addr × Obj)) from hp) Q.p, I.gX.kept hk, hlen⟩
 . 
   have hy' : (relabel scope X.env).names.lookup y = some .cell \/ (relabel scope X.env).names.lookup y = some .free := hy
   cases e : scope.names.lookup y with
   | none => 
     have := mF (env := X.env) e
     rcases hy' with q | q <;> (rw [show (relabel scope X.env).names.lookup y = none from this] at q; cases q)
   | some k =>
     have q := iu (env := X.env) e
     have hk : k = .free := by
       by_cases hk : k = .free
       . exact hk
       . have hb : (k == NameKind.free) = false := by simpa using hk
         rw [arS (by rw [hb]; simp)] at q
         have nc : k ≠ .cell := fun z => by
           subst z
           exact sc.Hx _ (atj e) rfl
         rcases hy' with z | z
         . rw [show (relabel scope X.env).names.lookup y = some k from q] at z
           exact absurd (asH z) nc
         . rw [show (relabel scope X.env).names.lookup y = some k from q] at z
           exact absurd (asH z) hk
     subst hk
     exact xj e
 . 
   rcases (uU b hb).1.2.2.2.1 with z | z
   . exact I.ok.Vo b o e z
   . exact absurd (asF (ar9 e) (asD I.ok.bsz z)) (at4 _)
 . rcases arP.mp (I.Hf b hf) with z | z
   . exact (uU b hb).1.2.1 z
   . exact (uU b hb).1.2.2.1 z
 . 
   unfold TH at h2
   by_cases hi : i < xs.length
   . rw [at7 (by rw [asY]; exact hi), auj, arU hi] at h2
     cases h2
   . obtain ⟨n, rfl⟩ : ∃ n, i = xs.length + n := ⟨i - xs.length, by omega⟩
     rw [atl (by rw [asY]; omega), asY, Nat.add_sub_cancel_left, asA] at h2
     cases ei : ix[n]? with
     | none => rw [ei] at h2; cases h2
     | some j =>
       rw [ei] at h2
       have h2' : (σ[j]?).getD none = some v := asH h2
       have hj : σ[j]? = some (some v) := by
         cases q : σ[j]? with
         | none => rw [q] at h2'; cases h2'
         | some o => rw [q] at h2'; exact congrArg some h2'
       obtain ⟨y', hy1, hy2⟩ := sc.ixs j (asT ei)
       have hNc : Nc[xs.length + n]? = some y' := by
         have all : ∀ (l : List Nat) (i : Nat), (∀ j ∈ l, ∃ y, X.N[j]? = some y /\ scope.names.lookup y = some .free) -> l[i]? = some j -> (l.filterMap (X.N[·]?))[i]? = some y' := by
           intro l
           induction l with
           | nil => intro i _ h; simp at h
           | cons a r ih =>
             intro i h hi
             obtain ⟨ya, ea, _⟩ := h a arK
             rw [asW, ea]
             cases i with
             | zero =>
               simp at hi
               subst hi
               rw [hy1] at ea
               cases ea
               rfl
             | succ i => exact ih i (fun j hj => h j (List.mem_cons_of_mem _ hj)) (by simpa using hi)
         rw [sc.hd, atl Q.a, Nat.add_sub_cancel_left]
         exact all ix n sc.ixs ei
       have ey : y' = y := by
         have h1' : Nc[xs.length + n]? = some y := h1
         rw [hNc] at h1'
         exact asH h1'
       subst ey
       have AI := (sc.frees (y', .free) (atj hy2) rfl).2
       have amR : Vis X.env.scope y' := AI.elim (fun z => .inr (.inl z)) (fun z => .inr (.inr z))
       obtain ⟨m0, hn0, hl0⟩ := I.loc
       obtain ⟨u, ru, lk⟩ := hl0 j y' v hy1 hj amR
       refine ⟨u, ru, ?_⟩
       rcases lk with ⟨kk, _⟩ | ⟨_, c, hc, FY⟩
       . rcases AI with z | z
         . rw [kk] at z; cases z
         . rw [kk] at z; cases z
       . obtain ⟨c', hc'⟩ := xj (env := X.env) (cs := []) hy2
         have : c' = c := by
           have := sub hc'
           rw [hc] at this
           exact (asH this).symm
         subst this
         obtain ⟨o, ho, hd⟩ := FY
         refine .inr ⟨?_, c', hc', o, hk _ _ ho, hd⟩
         have q := iu (env := X.env) hy2
         show (relabel scope X.env).names.lookup y' = some .cell \/ (relabel scope X.env).names.lookup y' = some .free
         rw [show (relabel scope X.env).names.lookup y' = _ from q]
         split
         . exact .inl rfl
         . exact .inr rfl
 . obtain ⟨v, o, ho, hd⟩ := I.cell y c (sub e)
   exact ⟨v, o, hk _ _ ho, hd⟩
def Wo (X : Cx) (tg elt : Expr) (ifs : List Expr) (n : Nat) (σ : L2.St) (ix : List Nat) (D : Addr) (N : Hp -> Prop) (xv : V) (os : List (Option V)) (H3 : Hp) : Prop :=
 ∃ t : TG, PG X tg t /\ t xv (TH σ ix os) H3 fun σ8 H4 => ∃ os', os'.length = n /\ σ8 = TH σ ix os' /\ afT X ifs σ8 H4 fun ok H5 =>
   if ok = true then Tr X elt σ8 H5 fun y H6 => ∃ acc, H6 D = some (.lst acc) /\ acc.length < sizeLine /\ N (upd H6 D (.lst (acc ++ [y]))) else N H5
variable {it : Addr} {E : Q.I}
theorem Ov {J : It} {tn : Nat -> Heap -> Prop} {G : Addr -> Hp -> Prop} {RR : Value -> Addr -> Result -> Shared -> Prop}
   (sc : qY X scope xs Nc ix) (hc : X.calm = true) (I : Q.q) (Tn : Turn X.prog X.w X.K tg J fp it tn) (st : tn 0 s.heap) (hf : ∀ b ∈ fp, Bj X pins H b)
   (loop : ∀ D, H D = none -> ∃ W : Nat -> Nat -> Hp -> Prop, (∃ m, W 0 m (upd H D (.lst []))) /\ ∀ i m H2, W i m H2 -> (J.stop i H2 /\ G D H2) ∨
     (J.go i H2 /\ ∃ N : Hp -> Prop, (∀ H', N H' -> ∃ m', m' < m /\ W (i + 1) m' H') /\ ∀ xv H3, J.yld i H2 xv H3 -> ∀ C s0 H0 f0 os, os.length = xs.length -> Wo Q.be tg elt ifs xs.length σ ix D N xv os H3))
   (hRR : ∀ D C s' H', (∃ m, s'.heap.Ns C m) -> (∃ o, s'.heap.get? C = some o /\ ∀ v, o.data ≠ .cell v) -> H' C = none -> (C ≠ X.env.locals /\ C ∉ X.fs /\ X.s₀.heap.objs.size <= C /\ (∀ y c, X.env.cells.lookup y = some c -> c ≠ C) /\ ∀ q ∈ X.pn ++ pins, q.1 ≠ C) -> (∀ h', Heap.SameBut C s'.heap h' -> Inv X pins σ H' { s' with heap := h' }) -> G D H' -> RR (.ref D) C (.ok .next) s') :
   wpAny Q.o X.A (newList []) (fun acc s₃ => wpAny Q.o X.A (newFunctionEnv scope X.env.globals (jR X.env scope.names []) [] X.env.qual none .none (some X.env)) (fun Wq s₄ =>
     codeAny Q.o X.A (.compStart Q.bh 0 (.ref it) acc { Wq with scope := relabel scope X.env }) (RR acc Wq.locals) s₄) E s₃) E s := by
 refine aun ?_
 have I3 : Inv X pins σ (upd H s.heap.objs.size (.lst [])) { s with heap := s.heap.push { cls := .type "list", dict := none, data := .seq ([] : List Value).toArray } } :=
   I.laid (t' := s.toks) (fun b u e => ar4 _ e) (ar5 _) ⟨by show 0 <= sizeLine; exact asr _, [], 0, .nil, asC _ rfl⟩
 have hD : H s.heap.objs.size = none := I.gX.fresh (ar5 _)
 obtain ⟨W, ⟨m0, w0⟩, turn⟩ := loop _ hD
 have Wr : ∀ b ∈ fp, Bj X pins (upd H s.heap.objs.size (.lst [])) b /\ b < (s.heap.push { cls := .type "list", dict := none, data := .seq ([] : List Value).toArray }).objs.size := fun b hb => by
   obtain ⟨f0, f1⟩ := hf b hb
   obtain ⟨o, ho, _⟩ := Tn.obj 0 _ st b hb
   have wk := ar9 ho
   refine ⟨⟨by rw [aL (asJ wk)]; exact f0, f1⟩, ?_⟩
   rw [Heap.size_push]; exact Nat.lt_succ_of_lt wk
 have st3 : tn 0 (s.heap.push { cls := .type "list", dict := none, data := .seq ([] : List Value).toArray }) := Tn.keep 0 _ _ st fun b _ o e => ar4 _ e
 generalize hs3 : ({ s with heap := s.heap.push { cls := .type "list", dict := none, data := .seq ([] : List Value).toArray } } : Shared) = s3 at I3 ⊢
 have hh3 : s3.heap = s.heap.push { cls := .type "list", dict := none, data := .seq ([] : List Value).toArray } := by rw [← hs3]
 rw [← hh3] at Wr st3
 refine wpAny_newFunctionEnv sc.Hx (by intro y hy; simp at hy) (fun h₁ agc agd => ?_) sc.kind
 have old : ∀ b o, s3.heap.get? b = some o -> h₁.get? b = some o := fun b o e => (agd.2 b (asJ (ar9 e))).trans (ar4 _ e)
 have J0 := Lc (tk := s3.toks + ([] : List (Str × Value)).length) sc I3 Wr agc old
 have st4 : tn 0 h₁ := Tn.keep 0 _ _ st3 fun b _ o e => old b o e
 have aer : ∀ s4 : Shared, s4 = { s3 with heap := h₁, toks := s3.toks + ([] : List (Str × Value)).length } -> codeAny Q.o X.A (.compLoop Q.bh 0 (.ref it) Q.bf (compEnvC scope (jR X.env scope.names []) s3.heap.objs.size X.env)) (RR Q.bf s3.heap.objs.size) s4 := by
   rintro s4 rfl
   have stat : ∀ {H' : Hp}, (∀ b ∈ fp, H' b = none) -> ∀ b ∈ fp, Bj Q.bu [] H' b := fun {H'} hn b hb => by
     obtain ⟨⟨f0, f1, f2, f3, f4, f5⟩, wk⟩ := Wr b hb
     refine ⟨hn b hb, asJ wk, fun z => ?_, .inl hb, fun y c e => f4 y c (xh (fun y hy e => I.ok.has y.1 (sc.frees y hy e).2) (fun _ _ z => by cases z) e), fun p hp => absurd (show p ∈ ([] : List (Addr × Obj)) from hp) Q.p⟩
     rcases arP.mp (I3.Hf b z) with q | q
     . exact f1 q
     . exact f2 q
   refine Hw (fun n s' => ∃ i o H', o.length = xs.length /\ Inv Q.bu [] (TH σ ix o) H' s' /\ tn i s'.heap /\ (∀ b ∈ fp, H' b = none) /\ W i n H') ?_ m0 ⟨0, _, _, asY, J0, st4, fun b hb => (Wr b hb).1.1, w0⟩
   rintro n s5 ⟨i, o5, H5, ol5, I5, st5, fr5, w5⟩
   rcases turn i n H5 w5 with ⟨stop, g⟩ | ⟨go, N, hN, step⟩
   . refine gk (Tn.done Q.bu rfl rfl rfl hc i [] s5 _ H5 _ I5 (stat fr5) st5 stop) fun r s6 zz => ?_
     obtain ⟨hr, I6⟩ := zz
     subst hr
     obtain ⟨m6, hn6, _⟩ := I6.loc
     obtain ⟨oc, esc, epc, hoc, hdc, _⟩ := id hn6
     have fpC := I3.Hg (ar5 s3.heap.objs.size) (H' := fun _ => none) rfl
     refine hRR _ _ s6 H5 ⟨m6, hn6⟩ ⟨oc, hoc, fun v z => by rw [hdc] at z; cases z⟩ I6.free ⟨fpC.2.1, fpC.2.2.1, ?_, fpC.2.2.2.2.1, fpC.2.2.2.2.2⟩ (fun h' hs' => Tv I3 (fun b hb => (Wr b hb).1) I6 hs') g
     exact I3.sz
   . refine gk (Tn.item Q.bu rfl rfl rfl hc i [] s5 _ H5 _ I5 (stat fr5) st5 go) fun r s6 zz => ?_
     obtain ⟨u, hr, h6⟩ := zz
     subst hr
     refine gk h6 fun _ s7 zz => ?_
     obtain ⟨xv, H7, I7, r7, y7, st7, fr7⟩ := zz
     have I7' := I7.pinned (stat fr7) (Tn.obj _ _ st7)
     obtain ⟨t, hg, ht⟩ := step xv _ y7 s3.heap.objs.size s3 (upd H s.heap.objs.size (.lst [])) fp o5 ol5
     refine gk (hg _ s7 _ H7 xv u _ I7' r7 ht) fun _ s8 zz => ?_
     obtain ⟨σ8, H8, I8, os8, ol8, e8, h8⟩ := zz
     subst e8
     refine gk (V8 I8 h8 rfl) fun ok s9 zz => ?_
     obtain ⟨H9, I9, q9⟩ := zz
     have again : ∀ {Ha : Hp} {sa : Shared}, Inv Q.bu ([] ++ CW fp s7.heap) (TH σ ix os8) Ha sa -> N Ha -> ∃ m, m < n /\ ∃ i o H', o.length = xs.length /\ Inv Q.bu [] (TH σ ix o) H' sa /\ tn i sa.heap /\ (∀ b ∈ fp, H' b = none) /\ W i m H' := fun {Ha sa} Ia na => by
       obtain ⟨m', hm, wa⟩ := hN Ha na
       refine ⟨m', hm, i + 1, os8, Ha, ol8, Ia.xY, Tn.keep _ _ _ st7 fun b hb o e => (Ia.pin (b, o) (arQ _ (arQ _ (qU hb e)))).1, fun b hb => ?_, wa⟩
       obtain ⟨o, e, d⟩ := Tn.obj _ _ st7 b hb
       exact (Ia.pin (b, o) (arQ _ (arQ _ (qU hb e)))).2.1
     cases ok with
     | false =>
       rw [arS ar6] at q9 ⊢
       exact again I9 q9
     | true =>
       rw [arU rfl] at q9 ⊢
       refine gk (q9 _ s9 I9) fun v sa zz => ?_
       obtain ⟨y, Ha, Ia, ra, acc, HF, hlen, na⟩ := zz
       refine gk (F7 (X := fB X scope Nc s3.heap.objs.size s3 (upd H s.heap.objs.size (.lst [])) fp) _ sa _ Ha Q.bf [y] Q.bf [v] (fun _ Hb => Hb = upd Ha s.heap.objs.size (.lst (acc ++ [y]))) Ia rfl (.cons ra .nil) ⟨_, acc, y, rfl, rfl, HF, hlen, rfl⟩) fun _ sb zz => ?_
       obtain ⟨_, Hb, Ib, _, eb⟩ := zz
       subst eb
       exact again Ib na
 exact codeAny_compStart_list (aer _ rfl) (Tn.self _ 0 _ _ _ st4 (aer _ rfl))
def TJ (ps : List D) : List Q.L := ps.map fun p => some (.sh p)
theorem Gg : ∀ {ys : List V} {os : List (Option V)} {pre r : L2.St}, os.length = ys.length -> Gf (pre ++ (os ++ r)) (List.range' pre.length ys.length) ys = pre ++ (ys.map some ++ r)
 | [], os, pre, r, h => by
   have : os = [] := List.length_eq_zero_iff.mp h
   subst this
   rfl
 | y :: ys, os, pre, r, h => by
   match os, h with
   | o :: os, h =>
     show Gf ((pre ++ (o :: (os ++ r))).set pre.length (some y)) (List.range' (pre.length + 1) ys.length) ys = _
     rw [List.set_append_right _ _ (ar5 _), Nat.sub_self, List.set_cons_zero]
     have := Gg (ys := ys) (os := os) (pre := pre ++ [some y]) (r := r) (by simpa using h)
     simp only [arY, ar8, List.length_nil, arR, List.singleton_append] at this
     rw [this]
     simp
theorem abh : ∀ {ps : List D} {ys : List V} {δc : Q.s} {σc : L2.St}, aK K CL Z ps ys -> fQ K CL H Z δc σc [] -> fQ K CL H Z (TJ ps ++ δc) (ys.map some ++ σc) [] := fun {ps ys δc σc} h e =>
 aK.ind (P := fun ps ys => fQ K CL H Z (TJ ps ++ δc) (ys.map some ++ σc) []) e (fun r _ i => .cons (fp := []) (gp := []) (.sh r) i) h
section
variable {W1 : Hp} {δc : Q.s} {J : It} {ds : List D} {p : D -> Bool} {g : D -> T} {parts : D -> Option (List D)}
def Aa (X : Cx) (CL : Q.e) (scope : Scope) (Nc : Q.h) (n : Nat) (tg : Expr) (parts : D -> Option (List D)) (ifs : List Expr) (elt : Expr) (δc : Q.s) (ds : List D) (p : D -> Bool) (g : D -> T) : Prop :=
 ∀ C s0 H0 f0 b', Tgt Q.be CL tg (List.range' 0 n) parts /\ ∀ d, d ∈ ds -> ∃ ps, parts d = some ps /\ ps.length = n /\ TIv Q.be CL b' ifs (TJ ps ++ δc) (p d) /\ (p d = true -> cO Q.be CL b' elt (TJ ps ++ δc) (g d) (TJ ps ++ δc))
structure GW (K : Q.n) (CL : Q.e) (H W1 : Hp) (D : Addr) (l : List T) (k : Nat) (H2 Z2 : Hp) (NS : List V) (fp : Q.t) : Prop where
 a1 : aO H H2
 a2 : aO W1 Z2
 a3 : aO Z2 H2
 a4 : Z2 D = none
 a5 : ∀ a o, Z2 a = some o -> W1 a = none -> H a = none
 a6 : ∀ a o, H2 a = some o -> pL o = true -> Z2 a = some o
 a7 : H2 D = some (.lst NS)
 a8 : bu K CL H2 Z2 l NS fp
 a9 : fp.Nodup
 b1 : D ∉ fp
 b2 : ∀ a ∈ fp, Z2 a = none /\ H a = none
 b3 : NS.length <= k
theorem C8 (S : cA X.K CL b H Z δ σ ts vs) (zw : aO Z W1) (wh : aO W1 H) (tp : ∀ a o, H a = some o -> pL o = true -> W1 a = some o)
   (cap : ∀ H', fQ X.K CL H' W1 δc (ix.map fun i => (σ[i]?).getD none) []) (inner : Aa X CL scope Nc n tg parts ifs elt δc ds p g)
   (Vg : ∀ i H2, aO W1 H2 -> i < ds.length -> J.go i H2)
   (hy : ∀ i Z2 H2 x H', aO W1 Z2 -> aO Z2 H2 -> (∀ a o, H2 a = some o -> pL o = true -> Z2 a = some o) -> i < ds.length -> J.yld i H2 x H' -> ∃ Z3 d, ds[i]? = some d /\ Lb Z2 H2 Z3 H' /\ cC X.K CL Z3 d x)
   (F0 : ∀ H2, aO W1 H2 -> J.stop ds.length H2) (hlen : Q.aT) (c : W1 = Z \/ ∀ d ∈ ds, (g d).clean = true) :
   ∀ D, H D = none -> ∃ W : Nat -> Nat -> Hp -> Prop, (∃ m, W 0 m (upd H D (.lst []))) /\ ∀ i m H2, W i m H2 -> (J.stop i H2 /\ ∃ Z2, aO Z Z2 /\ aO H H2 /\ cA X.K CL b H2 Z2 δ σ (.lst ((ds.filter p).map g) :: ts) (.ref D :: vs)) ∨
     (J.go i H2 /\ ∃ N : Hp -> Prop, (∀ H', N H' -> ∃ m', m' < m /\ W (i + 1) m' H') /\ ∀ xv H3, J.yld i H2 xv H3 -> ∀ C s0 H0 f0 os, os.length = n -> Wo Q.be tg elt ifs n σ ix D N xv os H3) := by
 intro D hD
 have wD : W1 D = none := wh.free hD
 refine ⟨fun i m H2 => m = ds.length - i /\ i <= ds.length /\ ∃ Z2 NS fp, GW X.K CL H W1 D (((ds.take i).filter p).map g) i H2 Z2 NS fp, ⟨ds.length, rfl, asr _, W1, [], [], aO.upd hD, .refl _, wh.trans (aO.upd hD), wD, fun a o q z => ?_, fun a o q i => ?_, b9, .nil, List.nodup_nil, by simp, by simp, by simp⟩, ?_⟩
 . rw [q] at z; cases z
 . by_cases ha : a = D
   . subst ha; rw [b9] at q; cases q; cases i
   . rw [aL ha] at q; exact tp a o q i
 . rintro i m H2 ⟨rfl, hi, Z2, NS, fp, hh, wz, zh, zD, nw, tp2, hD2, ra, nd, nD, own, hav⟩
   by_cases wk : i < ds.length
   . refine .inr ⟨Vg i H2 (wz.trans zh) wk, fun H' => ∃ Z2 NS fp, GW X.K CL H W1 D (((ds.take (i + 1)).filter p).map g) (i + 1) H' Z2 NS fp, fun H' h => ⟨ds.length - (i + 1), by omega, rfl, wk, h⟩, fun xv H3 y C s0 H0 f0 os hos => ?_⟩
     obtain ⟨Z3, d, hd, gr, rd⟩ := hy i Z2 H2 xv H3 wz zh tp2 wk y
     have agf : ∀ a, Z2 a = none -> (∃ o, H2 a = some o) -> Z3 a = none := fun a e ⟨o, e2⟩ => by
       cases q : Z3 a with
       | none => rfl
       | some u => rw [gr.new a u q e] at e2; cases e2
     have nw3 : ∀ a o, Z3 a = some o -> W1 a = none -> H a = none := fun a o q z => by
       cases e : Z2 a with
       | none => exact hh.free (gr.new a o q e)
       | some u =>
         have := gr.z a u e
         rw [q] at this; cases this
         exact nw a o e z
     have ra3 : bu X.K CL H3 Z3 (((ds.take i).filter p).map g) NS fp := ra.mono gr.z fun a ha => by
       obtain ⟨o, e⟩ := ra.there a ha
       rw [e]; exact gr.h a o e
     have ow3 : ∀ a ∈ fp, Z3 a = none /\ H a = none := fun a ha => ⟨agf a (own a ha).1 (ra.there a ha), (own a ha).2⟩
     have zD3 : Z3 D = none := agf D zD ⟨_, hD2⟩
     have hD3 : H3 D = some (.lst NS) := gr.h D _ hD2
     have hh3 := hh.trans gr.h
     have wz3 := wz.trans gr.z
     have zh3 := gr.zh
     have tp3 := gr.tp
     clear own nw ra zD hD2 hh wz zh tp2 gr agf
     have Ab : d ∈ ds := asT hd
     have BO : ds.take (i + 1) = ds.take i ++ [d] := by rw [atV, hd]; rfl
     obtain ⟨tgt, BP⟩ := inner C s0 H0 f0 ⟨H3, Z3⟩
     obtain ⟨ps, hps, hpl, it, ie⟩ := BP d Ab
     obtain ⟨t, pg, ht⟩ := tgt
     refine ⟨t, pg, ht Z3 H3 d ps xv _ _ zh3 rd hps fun ys rys => ?_⟩
     have hyl : ys.length = n := by rw [← rys.length]; exact hpl
     have es : Gf (TH σ ix os) (List.range' 0 n) ys = TH σ ix (ys.map some) := by
       have := Gg (ys := ys) (os := os) (pre := []) (r := ix.map fun i => (σ[i]?).getD none) (by rw [hos, hyl])
       rw [hyl] at this
       exact this
     refine ⟨ys.map some, by rw [arL]; exact hyl, es, ?_⟩
     rw [es]
     have S0 : cA X.K CL ⟨H3, Z3⟩ H3 Z3 (TJ ps ++ δc) (TH σ ix (ys.map some)) [] [] :=
       ⟨⟨[], [], abh rys ((cap H3).mono wz3 fun a ha => by cases ha), .nil, List.nodup_nil, fun a ha => by cases ha⟩, .refl _, .refl _, zh3, fun a o q z => (by have z' : Z3 a = none := z; rw [show Z3 a = some o from q] at z'; cases z'), tp3, (S.aaU.mono zw).mono wz3⟩
     refine it.sem S0 fun H4 Z4 z4 k4 S4 => ?_
     have amX : ∀ a ∈ fp, H4 a = H3 a := fun a ha => by
       obtain ⟨o, e⟩ := ra3.there a ha
       rw [e]; exact k4 a o e
     have Ws : ∀ a, Z3 a = none -> (∃ o, H3 a = some o) -> Z4 a = none := fun a e ⟨o, e2⟩ => by
       cases q : Z4 a with
       | none => rfl
       | some u =>
         have := S4.new a u q e
         rw [show H3 a = none from this] at e2; cases e2
     cases hp : p d with
     | false =>
       refine Oe ⟨Z4, NS, fp, hh3.trans k4, wz3.trans z4, S4.zh, Ws D zD3 ⟨_, hD3⟩, fun a o q z => ?_, S4.tp, k4 D _ hD3, ?_, nd, nD, fun a ha => ⟨Ws a (ow3 a ha).1 (ra3.there a ha), (ow3 a ha).2⟩, by omega⟩
       . cases e : Z3 a with
         | none => exact hh3.free (S4.new a o q e)
         | some u => 
           have := z4 a u e
           rw [q] at this; cases this
           exact nw3 a o e z
       . rw [BO, atc, auk (by simp [hp]), atO, asj]
         exact ra3.mono z4 amX
     | true =>
       refine Og ((ie hp) H4 Z4 (TH σ ix (ys.map some)) [] [] _ S4 fun yv H5 Z5 z5 k5 S5 => ⟨NS, k5 D _ (k4 D _ hD3), by omega, ?_⟩)
       obtain ⟨f1, g1, e1, r1, nd1, aj0⟩ := S5.rep
       cases r1 with
       | @cons _ _ _ _ fy fn ry rn =>
         cases rn
         rw [asj] at nd1 aj0
         have ndy : fy.Nodup := (ass.mp nd1).2.1
         have abj : ∀ a ∈ fy, Z5 a = none /\ H3 a = none := fun a ha => aj0 a (arQ _ ha)
         have Ow : ∀ a, Z3 a = none -> (∃ o, H3 a = some o) -> Z5 a = none := fun a e ⟨o, e2⟩ => by
           cases q : Z5 a with
           | none => rfl
           | some u =>
             have := S5.new a u q e
             rw [show H3 a = none from this] at e2; cases e2
         have yD : ∀ a ∈ fy, a ≠ D := fun a ha e => by
           subst e
           rw [(abj a ha).2] at hD3; cases hD3
         have h5D : H5 D = some (.lst NS) := k5 D _ (k4 D _ hD3)
         have sD : aO H (upd H5 D (.lst (NS ++ [yv]))) := fun a o q => by
           rw [aL (cE q hD)]
           exact k5 a o (k4 a o (hh3 a o q))
         refine ⟨Z5, NS ++ [yv], fp ++ fy, sD, wz3.trans (z4.trans z5), fun a o q => ?_, Ow D zD3 ⟨_, hD3⟩, fun a o q z => ?_, fun a o q im => ?_, b9, ?_, ?_, ?_, fun a ha => ?_, ?_⟩
         . rw [aL (cE q (Ow D zD3 ⟨_, hD3⟩))]; exact S5.zh a o q
         . cases e : Z3 a with
           | none => exact hh3.free (S5.new a o q e)
           | some u =>
             have := z5 a u (z4 a u e)
             rw [q] at this; cases this
             exact nw3 a o e z
         . by_cases ha : a = D
           . subst ha; rw [b9] at q; cases q; cases im
           . rw [aL ha] at q; exact S5.tp a o q im
         . rw [BO, atc, aul hp, atO, ash]
           refine bu.app (ra3.mono (z4.trans z5) fun a ha => ?_) (by
             have := bu.cons (fp := fy) (gp := []) (ry.mono Q.m fun a ha => aL (yD a ha)) (bu.nil (H := upd H5 D (.lst (NS ++ [yv]))) (Z := Z5))
             rwa [asj] at this)
           have : a ≠ D := fun e => nD (e ▸ ha)
           rw [aL this]
           obtain ⟨o, e⟩ := ra3.there a ha
           rw [e]; exact k5 a o (k4 a o e)
         . refine ass.mpr ⟨nd, ndy, fun a ha a' VZ e => ?_⟩
           subst e
           obtain ⟨o, e⟩ := ra3.there a ha
           rw [(abj a VZ).2] at e; cases e
         . intro h
           rcases arV.mp h with h | h
           . exact nD h
           . exact yD D h rfl
         . rcases arV.mp ha with h | h
           . exact ⟨Ow a (ow3 a h).1 (ra3.there a h), (ow3 a h).2⟩
           . exact ⟨(abj a h).1, hh3.free (abj a h).2⟩
         . rw [arY, as9]; omega
   . have e : i = ds.length := by omega
     subst e
     refine .inl ⟨F0 H2 (wz.trans zh), ?_⟩
     rw [asN] at ra
     obtain ⟨Z', z', S'⟩ := S.back (H' := H2) (W := W1) (W' := Z2) (t := .lst ((ds.filter p).map g)) (v := .ref D) (fp := D :: fp) hh zw wz zh nw tp2 (.lst hD2 ra) (as2.mpr ⟨nD, nd⟩) (fun a ha => by
       rcases arP.mp ha with h | h
       . subst h; exact ⟨zD, hD⟩
       . exact own a h) (c.imp id fun c => by
         rw [fV]
         exact C5 fun d hd => c d (asf.mp hd).1)
     exact ⟨Z', z', hh, S'⟩
end
variable {δc : Q.s} {ds : List D} {p : D -> Bool} {g : D -> T} {parts : D -> Option (List D)}
theorem Gh {J : It} {tn : Nat -> Heap -> Prop} {H1 : Hp} {RR : Value -> Addr -> Result -> Shared -> Prop}
   (sc : qY X scope xs Nc ix) (hc : X.calm = true) (C : HD X CL b δ1 σ ts vs Z H ds J H1) (I : L2.Inv X pins σ H1 s) (Tn : Turn X.prog X.w X.K tg J fp it tn) (st : tn 0 s.heap) (hf : ∀ b ∈ fp, Bj X pins H1 b)
   (hb : Q.bF) (inner : Q.bO) (hlen : Q.aT)
   (hRR : ∀ D C s' H' Z', (∃ m, s'.heap.Ns C m) -> (∃ o, s'.heap.get? C = some o /\ ∀ v, o.data ≠ .cell v) -> H' C = none -> (C ≠ X.env.locals /\ C ∉ X.fs /\ X.s₀.heap.objs.size <= C /\ (∀ y c, X.env.cells.lookup y = some c -> c ≠ C) /\ ∀ q ∈ X.pn ++ pins, q.1 ≠ C) -> (∀ h', Heap.SameBut C s'.heap h' -> L2.Inv X pins σ H' { s' with heap := h' }) -> aO Z Z' -> aO H H' -> cA X.K CL b H' Z' δ1 σ (.lst ((ds.filter p).map g) :: ts) (.ref D :: vs) -> RR (.ref D) C (.ok .next) s') :
   wpAny Q.o X.A (newList []) (fun acc s₃ => wpAny Q.o X.A (newFunctionEnv scope X.env.globals (jR X.env scope.names []) [] X.env.qual none .none (some X.env)) (fun Wq s₄ =>
     codeAny Q.o X.A (.compStart Q.bh 0 (.ref it) acc { Wq with scope := relabel scope X.env }) (RR acc Wq.locals) s₄) E s₃) E s := by
 obtain ⟨Z1, z1, k1, S1, go, yl, stp⟩ := C.ex
 have lp : ∀ D, H1 D = none -> ∃ W : Nat -> Nat -> Hp -> Prop, (∃ m, W 0 m (upd H1 D (.lst []))) /\ ∀ i m H2, W i m H2 -> (J.stop i H2 /\ ∃ Z2, aO Z1 Z2 /\ aO H1 H2 /\ cA X.K CL b H2 Z2 δ1 σ (.lst ((ds.filter p).map g) :: ts) (.ref D :: vs)) ∨
     (J.go i H2 /\ ∃ N : Hp -> Prop, (∀ H', N H' -> ∃ m', m' < m /\ W (i + 1) m' H') /\ ∀ xv H3, J.yld i H2 xv H3 -> ∀ C s0 H0 f0 os, os.length = xs.length -> Wo Q.be tg elt ifs xs.length σ ix D N xv os H3) := by
   rcases hb with ⟨e, cl⟩ | e
   . subst e
     exact C8 (W1 := H1) S1 S1.zh Q.m (fun _ _ q _ => q) (K5 S1 ix) inner (fun i H2 s => go i H2 (S1.zh.trans s)) (fun i Z2 H2 y H' s => yl i Z2 H2 y H' (S1.zh.trans s)) (fun H2 s => stp H2 (S1.zh.trans s)) hlen (.inr cl)
   . subst e
     exact C8 (W1 := Z1) S1 Q.m S1.zh S1.tp (K6 S1 ix) inner go yl stp hlen Q.F
 exact Ov sc hc I Tn st hf lp fun D C s' H' m io nC ch ci ⟨Z', z', k', S'⟩ => hRR D C s' H' Z' m io nC ch ci (z1.trans z') (k1.trans k') S'
theorem AW (sc : qY X scope xs Nc ix) (I : L2.Inv X pins σ H s) : closureFor scope X.env = pure (jR X.env scope.names []) :=
 EJ fun y hy e => I.ok.has y.1 (sc.frees y hy e).2
theorem C9 (sc : qY X scope xs Nc ix) (hc : X.calm = true) (h : GIt X CL b tg iter δ ds δ1) (hb : Q.bF) (inner : Q.bO) (hlen : Q.aT)
   (hs : Q.bi := by intro _; rfl) : cO X CL b Q.bh δ (.lst ((ds.filter p).map g)) δ1 := fun H Z σ ts vs Q S k pins s I => by
 obtain ⟨wi, pi, hw⟩ := h
 rw [eval_ListComp]
 refine wpAny_comprehension_free (use := none) rfl hs (AW sc I) sc.kind sc.names ?_
 refine gk (pi pins s σ H _ I (hw H Z σ ts vs (fun J H1 => HD X CL b δ1 σ ts vs Z H ds J H1) S fun J H1 C => C)) fun v s1 h1 => gk h1 fun itv s2 zz => ?_
 obtain ⟨it, fp, tn, J, H1, e, I1, Tn, st, hf, C⟩ := zz
 subst e
 refine Gh (RR := fun acc C => compPost Q.o X.A X.xe none Q.ap acc C) sc hc C I1 Tn st hf hb inner hlen fun D C' s' H' Z' m io nC ch ci z' k' S' => ?_
 obtain ⟨m, hn⟩ := m
 exact ⟨m, hn, fun h' hs' => ⟨.ref D, H', ci h' hs', rfl, k _ H' Z' z' k' S'⟩⟩
variable {y : Str}
theorem abk {D : i7} {py aj1 : Pos} (i : Nat) (sc : qY X scope xs Nc ix) (hc : X.calm = true) (h : GIt X CL b tg iter δ ds δ1) (hb : Q.bF) (inner : Q.bO) (hlen : Q.aT)
   (k : D.nx (δ1.set i (some (.lst ((ds.filter p).map g))))) (hl : i < δ1.length) (hN : X.N.Nodup) (hi : X.N[i]? = some y) (hx : Loc X.env.scope y) (hf' : X.fn y = true \/ X.env.scope.names.lookup y = some .local)
   (Hy : swapsWith Q.bh (some (.Name y py)) aj1.line X.env = pure true)
   (hs : Q.bi := by intro _; rfl) : TSv X CL b (.Assign [.Name y py] Q.bh aj1) δ D := fun H Z σ ts vs E S M pins s I => by
 obtain ⟨wi, pi, hw⟩ := h
 rw [exec_Assign_Name_used _ _ _ _ Hy]
 refine arX (wpAny_standAt (arX ?_))
 show wpAny _ X.A (do let _ ← comprehension Q.bh scope X.env _ (newList []) false (eval iter X.env) (some (assign (.Name y py) X.env))) _ _ s
 refine arX (atD (wpAny_comprehension_free (use := some (assign (.Name y py) X.env)) (Q := fun _ s' => SP X pins E .next s') rfl hs (AW sc I) sc.kind sc.names ?_) (fun _ s' hq => asE (asE hq)) fun _ _ e => e)
 refine gk (pi pins s σ H _ I (hw H Z σ ts vs (fun J H1 => HD X CL b δ1 σ ts vs Z H ds J H1) S fun J H1 C => C)) fun v s1 h1 => gk h1 fun itv s2 zz => ?_
 obtain ⟨it, fp, tn, J, H1, e, I1, Tn, st, hf, C⟩ := zz
 subst e
 refine Gh (RR := fun acc C => compPost Q.o X.A X.xe (some (assign (.Name y py) X.env)) (fun _ s' => SP X pins E .next s') acc C) sc hc C I1 Tn st hf hb inner hlen fun D' C' s' H' Z' m io nC ch ci z' k' S' => ?_
 obtain ⟨m, hn⟩ := m
 obtain ⟨o, ho, FY⟩ := io
 have I' : L2.Inv X pins σ H' s' := ci s'.heap (.refl ..)
 have I2 : L2.Inv X (pins ++ [(C', o)]) σ H' s' := I'.Bw fun q hq => by
   rcases arV.mp hq with z | z
   . exact I'.pin q (arQ _ z)
   . have e : q = (C', o) := by simpa using z
     subst e
     exact ⟨ho, nC, ch.1, ch.2.1, FY⟩
 show wpAny _ X.A (assign (.Name y py) X.env (.ref D')) _ _ s'
 have hg : PG X (.Name y py) (AF i) := xX hN hi hx hf'
 refine gk (hg _ s' σ H' (.ref D') (.ref D') (fun σ8 H8 => σ8 = σ.set i (some (.ref D')) /\ H8 = H') I2 rfl ⟨rfl, rfl⟩) fun _ s8 zz => ?_
 obtain ⟨σ8, H8, I8, e8, e8'⟩ := zz
 subst e8
 subst e8'
 obtain ⟨hC8, nC8, _⟩ := I8.pin (C', o) (arQ _ (arQ _ Q.p))
 refine ⟨m, hn.at' fun o' e' => by rw [ho] at e'; cases e'; exact hC8, fun h' hs' => ?_⟩
 have I9 : L2.Inv X pins (σ.set i (some (.ref D'))) _ s8 := I8.Bw fun q hq => I8.pin q (arQ _ (arW _ hq))
 have I10 := I9.turned (it := C') (h' := h') (t' := s8.toks) (fun b o hb e => (hs'.2 b hb).trans e) nC8 ch.1.symm.symm (.inr ch.2.2.1) ch.2.2.2.1 ch.2.2.2.2
 exact ⟨_, _, I10, M.nx _ _ _ Z' z' (S'.set hl) k⟩
variable {pos' : Pos}
theorem agh {D : i7} (gx : Gx X) (n : Ln X i x) (sc : qY X scope xs Nc ix) (h : GIt X CL b tg iter δ ds δ1)
   (hb : Q.bF) (inner : Q.bO) (hlen : Q.aT) (k : ic X CL b kX (δ1.set i (some (.lst ((ds.filter p).map g)))) D) (hl : i < δ1.length)
   (Hy : swapsWith (.ListComp elt [⟨tg, iter, ifs, 0⟩] scope pc) (some (.Name x pos')) pos.line X.env = pure true \/ swapsWith (.ListComp elt [⟨tg, iter, ifs, 0⟩] scope pc) (some (.Name x pos')) pos.line X.env = pure false) (hs : Q.bi := by intro _; rfl) :
   ic X CL b (.Assign [.Name x pos'] (.ListComp elt [⟨tg, iter, ifs, 0⟩] scope pc) pos :: kX) δ D := by
 rcases Hy with Hy | Hy
 . exact fh (abk i sc gx.calm h hb inner hlen k hl gx.nd n.hi n.loc n.hf Hy hs)
 . exact fh (V7 i (C9 sc gx.calm h hb inner hlen hs) k hl gx.nd n.hi n.loc Hy n.hf)
def gOk (scope : Scope) (xs tG : Q.h) : Bool :=
 scope.kind == .function && xs.all (fun y => scope.names.lookup y == some .local) && tG.all (fun y => scope.names.lookup y == some .free) && decide ((xs ++ tG).Nodup) &&
   scope.names.all fun y => y.2 != .cell && (y.2 != .local || scope.names.lookup y.1 == some .local) && (y.2 != .free || (tG.contains y.1 && scope.names.lookup y.1 == some .free))
theorem abl {tG : Q.h} (c : Wc X ix tG) (ok : gOk scope xs tG = true) : qY X scope xs (xs ++ tG) ix := by
 unfold gOk at ok
 simp only [asa, atd, asI, auh] at ok
 obtain ⟨⟨⟨⟨h1, h2⟩, h3⟩, h4⟩, h5⟩ := ok
 have kc : ∀ y ∈ tG, X.env.kindOf y = some .cell \/ X.env.kindOf y = some .free := by
   clear h3 h4 h5
   induction c with
   | nil => intro y hy; cases hy
   | cons n k r ih =>
     intro y hy
     rcases arP.mp hy with e | hy
     . subst e; exact k
     . exact ih y hy
 refine ⟨h1, fun y hy e => ?_, h4, fun y hy e => ?_, h2, fun y hy e => ?_, ?_, fun i hi => ?_⟩
 . have := (h5 y hy).1.1
   rw [e] at this
   simp at this
 . have := (h5 y hy).1.2
   rw [e] at this
   simpa using this
 . have := (h5 y hy).2
   rw [e] at this
   simp at this
   exact ⟨this.2, kc _ this.1⟩
 . congr 1
   clear h3 h4 h5 kc
   induction c with
   | nil => rfl
   | cons n k r ih => rw [asW, n.hi, ← ih]
 . clear h4 h5 kc
   induction c with
   | nil => cases hi
   | @cons i' y ix ys n k r ih =>
     rcases arP.mp hi with e | hi
     . subst e; exact ⟨y, n.hi, h3 y arK⟩
     . exact ih (fun z hz => h3 z (arO _ hz)) hi
variable {C : Addr}
theorem Ox (h1 : Nc[i]? = some x) (h2 : scope.names.lookup x = some .local) (hd : Q.B := by decide) (qS : Q.aH := by decide) : Ln (fB X scope Nc C s H fp) i x :=
 ⟨dF h1 h2 hd qS, .inl (lookup_relabel_local h2), .inr (lookup_relabel_local h2)⟩
def Ite (K : Q.n) (a : Addr) : It :=
 ⟨fun i H => ∃ xs x, qT K H a xs /\ xs[i]? = some x, fun i H x H' => ∃ T y, H T = none /\ x = .ref T /\ (∀ xs, qT K H a xs -> xs[i]? = some y) /\ H' = upd H T (.tup [.int i, y]), fun i H => ∃ xs, qT K H a xs /\ xs.length <= i⟩
variable {elts : List Expr} {kk : Nat} {pt : Pos}
theorem TL (a e it : Addr) (qm : e ≠ it) : Turn P w K (.Tuple elts kk pt) (Ite K a) [e, it] e (fun i h => (∃ old, PySem.IsEnum h e it i old) /\ h.IsListIter it a i) where
 mem := by simp
 obj := fun i h st b hb => by
   obtain ⟨⟨old, he⟩, hit⟩ := st
   rcases arP.mp hb with z | z
   . subst z
     exact ⟨_, he, fun v z => by
       have z' : Data.fields _ = Data.cell v := z
       cases z'⟩
   . have z : b = it := by simpa using z
     subst z
     obtain ⟨o, e, c, d⟩ := hit
     exact ⟨o, e, fun v z => by rw [d] at z; cases z⟩
 keep := fun i h h' st k => by
   obtain ⟨⟨old, he⟩, hit⟩ := st
   exact ⟨⟨old, k e Q.p _ he⟩, hit.at fun o q => k it Q.p o q⟩
 item := by
   intro X hP hw hK hc i pins s σ H E I hf st hg
   subst hP hw hK
   obtain ⟨xs, x, hq, hx⟩ := hg
   obtain ⟨its, rv, p, hz⟩ := I.list hq
   obtain ⟨u, hu, ru⟩ := rv.get hx
   obtain ⟨⟨old, he⟩, hit⟩ := st
   have fe := hf e Q.p
   have fi := hf it Q.p
   have hT0 : H s.heap.objs.size = none := I.gX.fresh (ar5 _)
   have fT := I.Hg (ar5 s.heap.objs.size) hT0
   refine PySem.wpAny_pyNext_enum_item he hit p.isList (x := u) (by simpa using hu) qm fun h' ho amY hT Vc hk => ⟨_, rfl, ?_⟩
   refine PySem.wpAny_letOwnedTupleGo_enum ho fun h2 he2 KH => ?_
   replace KH : Heap.SameBut e h' h2 := KH
   have eT : e < s.heap.objs.size := ar9 he
   have keep : ∀ b o, b ≠ e -> b ≠ it -> s.heap.get? b = some o -> h2.get? b = some o := fun b o h1 h3 q => (KH.2 b h1).trans (hk b o h1 h3 q)
   have hT2 : h2.get? s.heap.objs.size = some { cls := .type "tuple", data := .seq #[.int i s.toks, u] } := (KH.2 _ (Nat.ne_of_gt eT)).trans hT
   have nH : ∀ b o, H b = some o -> b ≠ e /\ b ≠ it /\ b ≠ s.heap.objs.size := fun b o q => ⟨fun z => (by rw [z, fe.1] at q; cases q), fun z => (by rw [z, fi.1] at q; cases q), fun z => (by rw [z, hT0] at q; cases q)⟩
   have I' : L2.Inv X pins σ (upd H s.heap.objs.size (.tup [.int i, x])) { s with heap := h2, toks := s.toks + 1 } := by
     refine I.step (g' := s.gens) (d' := s.drawn) (ch := [e, it, s.heap.objs.size]) (fun b hb => ?_) (fun b o _ _ hc q _ => ?_) (fun b o _ _ hc q _ => ⟨o.slots, ?_⟩) (fun b o hc q n => ?_) (fun b o hc q => ⟨o, ?_⟩) (fun b ys q => ?_) (fun b o u q => ?_) (fun b ps q => ⟨#[], ?_⟩) (fun m hm => ?_) (fun b o q => ?_) I.bare
     . rcases arP.mp hb with z | hb
       . subst z; exact ⟨fe.2.2.2.1, fe.2.1, fe.2.2.2.2.1, fe.2.2.2.2.2⟩
       . rcases arP.mp hb with z | hb
         . subst z; exact ⟨fi.2.2.2.1, fi.2.1, fi.2.2.2.2.1, fi.2.2.2.2.2⟩
         . have z : b = s.heap.objs.size := by simpa using hb
           subst z; exact ⟨fT.2.2.2.1, fT.2.1, fT.2.2.2.2.1, fT.2.2.2.2.2⟩
     . exact keep b o Q.aJ Q.aJ q
     . exact keep b o Q.aJ Q.aJ q
     . rw [aL Q.aJ]; exact n
     . exact keep b o Q.aJ Q.aJ q
     . rw [aL (nH b _ q).2.2]; exact q
     . rw [aL (nH b _ q).2.2]; exact q
     . rw [aL (nH b _ q).2.2, q]; simp
     . obtain ⟨o, es, ep, ho, r⟩ := hm
       exact ⟨o, es, ep, keep _ o (att fe.2.1) (att fi.2.1) ho, r⟩
     . by_cases hb : b = s.heap.objs.size
       . subst hb
         rw [b9] at q
         cases q
         exact ⟨asu (bS (arN rfl)), [.int i s.toks, u], .cons ⟨s.toks, rfl⟩ (.cons ru .nil), ⟨_, hT2, rfl, _, rfl⟩⟩
       . rw [aL hb] at q
         refine (I.gX b o q).G6 (fun c v hc z => keep c v ?_ ?_ z) (fun c z => by rw [aL (nH c _ z).2.2]; exact z) (fun c ys z => by rw [aL (nH c _ z).2.2]; exact z) fun c ys z => by rw [aL (nH c _ z).2.2]; exact z
         . rcases hc with z | z
           . rw [z]; exact (nH b _ q).1
           . exact (nH c _ z).1
         . rcases hc with z | z
           . rw [z]; exact (nH b _ q).2.1
           . exact (nH c _ z).2.1
   have ei : ((i + 1 : Nat) : Int) = (i : Int) + 1 := by omega
   refine ⟨.ref s.heap.objs.size, _, I', rfl, ⟨_, x, hT0, rfl, fun ys hy => by rw [I.CV hy hq]; exact hx, rfl⟩, ⟨⟨u, by rw [ei]; exact he2⟩, amY.at fun o q => (KH.2 it (att qm)).trans q⟩, fun b hb => ?_⟩
   have hb' := hf b hb
   obtain ⟨o, ho', _⟩ : ∃ o, s.heap.get? b = some o /\ True := by
     rcases arP.mp hb with z | z
     . subst z; exact ⟨_, he, trivial⟩
     . have z : b = it := by simpa using z
       subst z
       obtain ⟨o, q, _⟩ := hit
       exact ⟨o, q, trivial⟩
   rw [aL (asJ (ar9 ho'))]
   exact hb'.1
 done := by
   intro X hP hw hK hc i pins s σ H E I hf st hg
   subst hP hw hK
   obtain ⟨xs, hq, hx⟩ := hg
   obtain ⟨its, rv, p, hz⟩ := I.list hq
   obtain ⟨⟨old, he⟩, hit⟩ := st
   obtain ⟨f0, f1, f2, f3, f4, f5⟩ := hf it Q.p
   have hl := rv.length
   exact PySem.wpAny_pyNext_enum_end (I.ok.hd hc) he hit p.isList Q.z fun h' eb => ⟨rfl, I.turned (t' := s.toks) Q.bz f0 f1 f3 f4 f5⟩
 self := fun _ _ _ _ _ st h => by
   obtain ⟨⟨old, he⟩, _⟩ := st
   exact PySem.wpAny_pyIter_enum he h
def aj2 (K : Q.n) (ta : TA) : TI := fun σ H R => ta σ H fun vs H1 => ∃ a xs, vs = [.ref a] /\ qT K H1 a xs /\ R (Ite K a) H1
theorem abm {a : Expr} {p : Pos} (hg : Gl X "enumerate") (hm : X.mg "enumerate" = none) (ha : PA X [a] ta) (hs : Q.cd) : PI X (.Tuple elts kk pt) (.Call (.Name "enumerate" p) [a] [] pos) (aj2 X.K ta) := by
 intro pins s σ H R I h
 refine Call_ (nu I hg hm boot_enumerate (asP (gk Q.aK fun us s1 zz => ?_) hs rfl))
 obtain ⟨vs, H1, I1, r1, q1⟩ := zz
 obtain ⟨l, xs, e, hq, q⟩ := q1
 subst e
 cases r1 with
 | cons r rr =>
   cases rr
   cases r
   obtain ⟨its, rv, p, hz⟩ := I1.list hq
   refine PySem.call_enumerate_list p.isList fun h' he hit Vc hk => ?_
   have I2 : L2.Inv X pins σ H1 { s1 with heap := h' } := I1.kept (t' := s1.toks) fun b o e => hk b o e
   refine PySem.wpAny_pyIter_enum he ?_
   refine ⟨s1.heap.objs.size + 1, [s1.heap.objs.size + 1, s1.heap.objs.size], _, _, H1, rfl, I2, TL l _ _ (Nat.succ_ne_self _), ⟨⟨_, he⟩, hit⟩, fun b hb => ?_, q⟩
   rcases arP.mp hb with z | z
   . subst z
     exact I1.Hg (atG _) (I1.gX.fresh (atG _))
   . have z : b = s1.heap.objs.size := by simpa using z
     subst z
     exact I1.Hg (ar5 _) (I1.gX.fresh (ar5 _))
def Dc (ds : List D) : List D := (List.range ds.length).map fun (i : Nat) => .tup [.int i, ds.getD i .non]
theorem Ac (ds : List D) : (Dc ds).length = ds.length := by simp [Dc]
theorem TN {ds : List D} {d : D} (h : ds[i]? = some d) : (Dc ds)[i]? = some (.tup [.int i, d]) := by
 have hi : i < ds.length := (asp.mp h).1
 unfold Dc
 rw [asA, as8 hi]
 show some (D.tup [.int i, ds.getD i .non]) = _
 rw [arM, h]
 rfl
variable {ds : List D}
theorem abn (hm : X.mg "enumerate" = none) (h : cO X CL b e δ (.sh (.lst ds)) δ1) (hg : Gl X "enumerate") (hs : Q.R := by exact bK rfl) : GIt X CL b (.Tuple elts kk pt) (.Call (.Name "enumerate" pr) [e] [] pc) δ (Dc ds) δ1 := by
 refine ⟨_, abm hg hm Q.af hs, fun H Z σ ts vs R S k => h H Z σ ts vs _ S fun v H1 Z1 z1 k1 S1 => ?_⟩
 obtain ⟨fp, gp, _, r, _, _⟩ := S1.rep
 cases r with
 | cons r _ =>
   cases r with
   | sh r =>
     cases r with
     | @lst a us _ hq rr =>
       have hl := rr.length
       refine ⟨a, us, rfl, S1.zh.seq hq, k _ _ ⟨Z1, z1, k1, S1.pop, fun i H2 s hi => ?_, fun i Z2 H2 x H' s1 s2 tp hi hy => ?_, fun H2 s => ?_⟩⟩
       . rw [Ac] at hi
         have NR : i < us.length := by rw [← hl]; exact hi
         exact ⟨us, us[i], s.seq hq, arZ NR⟩
       . rw [Ac] at hi
         obtain ⟨T, y, hT, rfl, hx, rfl⟩ := hy
         obtain ⟨d, hd, rd⟩ := rr.aaS (hx us ((s1.trans s2).seq hq))
         have gr : Lb Z2 H2 _ _ := Lb.tup (xs := [.int i, y]) s2 tp hT
         exact ⟨_, _, TN hd, gr, .tup (xW.of b9) (.cons (.int _) (.cons ((rd.mono s1).mono gr.z) .nil))⟩
       . rw [Ac]
         exact ⟨us, s.seq hq, by rw [← hl]; exact ar5 _⟩
def insI (x : Int) : List Int -> List Int
 | [] => [x]
 | y :: l => if x <= y then x :: y :: l else y :: insI x l
def sortI : List Int -> List Int
 | [] => []
 | x :: l => insI x (sortI l)
theorem insI_perm (x : Int) : ∀ l, (insI x l).Perm (x :: l)
 | [] => .refl _
 | y :: l => by
   rw [insI]
   split
   . exact .refl _
   . exact ((insI_perm x l).cons y).trans (.swap x y l)
theorem sortI_perm : ∀ l, (sortI l).Perm l
 | [] => .refl _
 | x :: l => (insI_perm x (sortI l)).trans ((sortI_perm l).cons x)
theorem iP {x : Int} : x ∈ sortI l ↔ x ∈ l := (sortI_perm l).mem_iff
theorem jJ (l : Q.b) : (sortI l).length = l.length := (sortI_perm l).length_eq
theorem AX (x : Int) : ∀ {l : Q.b}, l.Pairwise (· <= ·) -> (insI x l).Pairwise (· <= ·)
 | [], _ => asS _ _
 | y :: l, h => by
   rw [insI]
   obtain ⟨h1, h2⟩ := asB.mp h
   split
   . rename_i e
     refine asB.mpr ⟨fun z hz => ?_, h⟩
     rcases arP.mp hz with rfl | hz
     . exact e
     . exact Int.le_trans e (h1 z hz)
   . rename_i e
     refine asB.mpr ⟨fun z hz => ?_, AX x h2⟩
     rcases arP.mp ((insI_perm x l).mem_iff.mp hz) with rfl | hz
     . omega
     . exact h1 z hz
theorem gA : ∀ l, (sortI l).Pairwise (· <= ·)
 | [] => .nil
 | x :: l => AX x (gA l)
theorem AY : ∀ {a b : Q.b}, a.Perm b -> a.Pairwise (· <= ·) -> b.Pairwise (· <= ·) -> a = b
 | [], b, p, _, _ => (List.nil_perm.mp p).symm
 | x :: a, [], p, _, _ => absurd p.length_eq Q.p
 | x :: a, y :: b, p, ha, hb => by
   obtain ⟨a1, a2⟩ := asB.mp ha
   obtain ⟨b1, b2⟩ := asB.mp hb
   have e : x = y := by
     have h1 : x ∈ y :: b := p.mem_iff.mp arK
     have h2 : y ∈ x :: a := p.mem_iff.mpr arK
     rcases arP.mp h1 with e | h1
     . exact e
     . rcases arP.mp h2 with e | h2
       . exact e.symm
       . exact Int.le_antisymm (a1 y h2) (b1 x h1)
   subst e
   rw [AY (List.Perm.cons_inv p) a2 b2]
theorem qv {z : Q.b} (p : z.Perm l) (s : z.Pairwise (· <= ·)) : z = sortI l := AY (p.trans (sortI_perm l).symm) s (gA l)
theorem yo (s : l.Pairwise (· <= ·)) : sortI l = l := (qv Q.m s).symm
theorem qZ : ∀ {us : Q.u} {ns : Q.b}, IntsAre us ns -> Vals (ns.map V.int) us
 | _, _, .nil => .nil
 | _, _, .cons n t r => .cons ⟨t, rfl⟩ (qZ r)
theorem HG : sX X (.builtin "sorted") (fun xs H Q => ∃ p ns, xs = [.ref p] /\ qT X.K H p (ns.map .int) /\ ns.length < 64 /\ ∀ l, H l = none -> Q (.ref l) (upd H l (.lst ((sortI ns).map .int)))) := by
 intro pins s σ H xs us Q I r h
 obtain ⟨p, ns, rfl, hq, hl, q⟩ := h
 obtain ⟨u, rfl, rx⟩ := vals1 r
 cases rx
 obtain ⟨its, r', pl, hz⟩ := I.list hq
 have hlen := r'.length
 rw [arL] at hlen
 refine sorted_ints pl.isList (intsAre_of r') Q.a fun out ns' a1 a2 a3 => ?_
 obtain ⟨e, he⟩ := sortedAll_at s.heap its out
 have e2 : ns' = sortI ns := qv a2 a3
 subst e2
 refine ⟨.ref Q.ae, _, I.laid (t' := s.toks) (fun _ _ => sortedAll_old) (atG _) (show kG X.prog X.w _ _ _ (.lst ((sortI ns).map .int)) from ⟨?_, out.toList, e, qZ a1, ?_⟩), rfl, q _ (I.gX.fresh (atG _))⟩
 . rw [arL, jJ]
   rw [arL] at hz
   exact hz
 . simpa using he
theorem yp : bootBuiltins "sorted" = some (.builtin "sorted") := Q.j
theorem Gi (h : aK K CL Z (l.map D.int) us) : us = l.map V.int := by
 refine aK.ind (P := fun ds us => ∀ l : List Int, ds = l.map D.int -> us = l.map V.int) ?_ ?_ h l rfl
 . intro l e
   cases l with
   | nil => rfl
   | cons => cases e
 . intro d v ds vs r _ i l e
   cases l with
   | nil => cases e
   | cons a l =>
     injection e with e1 e2
     subst e1
     rw [i l e2]
     cases r
     rfl
theorem ints_rep {K : Q.n} {Z : Hp} : ∀ (l : Q.b), aK K CL Z (l.map D.int) (l.map V.int)
 | [] => .nil
 | _ :: l => .cons (.int _) (ints_rep l)
theorem kH (hm : X.mg "sorted" = none) (h : eN X CL b e δ (.lst (l.map .int)) δ1) (hl : l.length < 64) (hg : Gl X "sorted") (hs : Q.R := by exact bK rfl) : cO X CL b (.Call (.Name "sorted" pp) [e] [] pos) δ (.lst (((sortI l).map D.int).map T.sh)) δ1 := fun H Z σ ts vs Q S k =>
 dX (qo HG hg hm yp Q.af (he := hs)) (h H Z σ ts vs _ S fun v H1 Z1 z1 k1 S1 r => by
   cases r with
   | @lst a us _ hq rr =>
     have := Gi rr
     subst this
     refine ⟨a, l, rfl, hq, hl, fun p hp => ?_⟩
     obtain ⟨c, S2⟩ := (cA.wG (ints_rep (sortI l)) S1).qW (g0 := []) Q.p hp
     exact k _ _ _ z1 (k1.trans c) S2)
theorem Oz : typeLookup (.type "list_reverseiterator") "__len__" = pure none := by rw [atP, atq]; kernel_rfl
theorem Wt : typeLookup (.type "list_reverseiterator") "__length_hint__" = pure (some (.builtin "list_reverseiterator.__length_hint__")) := by rw [atP, atq]; kernel_rfl
variable {A : Around}
theorem Wu {l : Addr} {i : Int} {Q : Bool -> Shared -> Prop} (hr : s.heap.IsRevIter it l i) (h : Q false s) : wpAny Q.N A (Builtin.List.listLengthHint (.ref it)) Q E s := by
 unfold Builtin.List.listLengthHint
 refine arX (at8 hr.typeIs Oz ?_)
 refine arX (at8 hr.typeIs Wt ?_)
 generalize hid : ("list_reverseiterator.__length_hint__" : String) = id0
 wp_delta
 rw [show splitId id0 = some ("list_reverseiterator", "__length_hint__") from by subst hid; decide +kernel]
 subst hid
 refine arX (wpAny_isInstance (T := "list_reverseiterator") (b := true) hr.typeIs (by rw [isSubtype_type]; kernel_rfl) ?_)
 refine wpAny_ite_split (fun hab => absurd hab Q.i) (fun _ => ?_)
 refine wpAny_ite_split (fun _ => ?_) (fun hab => absurd Q.d hab)
 refine wpAny_ite_split (fun hab => absurd hab Q.d) (fun _ => ?_)
 exact asE h
variable {items : Array Value}
theorem OB {l : Addr} (hh : A.handled = none) (hr : s.heap.IsRevIter it l ((items.size : Int) - 1)) (hl : s.heap.IsList l items) (qm : l ≠ it) (hlen : items.size <= sizeLine) (S : Addr) (res : Value) (c₀ : Nat)
   (hS : s.heap.get? S = some { cls := .type "list", data := .seq #[] c₀ }) (hSi : S ≠ it) (hSl : S ≠ l)
   (hR : ∀ h' tk sV c', (∀ b o, b ≠ S -> b ≠ it -> s.heap.get? b = some o -> h'.get? b = some o) -> h'.get? S = some { cls := .type "list", dict := none, data := .seq sV c', slots := #[] } →
     ItemsOf (fun i v => items[items.size - 1 - i]? = some v) sV items.size -> R (.ok (.ret res)) { s with heap := h', toks := tk }) :
   wpAny Q.N A.in1 (Builtin.List.listExtendWith (.ref S) (.ref it) res)
     (fun fin s' => match fin with | .done f => R (.ok f) s' | .again c' => c'.quiet = true /\ codeAny (model prog w) A c' R s') (fun e s' => R (.error e) s') s := by
 have W := (Walks.listRev (prog := prog) (w := w) (A := A.in1) hh it l qm items).toS
 have hSf : S ∉ [it, l] := fun h => by
   rcases arP.mp h with e | h
   . exact hSi e
   . exact hSl (asQ.mp h)
 have e0 : (items.size : Int) - 1 = (items.size : Int) - 1 - ((0 : Nat) : Int) := by omega
 have key : ∀ (h : Heap) (c₁ tk : Nat), (∀ b o, b ≠ S -> s.heap.get? b = some o -> h.get? b = some o) →
     h.get? S = some { cls := .type "list", data := .seq #[] c₁ } -> codeAny Q.N A (.builtin "list.extend.loop" ⟨[.ref S, .ref it, res], []⟩) R { s with heap := h, toks := tk } := by
   intro h c₁ tk hk hS₁
   have hit : h.IsRevIter it l ((items.size : Int) - 1 - ((0 : Nat) : Int)) := e0 ▸ hr.at fun o q => hk it o (att hSi) q
   have hl' : h.IsList l items := hl.at fun o q => hk l o (att hSl) q
   refine codeAny_extend_loopS W hlen S hSf res items.size 0 _ #[] c₁ rfl (asr _) ⟨asr _, hit, hl'⟩ hS₁ (ItemsOf.nil _) fun s' sV c' hm hS' HF => ?_
   rw [Moved.eq_with hm]
   refine hR s'.heap s'.toks sV c' (fun b o hb hbi e => hm.heap b o (fun Ab => ?_) (hk b o hb e)) hS' HF
   rcases arP.mp Ab with e' | Ab
   . exact hb e'
   . exact hbi (asQ.mp Ab)
 unfold Builtin.List.listExtendWith
 refine arX (wpAny_typeOf (T := "list_reverseiterator") hr.typeIs ?_)
 have h1 : Builtin.List.listSameRef (.ref S) (.ref it) = false := by simp [Builtin.List.listSameRef, hSi]
 have h2 : (Value.type "list_reverseiterator" == Value.type "list") = false := by decide
 have h3 : (Value.type "list_reverseiterator" == Value.type "tuple") = false := by decide
 simp only [h1, h2, h3, Bool.or_false, Bool.false_eq_true, if_false]
 refine arX (wpAny_pyIter_revIter hr ?_)
 refine arX (wpAny_holding (Wu hr ?_))
 refine wpAny_ite_split (fun _ => ?_) (fun _ => asE ⟨plainId_quiet F.plain_extend_loop _, key _ c₀ _ (fun b o _ e => e) hS⟩)
 refine arX (wpAny_rule ?_)
 refine arX ?_
 show wpAny _ _ (updateSeq S (·.push .none) >>= fun _ => updateSeq S (·.pop)) _ _ _
 refine arX (wpAny_updateSeq hS rfl ?_)
 have Rw := atp (Obj.mapSeq (·.push Value.none)) hS rfl
 refine wpAny_updateSeq (hz := by seq_fits) Rw rfl ?_
 have hS₃ := atp (Obj.mapSeq (·.pop)) Rw rfl
 refine asE ⟨plainId_quiet F.plain_extend_loop _, key _ _ _ (fun b o hb e => ?_) hS₃⟩
 exact (atk _ _ (att hb)).trans ((atk _ _ (att hb)).trans e)
theorem EL {l : Addr} (hh : A.handled = none) (hr : s.heap.IsRevIter it l ((items.size : Int) - 1)) (hl : s.heap.IsList l items) (qm : l ≠ it) (hlen : items.size <= sizeLine) (S : Addr)
   (hS : s.heap.get? S = some { cls := .type "list", data := .seq #[] }) (hSi : S ≠ it) (hSl : S ≠ l)
   (hR : ∀ h' tk sV c', (∀ b o, b ≠ S -> b ≠ it -> s.heap.get? b = some o -> h'.get? b = some o) -> h'.get? S = some { cls := .type "list", dict := none, data := .seq sV c', slots := #[] } →
     ItemsOf (fun i v => items[items.size - 1 - i]? = some v) sV items.size -> R (.ok (.ret .none)) { s with heap := h', toks := tk }) :
   wpAny Q.N A.in1 (Builtin.«list.__init__» ⟨[.ref S, .ref it], []⟩)
     (fun fin s' => match fin with | .done f => R (.ok f) s' | .again c' => c'.quiet = true /\ codeAny (model prog w) A c' R s') (fun e s' => R (.error e) s') s := by
 show wpAny _ _ (do let old ← Builtin.List.listItems (.ref S); Builtin.List.listUpdate (.ref S) (fun _ => #[]); letGo old.toList.reverse; Builtin.List.listExtendWith (.ref S) (.ref it) .none) _ _ s
 refine arX ?_
 unfold Builtin.List.listItems
 refine arX (wpAny_seqItems hS rfl (asE ?_))
 show wpAny _ _ (updateSeq S (fun _ => #[]) >>= fun _ => letGo (#[] : Array Value).toList.reverse >>= fun _ => Builtin.List.listExtendWith (.ref S) (.ref it) .none) _ _ s
 refine arX (wpAny_updateSeq hS rfl ?_)
 have Rw := atp (Obj.mapSeq (fun _ => (#[] : Array Value))) hS rfl
 have Gj : ∀ b o, b ≠ S -> s.heap.get? b = some o -> (s.heap.update S (Obj.mapSeq (fun _ => (#[] : Array Value)))).get? b = some o :=
   fun b o hb e => (atk _ _ (att hb)).trans e
 refine arX (wpAny_letGo ?_)
 refine OB hh (hr.at fun o q => Gj it o (att hSi) q) (hl.at fun o q => Gj l o (att hSl) q) qm hlen S .none _ Rw hSi hSl fun h' tk sV c' hk hS' HF => ?_
 exact hR h' tk sV c' (fun b o hb hbi e => hk b o hb hbi (Gj b o hb e)) hS' HF
theorem ER {Q : Q.I} {l : Addr} (hh : A.handled = none) (hr : s.heap.IsRevIter it l ((items.size : Int) - 1)) (hl : s.heap.IsList l items) (qm : l ≠ it) (hlen : items.size <= sizeLine)
   (hQ : ∀ h' tk sV c', (∀ b o, b ≠ it -> s.heap.get? b = some o -> h'.get? b = some o) →
     h'.get? s.heap.objs.size = some { cls := .type "list", dict := none, data := .seq sV c', slots := #[] } -> ItemsOf (fun i v => items[items.size - 1 - i]? = some v) sV items.size -> Q Q.bf { s with heap := h', toks := tk }) :
   wpAny Q.N A (call (.type "list") [.ref it]) Q E s := by
 refine callType_codes (Q₁ := fun obj s₁ => obj = .ref s.heap.objs.size /\ s₁ = { s with heap := s.heap.push { cls := .type "list", data := .seq #[] } }) F.called_list (F.typeCall_list_1 _) F.entry_list_init
   (code_list_new _ ⟨rfl, rfl⟩) fun obj s₁ h₁ => ?_
 obtain ⟨rfl, rfl⟩ := h₁
 have hS : (s.heap.push { cls := .type "list", data := .seq #[] }).get? s.heap.objs.size = some { cls := .type "list", data := .seq #[] } := asC _ rfl
 have hit : it < s.heap.objs.size := by obtain ⟨o, e, _⟩ := hr; exact ar9 e
 have wk : l < s.heap.objs.size := by obtain ⟨o, e, _⟩ := hl; exact ar9 e
 refine ⟨⟨_, hS, rfl⟩, F.args_list_init_2 _ _, EL (A := A.in1) hh (hr.at fun o q => ar4 _ q) (hl.at fun o q => ar4 _ q) qm hlen _ hS (Nat.ne_of_gt hit) (Nat.ne_of_gt wk) fun h' tk sV c' hk hS' HF => ?_⟩
 exact ⟨rfl, hQ h' tk sV c' (fun b o hb e => hk b o (asJ (ar9 e)) hb (ar4 _ e)) hS' HF⟩
theorem TQ {acc : Array Value} (h : ItemsOf (fun i v => items[items.size - 1 - i]? = some v) acc items.size) : acc.toList = items.toList.reverse := by
 obtain ⟨h1, h2⟩ := h
 apply aum
 intro j
 by_cases hj : j < items.size
 . rw [List.getElem?_reverse (by simpa using hj)]
   have e1 : acc[j]? = some acc[j] := Array.getElem?_eq_getElem Q.a
   have := h2 j _ e1
   rw [Array.getElem?_toList, e1, ← this]
   simp
 . rw [ata Q.z, ata Q.z]
theorem Vals.rev : ∀ {xs : List V} {us : Q.u}, Vals xs us -> Vals xs.reverse us.reverse
 | [], _, .nil => .nil
 | _ :: _, _, .cons r rr => by
   rw [asz, asz]
   exact Vals.append (Vals.rev rr) (.cons r .nil)
def tLR (K : Q.n) (ta : TA) : TE := fun σ H Q => ta σ H fun vs H1 => ∃ a xs, vs = [.ref a] /\ qT K H1 a xs /\ ∀ l, H1 l = none -> Q (.ref l) (upd H1 l (.lst xs.reverse))
theorem OD {x : Expr} {p q : Pos} (hc : X.calm = true) (hgl : Gl X "list") (Bo : X.mg "list" = none) (hgr : Gl X "reversed") (hmr : X.mg "reversed" = none) (ha : PA X [x] ta) (hs : starEach [x] X.env = (false, eval x X.env) :: starEach [] X.env)
   (KH : starEach [.Call (.Name "reversed" q) [x] [] pq] X.env = (false, eval (.Call (.Name "reversed" q) [x] [] pq) X.env) :: starEach [] X.env) : PE X (.Call (.Name "list" p) [.Call (.Name "reversed" q) [x] [] pq] [] pos) (tLR X.K ta) := by
 intro pins s σ H Q I h
 refine ato (nu I hgl Bo aT ?_ Q.i Q.i)
 refine asP ?_ KH rfl
 rw [KH]
 show wpAny _ _ (spliced ((false, eval (.Call (.Name "reversed" q) [x] [] pq) X.env) :: backTo pos (starEach [] X.env))) _ _ s
 refine Calls.spliced_cons ?_
 refine Call_ (nu I hgr hmr boot_reversed (asP (gk (ha pq pins s σ H _ I h) fun us s1 zz => ?_) hs rfl))
 obtain ⟨vs, H1, I1, r1, q1⟩ := zz
 obtain ⟨l, xs, e, hq, q⟩ := q1
 subst e
 cases r1 with
 | cons r rr =>
   cases rr
   cases r
   obtain ⟨its, rv, p, hz⟩ := I1.list hq
   have hll := rv.length
   refine PySem.call_reversed_list p.isList ?_
   refine Calls.spliced_nil ?_
   have hL : l < s1.heap.objs.size := by obtain ⟨o, e, _⟩ := p.isList; exact ar9 e
   have st : PySem.Heap.IsRevIter (s1.heap.push Q.bx) s1.heap.objs.size l ((its.toArray.size : Int) - 1) := ⟨_, asC _ rfl, rfl, rfl⟩
   refine ER (s := { s1 with heap := s1.heap.push Q.bx }) (I1.ok.hd hc) st (p.isList.at fun o q => ar4 _ q) (asJ hL) (by rw [ar7, ← hll]; exact hz) fun h' tk sV c' hk hS' HF => ?_
   have Vc : (s1.heap.push Q.bx).objs.size = s1.heap.objs.size + 1 := Heap.size_push ..
   have hS2 : h'.get? (s1.heap.objs.size + 1) = some { cls := .type "list", dict := none, data := .seq sV c', slots := #[] } := Vc ▸ hS'
   have ea : sV.toList = its.reverse := by simpa using TQ HF
   show EP X pins σ Q (.ref (s1.heap.push Q.bx).objs.size) _
   rw [Vc]
   refine ⟨.ref (s1.heap.objs.size + 1), _, I1.laid (t' := tk) (fun b u e => hk b u (asJ (ar9 e)) (ar4 _ e)) (atG _) (show kG X.prog X.w _ _ _ (.lst xs.reverse) from ⟨by rw [asR]; exact hz, its.reverse, c', Vals.rev rv, ?_⟩), rfl, q _ (I1.gX.fresh (atG _))⟩
   have e2 : sV = its.reverse.toArray := by rw [← ea]
   rw [← e2]
   exact hS2
variable {ds : List D}
theorem aK.rev {ds : Q.k} (r : aK K CL Z ds us) : aK K CL Z ds.reverse us.reverse := by
 have go : ∀ {ds : Q.k} {us : List V} {es : Q.k} {ws : List V}, aK K CL Z ds us -> aK K CL Z es ws -> aK K CL Z (ds.reverse ++ es) (us.reverse ++ ws) := by
   intro ds us es ws r
   induction ds generalizing us es ws with
   | nil => cases r; exact fun q => q
   | cons d ds ih =>
     cases r with
     | cons r1 r2 =>
       intro q
       rw [asz, asz, arR, arR]
       exact ih r2 (.cons r1 q)
 simpa using go r .nil
theorem Dd (g : Gx X) (Bo : X.mg "list" = none) (hmr : X.mg "reversed" = none) (h : Q.bm) (hi : D.bQ ds = true) (hgl : Gl X "list") (hgr : Gl X "reversed") (hs : Q.R := by exact bK rfl)
   (KH : starEach [.Call (.Name "reversed" pq) [e] [] pr] X.env = (false, eval (.Call (.Name "reversed" pq) [e] [] pr) X.env) :: starEach [] X.env := by exact bK rfl) : cO X CL b (.Call (.Name "list" pp) [.Call (.Name "reversed" pq) [e] [] pr] [] pos) δ (.lst (ds.reverse.map T.sh)) δ1 := fun H Z σ ts vs Q S k =>
 dX (OD g.calm hgl Bo hgr hmr Q.af hs KH) (h H Z σ ts vs _ S fun v H1 Z1 z1 k1 S1 r => by
   cases r with
   | lst hq rr =>
     refine ⟨_, _, rfl, hq, fun l hl => ?_⟩
     obtain ⟨c, S2⟩ := (cA.wG (aK.rev (aK.pM S1.tp hi rr)) S1).qW (g0 := []) (by simp [rr.length]) hl
     exact k _ _ _ z1 (k1.trans c) S2)
theorem iC {β : Type} {f : α -> β} {l : List α} {d : β} (h : (l.map f)[j]? = some d) : ∃ x, d = f x /\ l[j]? = some x /\ x ∈ l /\ j < l.length /\ l.drop j = x :: l.drop Q.l /\ l.take Q.l = l.take j ++ [x] := by
 rw [asA] at h
 cases hx : l[j]? with
 | none => rw [hx] at h; cases h
 | some x =>
   rw [hx] at h
   cases h
   have hj : j < l.length := (asp.mp hx).1
   have e : l[j] = x := (asp.mp hx).2
   exact ⟨x, rfl, rfl, asT hx, hj, by rw [at9 hj, e], by rw [atV, hx]; rfl⟩
theorem am4 (n : Nat) (l : Q.b) : z9 (n + 1) (.lst (l.map L3.D.int)) := .lst fun d hd => by
 obtain ⟨i, _, rfl⟩ := ase.mp hd
 exact .int _ _
def D.at1 : L3.D -> L3.D
 | .tup (a :: _) => a
 | d => d
def D.at2 : L3.D -> L3.D
 | .tup (_ :: a :: _) => a
 | d => d
theorem TR (f : α -> L3.D) (z : α) (l : List α) : Dc (l.map f) = (List.range l.length).map fun (i : Nat) => L3.D.tup [.int i, f (l.getD i z)] := by
 unfold Dc
 rw [arL]
 apply ate
 intro i hi
 have hi : i < l.length := atv.mp hi
 have : (l.map f).getD i .non = f (l.getD i z) := by
   rw [arM, arM, asA, arZ hi]
   rfl
 rw [this]
theorem Wv {f : α -> L3.D} {l : List α} (z : α) (hm : X.mg "enumerate" = none) (h : cO X CL b e δ (.sh (.lst (l.map f))) δ1) (hg : Gl X "enumerate") (hs : Q.R := by exact bK rfl) :
   GIt X CL b (.Tuple elts kk pt) (.Call (.Name "enumerate" pr) [e] [] pc) δ ((List.range l.length).map fun (i : Nat) => L3.D.tup [.int i, f (l.getD i z)]) δ1 := by
 have := abn (elts := elts) (kk := kk) (pt := pt) (pr := pr) (pc := pc) hm h hg hs
 rwa [TR f z l] at this
theorem AZ : ∀ (l r : Q.b), PyData.eqvAll (D.jH (l.map L3.D.int)) (D.jH (r.map L3.D.int)) = decide (l = r)
 | [], [] => by rw [aub, D.jH, PyData.eqvAll]; rfl
 | [], _ :: _ => by rw [aub, asl, D.jH, D.jH, PyData.eqvAll]; rfl
 | _ :: _, [] => by rw [aub, asl, D.jH, D.jH, PyData.eqvAll]; rfl
 | x :: l, y :: r => by
   rw [asl, asl, D.jH, D.jH, PyData.eqvAll, AZ l r, D.toPy, D.toPy, PyData.eqv]
   by_cases e : x = y
   . subst e
     simp
   . have : (x == y) = false := by simpa using e
     rw [this, Bool.false_and, asi (by simp [e])]
theorem Ww (l r : Q.b) : eqD (.lst (l.map .int)) (.lst (r.map .int)) = decide (l = r) := by
 unfold eqD
 rw [D.toPy, D.toPy, PyData.eqv, AZ]
variable {tl2 : List T}
theorem cA.extend (S : cA K CL b H Z δ σ (.lst tl2 :: ts) (v :: vs)) (hi : δ[i]? = some (some (.lst tl))) :
   ∃ a us a2 us2, σ[i]? = some (some (.ref a)) /\ H a = some (.lst us) /\ us.length = tl.length /\ v = .ref a2 /\ H a2 = some (.lst us2) /\ us2.length = tl2.length /\ cA K CL b (upd H a (.lst (us ++ us2))) Z (δ.set i (some (.lst (tl ++ tl2)))) σ ts vs := by
 obtain ⟨fp, gp, e, r, nd, k⟩ := S.rep
 obtain ⟨v0, f1, f2, f3, hv, uU, rt, put, _⟩ := e.get hi
 subst uU
 cases rt with
 | @lst a us _ g ha rs =>
   cases r with
   | @cons _ _ _ _ ft gr q1 q2 =>
     cases q1 with
     | @lst a2 us2 _ g2 ha2 rs2 =>
       have ne : ∀ c ∈ Q.aj ++ (g2 ++ gr), c ≠ a := fun c hc e => by
         subst e
         have hp : ((f1 ++ ((c :: g) ++ f3)) ++ ((a2 :: g2) ++ gr)).Perm (c :: (Q.aj ++ ((a2 :: g2) ++ gr))) := by
           rw [asb, ← asb]
           exact (atH.append_right _)
         refine (as2.mp (hp.nodup_iff.mp nd)).1 ?_
         rcases arV.mp hc with z | z
         . exact arW _ z
         . exact arQ _ (arO _ z)
       refine ⟨a, us, a2, us2, hv, ha, rs.length.symm, rfl, ha2, rs2.length.symm, ?_⟩
       have r1 : eL K CL (upd H a (.lst (us ++ us2))) Z (.lst (tl ++ tl2)) (.ref a) (a :: (g ++ g2)) :=
         .lst b9 (bu.app (rs.mono Q.m fun c hc => aL Q.au) (rs2.mono Q.m fun c hc => aL Q.au))
       have e2 := put (H' := upd H a (.lst (us ++ us2))) Q.m (fun c hc => aL (ne c (by
         rcases arV.mp hc with h | h
         . simp [h]
         . simp [h]))) r1
       rw [je hv] at e2
       have hp : ((f1 ++ ((a :: (g ++ g2)) ++ f3)) ++ gr).Perm ((f1 ++ ((a :: g) ++ f3)) ++ (g2 ++ gr)) := by
         simp only [asb, arR]
         refine asx f1 (List.Perm.cons a (asx g ?_))
         rw [← arR, ← arR]
         exact aso.append_right gr
       have sb : ((f1 ++ ((a :: g) ++ f3)) ++ (g2 ++ gr)).Sublist ((f1 ++ ((a :: g) ++ f3)) ++ ((a2 :: g2) ++ gr)) :=
         asv (asy _) (by rw [asb]; exact List.sublist_cons_self _ _)
       exact S.write nd k (arK) ⟨_, ha⟩ e2 (q2.mono Q.m fun c hc => aL Q.au) (hp.nodup_iff.mpr (nd.sublist sb)) fun c hc => sb.subset (hp.mem_iff.mp hc)
section
variable {D : i7}
theorem Gk (n : Vn X i x) (h0 : δ[i]? = some (some (.lst tl0))) (h : cO X CL b e δ (.lst tl2) δ1) (h1 : δ1[i]? = some (some (.lst tl))) (hl : tl.length + tl2.length <= 1000000) (k : ic X CL b kX (δ1.set i (some (.lst (tl ++ tl2)))) D)
   (qq : Q.cg := by rfl)
   (CZ : Q.bE := by rfl)
   (hline : (pa.endLine == pb.line) = true := by rfl) (hs : Q.R := by exact bK rfl)
   (Hy : swapsWith Q.bB none pos.line X.env = pure false := by rfl) :
   ic X CL b (.Expr Q.bB pos :: kX) δ D := fh fun H Z σ ts vs E S M =>
 z8 (BD (Rl atL auc aud Tj (mq n.hi n.hv n.hd n.qS) Q.af qq CZ hline hs rfl) Hy) (by
   obtain ⟨v0, e0, r0⟩ := S.look h0
   refine ⟨v0, e0, ?_, ?_⟩
   . rw [T.dJ] at r0
     cases r0 with
     | lst hq _ => exact .inl ⟨rfl, _, hq⟩
   . refine h H Z σ ts vs _ S fun v H1 Z1 z1 k1 S1 => ?_
     obtain ⟨a, us, a2, us2, ea, ha, hu, rfl, ha2, hu2, S2⟩ := S1.extend h1
     rw [e0] at ea
     cases ea
     exact ⟨a, a2, us, us2, rfl, rfl, ha, ha2, by rw [hu, hu2]; exact asu (ath hl (by rw [as5]; decide)), M.nx _ σ _ Z1 z1 S2 k⟩)
end
variable {ds : Q.k}
def aj8 (K : Q.n) : R2 := fun x y H Q => ∃ l k xs, x = .ref l /\ y = .int k /\ qT K H l xs /\ -(2 ^ 63) <= k /\ k < 2 ^ 63 /\ xs.length * k.toNat <= sizeLine ∧
 ∀ p, H p = none -> Q (.ref p) (upd H p (.lst (List.replicate k.toNat xs).flatten))
theorem abq : Bk X (binaryOp .Mult) (aj8 X.K) := by
 intro pins s σ H x y v u Q I rx ry h
 obtain ⟨l, k, xs, rfl, rfl, hH, h1, h2, hz, q⟩ := h
 cases rx
 obtain ⟨t, rfl⟩ := ry
 obtain ⟨its, r, pl, _⟩ := I.list hH
 have hl := r.length
 obtain ⟨⟨c1, dd, da1, sl⟩, e, hc, n, hd⟩ := pl.isList
 cases hc; cases hd
 have hlen : its.toArray.size * k.toNat <= sizeLine := by rw [ar7, ← hl]; exact hz
 have am5 : ¬ its.toArray.size * k.toNat > (2 ^ 63 - 1) / 8 := by
   have : (sizeLine : Nat) <= (2 ^ 63 - 1) / 8 := by decide
   omega
 have Wx : ¬ (!Builtin.List.listFitsIndex k) = true := by
   rw [fitsIndex_both h1 h2]
   exact ar6
 have C1 : ¬ Builtin.List.listTooLong (its.toArray.size * k.toNat) = true := by
   rw [yb hlen]
   exact ar6
 have abr : List.foldl (fun x1 x2 => x1 ++ x2) #[] (List.replicate (if its.toArray.isEmpty = true then 0 else k.toNat) its.toArray) = (List.replicate k.toNat its).flatten.toArray := by
   have f0 : ∀ m : Nat, List.foldl (fun x1 x2 => x1 ++ x2) #[] (List.replicate m its.toArray) = (List.replicate m its).flatten.toArray := fun m => by
     have := foldl_rep its m []
     rw [at6] at this
     exact this
   rw [f0]
   cases its with
   | nil => simp
   | cons a r' => rw [arS Q.p]
 refine wpAny_binaryOp_repeat_ref (T := "list") (U := "int") Q.i ⟨_, e, rfl⟩ (fun s' => typeIs_int s' k t) noFill_list_mul F.fills_int_mul F.slot_int_rmul repeat_list F.slot_int_index.lookup
   (call_meets F.slot_int_rmul (typeIs_int s k t) F.entry_int_rmul (F.args_int_rmul_2 _ _) (lm_int_rmul_list_any k t l its.toArray n dd sl)
     ⟨e, rfl, ⟨_, e, rfl⟩, call_meets F.slot_list_mul ⟨_, e, rfl⟩ F.entry_list_mul (F.args_list_mul_2 _ _) (lm_list_mul_any l its.toArray n dd sl k t Wx am5 C1) ⟨e, ?_⟩⟩)
 rw [abr]
 exact ⟨.ref _, _, I.ajF (t' := s.toks) (r.rep k.toNat) (by rw [len_rep, Nat.mul_comm]; exact hz), rfl, q _ I.fresh⟩
theorem aK.rep {K : Q.n} {Z : Hp} {ds : Q.k} {vs : List V} (r : aK K CL Z ds vs) : ∀ k : Nat, aK K CL Z (List.replicate k ds).flatten (List.replicate k vs).flatten
 | 0 => .nil
 | k + 1 => by
   rw [as7, as7, atu, atu]
   exact aK.app r (aK.rep r k)
theorem Rx {k : Int} (h1 : eN X CL b e1 δ (.lst ds) δ1) (h2 : Q.bA) (i1 : D.bQ ds = true) (k1 : -(2 ^ 63) <= k) (k2 : k < 2 ^ 63) (hz : ds.length * k.toNat <= sizeLine) :
   cO X CL b (.BinOp e1 .Mult e2 pos) δ (.lst ((List.replicate k.toNat ds).flatten.map T.sh)) δ2 := fun H Z σ ts vs Q S kk =>
 dX (Vx abq fG fG) (h1 H Z σ ts vs _ S fun v1 H1 Z1 z1 q1 S1 r1 => h2 H1 Z1 σ ts vs _ S1 fun v2 H2 Z2 z2 q2 S2 r2 => by
   have r1' := r1.mono q2
   cases r1' with
   | lst hq1 rr1 =>
     cases r2 with
     | int =>
       refine ⟨_, _, _, rfl, rfl, hq1, k1, k2, by rw [← rr1.length]; exact hz, fun p hp => ?_⟩
       have rc := aK.rep (aK.pM S2.tp i1 rr1) k.toNat
       obtain ⟨c, S4⟩ := (cA.wG rc S2).qW (g0 := []) (by rw [arL, rc.length]) hp
       exact kk _ _ _ Q.C (q1.trans (q2.trans c)) S4)
theorem aK.aev {K : Q.n} {Z : Hp} : ∀ l : List Str, aK K CL Z (l.map .str) (l.map V.str)
 | [] => .nil
 | x :: l => .cons (.str x) (aK.aev l)
def GT (X : Cx) (x : Str) (l : Q.h) : Prop := ∃ a, X.mg x = some (.ref a) /\ ∀ H : Hp, xW X.K H a (l.map V.str)
theorem De {l : Q.h} (hm : GT X x l) (hg : Gl X x) (hd : Q.B := by decide) : cO X CL b Q.S δ (.sh (.tup (l.map .str))) δ := fun H Z σ ts vs Q S kk => by
 obtain ⟨a, hm, hs⟩ := hm
 exact dX (Rb (v := .ref a) hg hm rfl hd) (kk _ H Z Q.m Q.m (S.push (.tup (hs Z) (aK.aev l))))
theorem aew {l : Q.h} {od : Option Addr} {its : Array Value} {sl : Array (Option Value)} (h1 : X.mg x = some (.ref a)) (h2 : X.K.lookup a = some ⟨.type "tuple", od, .seq its n, sl⟩) (h3 : its.size <= sizeLine) (h4 : Vals (l.map V.str) its.toList) : GT X x l :=
 ⟨a, h1, fun H => .inr ⟨_, its, n, h2, rfl, rfl, h3, h4⟩⟩
theorem c0 {A : Type} {arg : A -> List L3.D} {Pre : A -> Prop} {res : A -> T} (a : A) (F : Fc X CL x k n arg Pre res) (hg : Gl X x) (ha : arg a = []) (hp : Pre a) (hc : (res a).clean = true) (hn : (arg a).length = n := by rfl)
   (xZ : Q.B := by decide) : cO X CL b (.Call Q.U [] [] pos) δ (res a) δ := by
 obtain ⟨f, fd, ps, F1, m, kk, bb⟩ := F.ex
 intro H Z σ ts vs Q S k
 refine dX (VG F1 F.room hg m kk bb .nil F9 xZ) ?_
 refine ⟨H, a, .refl _, fun _ _ q _ => q, by rw [ha]; exact .nil, hn, hp, S.aaV, fun v H' W' fp hh ww wh nw tp rt nd own => ?_⟩
 obtain ⟨Z', z', S'⟩ := S.back hh S.zh ww wh nw tp rt nd own (.inr hc)
 exact k v H' Z' z' hh S'
variable {w : V} {f : Str} {Vh : List Q.A}
theorem fF.abt {ft : Q.t} (rt : eL K CL H Z t v ft) : ∀ {Ld : List Q.A} {gs : Q.aq} {fp : Q.t}, fF K CL H Z (Ld ++ (f, .sh (.val v)) :: Vh) gs fp -> ∃ Rr, fF K CL H Z (Ld ++ (f, t) :: Vh) gs Rr /\ Rr.Perm (fp ++ ft)
 | [], _, _, r => by
   cases r with
   | @cons _ _ v' _ _ f1 gp h r =>
     cases h with
     | sh h =>
       cases h
       exact ⟨ft ++ gp, .cons rt r, aso⟩
 | (y, u) :: Ld, _, _, r => by
   cases r with
   | @cons _ _ v' _ _ f1 gp h r =>
     obtain ⟨Rr, r', p⟩ := fF.abt rt (Ld := Ld) r
     refine ⟨f1 ++ Rr, .cons h r', ?_⟩
     rw [arR]
     exact p.append_left f1
theorem cA.abt {Ld : List Q.A} (S : cA K CL b H Z δ σ (.ins c (Ld ++ (f, .sh (.val v)) :: Vh) :: t :: ts) (w :: v :: vs)) : cA K CL b H Z δ σ (.ins c (Ld ++ (f, t) :: Vh) :: ts) (w :: vs) := by
 obtain ⟨fp, gp, e, r, nd, k⟩ := S.rep
 cases r with
 | @cons _ _ _ _ g1 g2 r1 r2 =>
   cases r2 with
   | @cons _ _ _ _ g3 g4 r3 r4 =>
     cases r1 with
     | @ins a dx _ gs _ fp1 ha rf =>
       obtain ⟨Rr, rf', p⟩ := fF.abt r3 rf
       have pm : (fp ++ ((a :: Rr) ++ g4)).Perm (fp ++ ((a :: fp1) ++ (g3 ++ g4))) := by
         refine asx fp ?_
         rw [← arR]
         refine List.Perm.append_right g4 ?_
         rw [asb]
         exact List.Perm.cons a p
       exact ⟨⟨fp, (a :: Rr) ++ g4, e, .cons (.ins ha rf') r4, pm.nodup_iff.mpr nd, fun c hc => k c (pm.mem_iff.mp hc)⟩, S.bh, S.zz, S.zh, S.new, S.tp, S.tab⟩
def PAv (X : Cx) (CL : Q.e) (b : Bx) (es : List Expr) (δ : Q.s) (dv : V -> List D) (t : T) (δ' : Q.s) : Prop :=
 ∀ (H Z : Hp) (σ : L2.St) (ts : List T) (vs : List V) (Q : List V -> Hp -> Prop), cA X.K CL b H Z δ σ ts vs →
   (∀ us H' Z' v, aO Z Z' -> aO H H' -> cA X.K CL b H' Z' δ' σ (t :: ts) (v :: vs) -> aK X.K CL H' (dv v) us -> Q us H') -> Tt X es σ H Q
theorem T.Df {f : Str} {v : V} {Vh : List Q.A} (h2 : T.cz Vh = true) : ∀ {Ld : List Q.A}, T.cz Ld = true -> T.cz (Ld ++ (f, .sh (.val v)) :: Vh) = true
 | [], _ => by rw [at6, T.cz, h2]; rfl
 | (x, t) :: Ld, h => by
   rw [T.cz, asa] at h
   rw [asb, T.cz, h.1, T.Df h2 h.2]; rfl
variable {ds : List D} {d : D} {dv : V -> List D}
theorem Wy (h : Q.ai) (r : V0 X CL b es δ1 ds δ2) (hs : notStar e = true := by rfl) : PAv X CL b Q.D δ (fun v => .val v :: ds) t δ2 := fun H Z σ ts vs Q S k =>
 Hr (cD fG Oh (bK hs)) (h H Z σ ts vs _ S fun v H1 Z1 z1 k1 S1 => r H1 Z1 σ _ _ _ S1 fun us H2 Z2 z2 k2 S2 r2 => k (v :: us) H2 Z2 v Q.C Q.K S2 (.cons (.val v) r2))
theorem Le (h : Q.aL) (r : PAv X CL b es δ1 dv t δ2) (hs : notStar e = true := by rfl) : PAv X CL b Q.D δ (fun v => d :: dv v) t δ2 := fun H Z σ ts vs Q S k =>
 Hr (cD fG Oh (bK hs)) (h H Z σ ts vs _ S fun v H1 Z1 z1 k1 S1 r1 => r H1 Z1 σ ts vs _ S1 fun us H2 Z2 v2 z2 k2 S2 r2 => k (v :: us) H2 Z2 v2 Q.C Q.K S2 (.cons (r1.mono k2) r2))
variable {A : Type} {arg : A -> List D} {Pre : A -> Prop}
theorem mkP {res : A -> List Q.A} (a : V -> A) {Ld : List Q.A} (F : Fm X CL x k n arg Pre res) (hg : Gl X x) (h : PAv X CL b Q.D δ dv t δ1) (ha : ∀ v, arg (a v) = dv v) (hp : ∀ v, Pre (a v)) (hr : ∀ v, res (a v) = Ld ++ (f, .sh (.val v)) :: Vh) (hc : T.cz Ld = true) (hc2 : T.cz Vh = true) (hn : ∀ v, (arg (a v)).length + 1 = n := by exact fun _ => rfl)
   (xZ : Q.B := by decide) (he : Q.Y := by exact bK rfl) (hpl : Q.as := by rfl) :
   cO X CL b Q.aX δ (.ins x (Ld ++ (f, t) :: Vh)) δ1 := fun H Z σ ts vs Q S kk => by
 obtain ⟨f', fd, ps, M, F1, hm, hb⟩ := F.ex
 exact dX (Rj M F1 F.room hg hm hb .nil F9 Oh xZ he hpl) (h H Z σ ts vs _ S fun us H1 Z1 v z1 k1 S1 r y dx hx hdx ne => by
   rw [asj]
   refine ⟨H1, H1, a v, y, dx, us, rfl, hx, hdx, ne, rfl, .refl _, fun _ _ q _ => q, by rw [ha]; exact r, hn v, hp v, S1.aaV, fun H' W' fp hh ww wh nw tp rt nd own => ⟨rfl, ?_⟩⟩
   obtain ⟨Z', z', S'⟩ := S1.back hh S1.zh ww wh nw tp rt nd own (.inr (by rw [T.clean, hr]; exact T.Df hc2 hc))
   rw [hr] at S'
   exact kk _ H' Z' (z1.trans z') (k1.trans hh) S'.abt)
namespace Rv
theorem Gm : Manifest.owners.lookup (String.ofList ['d', 'e', 's', 'r', 'e', 'v', 'e', 'r'].reverse) = some Manifest.sig_reversed := by kernel_rfl
theorem TV : PySem.Slot "reversed" "__init__" "object.__init__" :=
 .of (owner := "object") (n := "__init__") (by rw [atP, atq]; kernel_rfl) Q.d Q.d Q.d
   (by first | exact .inl Q.d | exact .inr Q.d) (by rw [isSubtype_type]; kernel_rfl)
theorem called : TypeCalled "reversed" "reversed.__new__" "object.__init__" :=
 ⟨by decide +kernel, by decide +kernel, ⟨_, _, PySem.F.mro_reversed⟩, PySem.F.made_reversed, by decide +kernel, PySem.F.sub_reversed_self, TV⟩
theorem slot_next : PySem.Slot "reversed" "__next__" "reversed.__next__" :=
 .of (owner := "reversed") (n := "__next__") (by rw [atP, atq]; kernel_rfl) Q.d Q.d Q.d
   (by first | exact .inl Q.d | exact .inr Q.d) (by rw [isSubtype_type]; kernel_rfl)
theorem entry_next : entryFor table "reversed.__next__" = some Builtin.«reversed.__next__» := entryFor_of_tree (by kernel_rfl)
theorem args_next (a : Value) : argsOk "reversed.__next__" ⟨[a], []⟩ := by
 unfold argsOk; rw [signature?_of (id := "reversed.__next__") (n := ['_', '_', 't', 'x', 'e', 'n', '_', '_']) (o := ['d', 'e', 's', 'r', 'e', 'v', 'e', 'r']) (by kernel_rfl) Gm]; kernel_rfl
theorem Gn : PySem.Slot "reversed" "__iter__" "reversed.__iter__" :=
 .of (owner := "reversed") (n := "__iter__") (by rw [atP, atq]; kernel_rfl) Q.d Q.d Q.d
   (by first | exact .inl Q.d | exact .inr Q.d) (by rw [isSubtype_type]; kernel_rfl)
theorem TX (a : Value) : argsOk "reversed.__iter__" ⟨[a], []⟩ := by
 unfold argsOk; rw [signature?_of (id := "reversed.__iter__") (n := ['_', '_', 'r', 'e', 't', 'i', '_', '_']) (o := ['d', 'e', 's', 'r', 'e', 'v', 'e', 'r']) (by kernel_rfl) Gm]; kernel_rfl
theorem OG : entryFor table "reversed.__iter__" = some Builtin.«dict_keyiterator.__iter__» :=
 entryFor_alias (id' := "dict_keyiterator.__iter__") (by kernel_rfl) (by first | rfl | decide +kernel | (unfold String.splitOn; simp +decide [String.splitOnAux])) Q.d (by kernel_rfl)
theorem Lf : typeLookup (.type "tuple") "__reversed__" = pure none := by rw [atP, atq]; kernel_rfl
def obj (t : Addr) (i : Int) : Obj := { cls := .type "reversed", data := .fields #[.ref t, rawInt i] }
def Is (h : Heap) (a t : Addr) (i : Int) : Prop := ∃ o, h.get? a = some o /\ o.cls = .type "reversed" /\ o.data = .fields #[.ref t, rawInt i]
theorem Is.typeIs {t : Addr} {i : Int} (x : Is s.heap a t i) : s.TypeIs (.ref a) "reversed" := let ⟨o, ho, hc, _⟩ := x; ⟨o, ho, hc⟩
theorem Is.at {h h' : Heap} {t : Addr} {i : Int} (x : Is h a t i) (e : ∀ o, h.get? a = some o -> h'.get? a = some o) : Is h' a t i := let ⟨o, ho, r⟩ := x; ⟨o, e _ ho, r⟩
end Rv
namespace Rv
variable {w : World} {A : Around}
theorem Wz {t : Addr} {Q₁ : Q.I} (ht : IsTup s.heap t items) (Wx : (items.size : Int) < 2 ^ 63)
   (h : ∀ tk, Q₁ (.ref s.heap.objs.size) { s with heap := s.heap.push (obj t ((items.size : Int) - 1)), toks := tk }) :
   codeAny Q.N A (.call (.builtin "reversed.__new__") ⟨[.type "reversed", .ref t], []⟩) (wants Q₁ E) s := by
 refine codeAny_of_tree ?_
 show wpAny _ A.in1 (do checkBuiltinCall "reversed.__new__" ⟨[.type "reversed", .ref t], []⟩; again (.builtin "reversed.__new__" ⟨[.type "reversed", .ref t], []⟩)) _ _ s
 refine arX (atR (PySem.F.newCall_reversed_1 _) (asE ⟨plainId_quiet PySem.F.plain_reversed_new _, codeAny_builtin PySem.F.entry_reversed_new ?_⟩))
 rw [Around.under_plainId PySem.F.plain_reversed_new _]
 unfold Builtin.«reversed.__new__»
 refine arX (atR (newClass_reversed _) ?_)
 try dsimp only
 refine arX (atR (a := ()) (by first | rfl | kernel_rfl) ?_)
 refine arX (atR (a := ()) (by first | rfl | kernel_rfl) ?_)
 try dsimp only
 refine arX (at8 ht.typeIs Lf ?_)
 try dsimp only
 refine arX ?_
 refine arX (wpAny_isInstance (T := "tuple") (b := false) ht.typeIs PySem.F.sub_tuple_dict ?_)
 rw [arS ar6]
 refine arX (at8 ht.typeIs PySem.F.slot_tuple_getitem.lookup ?_)
 try dsimp only
 rw [arU Q.d]
 refine asE ?_
 rw [arS Q.i]
 refine arX (len_tuple ht Wx ?_)
 refine arX (atR (a := some (items.size : Int)) rfl ?_)
 try dsimp only
 refine arX (show wpAny _ _ (newObj (.type "reversed") (.fields #[.ref t, rawInt ((items.size : Int) - 1)])) _ _ _ from aun ?_)
 exact asE (h _)
theorem WB {t : Addr} {Q : Q.I} (ht : IsTup s.heap t items) (Wx : (items.size : Int) < 2 ^ 63)
   (h : ∀ tk, Q Q.bf { s with heap := s.heap.push (obj t ((items.size : Int) - 1)), toks := tk }) : wpAny Q.N A (call (.type "reversed") [.ref t]) Q E s := by
 refine callType_codes (Q₁ := fun ob s₁ => s₁.TypeIs ob "reversed" /\ Q ob s₁) called (PySem.F.typeCall_reversed_1 _) PySem.F.entry_object_init
   (Wz ht Wx fun tk => ⟨⟨_, asC _ rfl, rfl⟩, h tk⟩) fun ob s₁ h₁ => ?_
 exact ⟨h₁.1, PySem.F.args_object_init_2 ob _, object_init_meets called.init.lookup called.made Q.i prog w A.in1 _ s₁ ⟨h₁.1, rfl, h₁.2⟩⟩
theorem next_item {t : Addr} {x : Value} {Q : Option Value -> Shared -> Prop} (hit : Is s.heap it t (i : Int)) (ht : IsTup s.heap t items) (qm : t ≠ it) (hx : items[i]? = some x) (Vc : (items.size : Int) < 2 ^ 63)
   (hQ : ∀ h' tk, Is h' it t ((i : Int) - 1) -> Heap.SameBut it s.heap h' -> Q (some x) { s with heap := h', toks := tk }) : wpAny Q.N A (pyNext (.ref it)) Q E s := by
 obtain ⟨o, ho, hc, hd⟩ := id hit
 have hi : i < items.size := (Array.getElem?_eq_some_iff.mp hx).1
 unfold pyNext
 refine arX (wpAny_attempt (wpAny_callSpecial?_slot (name := Str.ofString "__next__") hit.typeIs slot_next
   (wpAny_call_entry slot_next hit.typeIs entry_next ?_ (args_next _))))
 unfold Builtin.«reversed.__next__»
 refine arX (atR (a := (Value.ref it, [])) rfl ?_)
 try dsimp only
 refine arX (wpAny_field ho hd (x := .ref t) rfl ?_)
 refine arX (wpAny_field ho hd (x := rawInt (i : Int)) rfl ?_)
 show wpAny _ _ (if (i : Int) < 0 then _ else _) _ _ s
 rw [arS Q.a]
 refine arX (at8 ht.typeIs PySem.F.slot_tuple_getitem.lookup ?_)
 rw [arS Q.i]
 refine arX (wpAny_mkInt ?_)
 refine arX (wpAny_attempt (getItem_tuple (s := { s with toks := s.toks + 1 }) ht Q.a Q.a (j := i) (by simp [seqIndex?]; omega) hx ?_))
 try dsimp only
 refine arX (wpAny_field (s := { s with toks := s.toks + 1 }) ho hd (x := rawInt (i : Int)) rfl ?_)
 show wpAny _ _ (setField (.ref it) 1 (rawInt ((i : Int) - 1)) >>= _) _ _ _
 refine arX (wpAny_setField (s := { s with toks := s.toks + 1 }) ho hd Q.p ?_)
 refine asE ⟨x, rfl, asE (hQ _ _ ?_ (Heap.SameBut.update ..))⟩
 exact ⟨_, atp _ ho (Obj.isFreed_of_fields (aue hd _)), (Obj.cls_mapFields ..).trans hc, by
   rw [aue hd]; simp⟩
theorem next_end {t : Addr} {Q : Option Value -> Shared -> Prop} (hh : A.handled = none) (hit : Is s.heap it t (-1))
   (hQ : ∀ h', Heap.ExtBut it s.heap h' -> Q none { s with heap := h' }) : wpAny Q.N A (pyNext (.ref it)) Q E s := by
 obtain ⟨o, ho, hc, hd⟩ := id hit
 unfold pyNext
 refine arX (wpAny_attempt (wpAny_callSpecial?_slot (name := Str.ofString "__next__") hit.typeIs slot_next
   (wpAny_call_entry slot_next hit.typeIs entry_next ?_ (args_next _))))
 unfold Builtin.«reversed.__next__»
 refine arX (atR (a := (Value.ref it, [])) rfl ?_)
 try dsimp only
 refine arX (wpAny_field ho hd (x := .ref t) rfl ?_)
 refine arX (wpAny_field ho hd (x := rawInt (-1)) rfl ?_)
 show wpAny _ _ (if (-1 : Int) < 0 then _ else _) _ _ s
 rw [arU Q.i]
 refine arX (wpAny_rule ?_)
 refine arX ?_
 refine arX (wpAny_setField ho hd Q.p ?_)
 have ho2 := atp (Obj.mapFields fun x => x.setIfInBounds 1 (rawInt (-1))) ho (Obj.isFreed_of_fields (aue hd _))
 have e1 : Heap.ExtBut it s.heap (s.heap.update it (Obj.mapFields fun x => x.setIfInBounds 1 (rawInt (-1)))) := (Heap.SameBut.update ..).extBut
 refine wpAny_setField ho2 (aue hd _) Q.p ?_
 refine arX ?_
 show wpAny _ _ (newExc (.type "StopIteration") [] >>= _) _ _ _
 refine arX ?_
 simp only [newExc, newTuple]
 refine arX (aun ?_ (by size_fits))
 refine arX (m := firstArgMember _ _) (atR (a := Value.none) (by first | rfl | (simp only [firstArgMember]; rfl)) ?_)
 refine aun ?_ (by size_fits)
 simp only [raiseNew]
 refine arX (wpAny_handled ?_)
 first | rw [show A.in1.handled = none from hh] | rw [hh]
 refine arX (asE (wpAny_throw ?_))
 refine arX (wpAny_isInstance (T := "StopIteration") (b := true) ⟨_, asC _ rfl, rfl⟩ isSubtype_stop ?_)
 exact asE (hQ _ fun b o hb e => ar4 _ (ar4 _ ((atk _ _ (att hb)).trans (e1 b o hb e))))
theorem Gp {t : Addr} {i : Int} {Q : Q.I} (hit : Is s.heap it t i) (h : Q (.ref it) s) : wpAny Q.N A (pyIter (.ref it)) Q E s := by
 refine wpAny_pyIter_slot hit.typeIs Gn (wpAny_call_entry Gn hit.typeIs OG ?_ (TX _))
 show wpAny _ _ (ret (.ref it)) _ _ s
 exact asE ⟨_, rfl, "reversed", _, hit.typeIs, slot_next.lookup, h⟩
end Rv
def Itu (K : Q.n) (a : Addr) (n : Nat) : It :=
 ⟨fun i H => i < n /\ ∃ xs, xW K H a xs /\ xs.length = n, fun i H x H' => H' = H /\ ∀ xs, xW K H a xs -> xs[n - 1 - i]? = some x, fun i _ => i = n⟩
theorem TY {w : World} (a it : Addr) (qm : a ≠ it) (n : Nat) : Turn P w K tg (Itu K a n) [it] it (fun i h => Rv.Is h it a ((n : Int) - 1 - (i : Int))) where
 mem := by simp
 obj := fun i h st b hb => by
   have e : b = it := by simpa using hb
   subst e
   obtain ⟨o, e, c, d⟩ := st
   exact ⟨o, e, fun v z => by rw [d] at z; cases z⟩
 keep := fun i h h' st k => st.at fun o e => k it Q.p o e
 item := by
   intro X hP hw hK hc i pins s σ H E I hf st hg
   subst hP hw hK
   obtain ⟨hi, xs, hq, hl⟩ := hg
   obtain ⟨its, rv, p, hz⟩ := I.tuple hq
   have wk : n - 1 - i < xs.length := by omega
   obtain ⟨u, hu, ru⟩ := rv.get (arZ wk)
   obtain ⟨f0, f1, f2, f3, f4, f5⟩ := hf it Q.p
   have e1 : (n : Int) - 1 - (i : Int) = ((n - 1 - i : Nat) : Int) := by omega
   have st1 : Rv.Is s.heap it a ((n - 1 - i : Nat) : Int) := e1 ▸ st
   have hn := wX
   have hll := rv.length
   refine Rv.next_item st1 p qm (x := u) (by simpa using hu) (by rw [List.size_toArray]; omega) fun h' tk Rc sb => ?_
   have I1 : L2.Inv X pins σ H { s with heap := h', toks := tk } := I.turned (t' := tk) (fun b o hb e => (sb.2 b hb).trans e) f0 f1 f3 f4 f5
   have e2 : ((n - 1 - i : Nat) : Int) - 1 = (n : Int) - 1 - ((i + 1 : Nat) : Int) := by omega
   have st2 : Rv.Is h' it a ((n : Int) - 1 - ((i + 1 : Nat) : Int)) := e2 ▸ Rc
   obtain ⟨o, e, c, d⟩ := id Rc
   exact ⟨u, rfl, KS (s := { s with heap := h', toks := tk }) e c d Q.i ⟨_, H, I1, ru, ⟨rfl, fun ys hy => by rw [I.FZ hy hq]; exact arZ wk⟩, st2, fun b hb => (hf b hb).1⟩⟩
 done := by
   intro X hP hw hK hc i pins s σ H E I hf st hg
   subst hP hw hK
   obtain ⟨f0, f1, f2, f3, f4, f5⟩ := hf it Q.p
   have e1 : (n : Int) - 1 - (i : Int) = -1 := by have : i = n := hg; omega
   have st1 : Rv.Is s.heap it a (-1) := e1 ▸ st
   exact Rv.next_end (I.ok.hd hc) st1 fun h' eb => ⟨rfl, I.turned (t' := s.toks) Q.bz f0 f1 f3 f4 f5⟩
 self := fun _ _ _ _ _ st h => Rv.Gp st h
def aj9 (K : Q.n) (ta : TA) : TI := fun σ H R => ta σ H fun vs H1 => ∃ a xs, vs = [.ref a] /\ xW K H1 a xs /\ R (Itu K a xs.length) H1
theorem abu {a : Expr} {p : Pos} (hg : Gl X "reversed") (hm : X.mg "reversed" = none) (ha : PA X [a] ta) (hs : Q.cd) : PI X tg (.Call (.Name "reversed" p) [a] [] pos) (aj9 X.K ta) := by
 intro pins s σ H R I h
 refine Call_ (nu I hg hm boot_reversed (asP (gk Q.aK fun us s1 zz => ?_) hs rfl))
 obtain ⟨vs, H1, I1, r1, q1⟩ := zz
 obtain ⟨l, xs, e, hq, q⟩ := q1
 subst e
 cases r1 with
 | cons r rr =>
   cases rr
   cases r
   obtain ⟨its, rv, p, hz⟩ := I1.tuple hq
   have hn := wX
   have hl := rv.length
   have wk : l < s1.heap.objs.size := by obtain ⟨o, e, _⟩ := id p; exact ar9 e
   refine Rv.WB p (by rw [ar7]; omega) fun tk => ?_
   have e0 : ((its.toArray.size : Int) - 1) = (xs.length : Int) - 1 - ((0 : Nat) : Int) := by rw [ar7, ← hl]; omega
   have I2 : L2.Inv X pins σ H1 { s1 with heap := s1.heap.push (Rv.obj l ((its.toArray.size : Int) - 1)), toks := tk } := I1.kept (t' := tk) fun b o e => ar4 _ e
   have st : Rv.Is (s1.heap.push (Rv.obj l ((its.toArray.size : Int) - 1))) s1.heap.objs.size l ((xs.length : Int) - 1 - ((0 : Nat) : Int)) := e0 ▸ ⟨_, asC _ rfl, rfl, rfl⟩
   refine Rv.Gp st ?_
   refine ⟨s1.heap.objs.size, [s1.heap.objs.size], _, _, H1, rfl, I2, TY l _ (asJ wk) xs.length, st, fun b hb => ?_, q⟩
   have e : b = s1.heap.objs.size := by simpa using hb
   subst e
   exact I1.Hg (ar5 _) (I1.gX.fresh (ar5 _))
variable {ds : List D}
theorem abv (hm : X.mg "reversed" = none) (h : cO X CL b e δ (.sh (.tup ds)) δ1) (hg : Gl X "reversed") (hs : Q.R := by exact bK rfl) : K7 X CL b tg (.Call (.Name "reversed" pr) [e] [] pc) δ ds.reverse δ1 := by
 refine ⟨_, abu hg hm Q.af hs, fun H Z σ ts vs R S k => h H Z σ ts vs _ S fun v H1 Z1 z1 k1 S1 => ?_⟩
 obtain ⟨fp, gp, _, r, _, _⟩ := S1.rep
 cases r with
 | cons r _ =>
   cases r with
   | sh r =>
     cases r with
     | @tup a us _ hq rr =>
       have hlen := rr.length
       refine ⟨a, us, rfl, aO.VX S1.zh hq, k _ _ ⟨Z1, us.reverse, z1, k1, S1.pop, rr.rev, fun i H2 s hi => ?_, fun i H2 y H' s hi hy => ?_, fun H2 s => ?_⟩⟩
       . rw [asR] at hi
         exact ⟨by omega, us, aO.VX s hq, rfl⟩
       . rw [asR] at hi
         refine ⟨hy.1, ?_⟩
         have := hy.2 us (aO.VX s hq)
         rw [List.getElem?_reverse Q.a]
         exact this
       . show (ds.reverse).length = us.length
         rw [asR]; exact hlen
variable {l : Bool} {ds : List D}
theorem WC (h : cO X CL b e δ (.sh (qX l ds)) δ1) : K7 X CL b tg e δ ds δ1 := by
 cases l
 . exact Oq h
 . exact dN h
theorem abw (hm : X.mg "reversed" = none) (h : cO X CL b e δ (.sh (qX l ds)) δ1) (hg : Gl X "reversed") (hs : Q.R := by exact bK rfl) : K7 X CL b tg (.Call (.Name "reversed" pr) [e] [] pc) δ ds.reverse δ1 := by
 cases l
 . exact abv hm h hg hs
 . exact Wj hm h hg hs
def constInt : Expr -> Option Int
 | .Constant (.int i) _ _ => some i
 | .UnaryOp .USub (.Constant (.int i) _ _) _ => some (-i)
 | _ => none
def Ad : List Expr -> Option Q.b
 | [] => some []
 | e :: es => (constInt e).bind fun x => (Ad es).map (x :: ·)
theorem T3 {x : Int} (h : constInt e = some x) : cO X CL b e δ (.sh (.int x)) δ := by
 unfold constInt at h
 split at h
 . cases h; exact aj
 . cases h; exact fW Q.c
 . cases h
theorem Lg {x : Int} (h : constInt e = some x) : notStar e = true := by
 unfold constInt at h
 split at h
 . rfl
 . rfl
 . cases h
theorem BQ : ∀ {es : List Expr} {l : Q.b}, Ad es = some l -> Ro X CL b es δ ((l.map D.int).map T.sh) δ
 | [], l, h => by
   have e : l = [] := (asH h).symm
   subst e
   exact b8
 | e :: es, l, h => by
   rw [Ad] at h
   obtain ⟨x, hx, h⟩ := Option.bind_eq_some_iff.mp h
   obtain ⟨l', hl, rfl⟩ := Option.map_eq_some_iff.mp h
   exact aN (T3 hx) (BQ hl) (bK (Lg hx))
theorem WD (l q : Addr) (xs ys : Array Value) (n m : Nat) (dq : Option Addr) (sq : Array (Option Value)) (hc : ¬(!xs.isEmpty && Builtin.List.listTooLong (xs.size + ys.size)) = true) (hx : xs.size <= sizeLine) (hy : xs.size + ys.size <= sizeLine + 1) :
   PySem.Meets (Builtin.«list.extend» ⟨[.ref l, .ref q], []⟩) (fun _ R s => s.heap.get? l = some { cls := .type "list", dict := none, data := .seq xs n, slots := #[] } /\ s.heap.get? q = some { cls := .type "tuple", dict := dq, data := .seq ys m, slots := sq } ∧
     R (.ok (.ret Value.none)) { s with heap := s.heap.update l (Obj.mapSeq fun x => x ++ ys), toks := s.toks }) :=
 PySem.Meets.of_wp fun prog w A R s h => by
   obtain ⟨hp, g, d, tk, os⟩ := s
   obtain ⟨hl, hb, h⟩ := h
   have f1 := AutoSeq1.idx_int
   have f2 := AutoSeq1.sub_tuple_tuple
   have f3 := AutoSeq1.sub_list_list
   have f4 := AutoSeq1.sub_tuple_list
   have f5 := AutoSeq1.sub_list_tuple
   have hz : (xs ++ ys).size <= sizeLine + 1 := by
     rw [Array.size_append]
     exact hy
   wp_walk using (wpAny_updateSeq hl rfl (hz := hx) (_hz' := hz)), wpAny_loadPart' hl, wpAny_loadPart' hb
   exact ⟨_, rfl, h⟩
def aka (K : Q.n) : V -> List V -> Hp -> VK -> Prop := fun x vs H Q => ∃ l q xs zs, x = .ref l /\ vs = [.ref q] /\ H l = some (.lst xs) /\ xW K H q zs /\ xs.length + zs.length <= sizeLine /\ Q .non (upd H l (.lst (xs ++ zs)))
theorem abx : MtM X "list.extend" (aka X.K) := by
 intro pins s σ H x vs v us Q I rx rv h
 obtain ⟨l, q, xs, zs, rfl, rfl, hH, hB, hz, k⟩ := h
 cases rx
 obtain ⟨u, rfl, ru⟩ := rv.one
 cases ru
 obtain ⟨z, its, n, r, hl, e⟩ := I.VQ hH
 obtain ⟨sU, r2, ⟨⟨c2, d2, da2, s2⟩, e2, hc2, n2, hd2⟩, z2⟩ := I.tuple hB
 cases hc2
 cases hd2
 have hl2 := r2.length
 have Vc : its.toArray.size + sU.toArray.size <= sizeLine := by
   rw [ar7, ar7]
   omega
 have C1 : ¬ (!its.toArray.isEmpty && Builtin.List.listTooLong (its.toArray.size + sU.toArray.size)) = true := by
   rw [yb Vc, atW]
   decide
 refine call_meets F.slot_list_extend ⟨_, e, rfl⟩ F.entry_list_extend (F.args_list_extend_2 _ _) (WD l q its.toArray sU.toArray n n2 d2 s2 C1 (by rw [ar7]; omega) Q.a) ⟨e, e2, ?_⟩
 refine ⟨.non, _, I.aaO (its' := its ++ sU) hH e Q.p (r.append r2) ?_, rfl, k⟩
 rw [arY]
 omega
variable {ds : List D}
theorem cA.Ry (S : Q.ab) (hr : aK K CL Z ds us) (hi : δ[i]? = some (some (.lst tl))) :
   ∃ a ws, σ[i]? = some (some (.ref a)) /\ H a = some (.lst ws) /\ ws.length = tl.length /\ cA K CL b (upd H a (.lst (ws ++ us))) Z (δ.set i (some (.lst (tl ++ ds.map T.sh)))) σ ts vs := by
 obtain ⟨fp, gp, e, r, nd, k⟩ := S.rep
 obtain ⟨v0, f1, f2, f3, hv, uU, rt, put, _⟩ := e.get hi
 subst uU
 cases rt with
 | @lst a ws _ g ha rs =>
   have ne : ∀ c ∈ Q.aj ++ gp, c ≠ a := fun c hc e => by
     subst e
     have hp : ((f1 ++ ((c :: g) ++ f3)) ++ gp).Perm (c :: (Q.aj ++ gp)) := by
       rw [asb, ← asb]
       exact (atH.append_right _)
     exact (as2.mp (hp.nodup_iff.mp nd)).1 hc
   refine ⟨a, ws, hv, ha, rs.length.symm, ?_⟩
   have r1 : eL K CL (upd H a (.lst (ws ++ us))) Z (.lst (tl ++ ds.map T.sh)) (.ref a) (a :: (g ++ [])) :=
     .lst b9 (bu.app (rs.mono Q.m fun c hc => aL Q.au) (bu.ofF hr))
   rw [asj] at r1
   have e2 := put (H' := upd H a (.lst (ws ++ us))) Q.m (fun c hc => aL (ne c (by
     rcases arV.mp hc with h | h
     . simp [h]
     . simp [h]))) r1
   rw [je hv] at e2
   exact S.write nd k (arK) ⟨_, ha⟩ e2 (r.mono Q.m fun c hc => aL Q.au) nd fun c hc => hc
section
variable {ds : Q.k} {D : i7}
theorem OI (n : Vn X i x) (h0 : δ[i]? = some (some (.lst tl0))) (h : eN X CL b e δ (.tup ds) δ1) (him : L3.D.bQ ds = true) (h1 : δ1[i]? = some (some (.lst tl))) (hl : tl.length + ds.length <= 1000000) (k : ic X CL b kX (δ1.set i (some (.lst (tl ++ ds.map T.sh)))) D)
   (qq : Q.cg := by rfl)
   (CZ : Q.bE := by rfl)
   (hline : (pa.endLine == pb.line) = true := by rfl) (hs : Q.R := by exact bK rfl)
   (Hy : swapsWith Q.bB none pos.line X.env = pure false := by rfl) :
   ic X CL b (.Expr Q.bB pos :: kX) δ D := fh fun H Z σ ts vs E S M =>
 z8 (BD (Rl atL auc aud abx (mq n.hi n.hv n.hd n.qS) Q.af qq CZ hline hs rfl) Hy) (by
   obtain ⟨v0, e0, r0⟩ := S.look h0
   refine ⟨v0, e0, ?_, ?_⟩
   . rw [T.dJ] at r0
     cases r0 with
     | lst hq _ => exact .inl ⟨rfl, _, hq⟩
   . refine h H Z σ ts vs _ S fun v H1 Z1 z1 k1 S1 r => ?_
     cases r with
     | tup hq rr =>
       obtain ⟨a, ws, ea, ha, hu, S2⟩ := S1.Ry (aK.pM S1.tp him rr) h1
       rw [e0] at ea
       cases ea
       have hz := rr.length
       exact ⟨a, _, ws, _, rfl, rfl, ha, hq, by rw [hu, ← hz]; exact asu (ath hl (by rw [as5]; decide)), M.nx _ σ _ Z1 z1 S2 k⟩)
end
variable {ι : Nat -> Nat}
def turned (ι : Nat -> Nat) (i j : Nat) : Nat -> Nat := fun k => if i <= k /\ k < j then ι (i + j - 1 - k) else ι k
theorem HJ {a c : Q.b} (p : a.Perm c) (s : a.Pairwise (· ≥ ·)) : a = (sortI c).reverse := by
 have h := qv ((List.reverse_perm a).trans p) (List.pairwise_reverse.mpr (s.imp fun h => h))
 rw [← h, List.reverse_reverse]
def tSR (K : Q.n) (t : TA) : TE := fun σ H Q => t σ H fun vs H1 => ∃ p ns, vs = [.ref p] /\ qT K H1 p (ns.map .int) /\ ns.length < 64 /\ ∀ l, H1 l = none -> Q (.ref l) (upd H1 l (.lst ((sortI ns).reverse.map .int)))
theorem OJ {t : TA} {p p1 : Pos} (hg : Gl X "sorted") (hm : X.mg "sorted" = none) (ha : PA X [e] t) (hs : Q.R) :
   PE X (.Call (.Name "sorted" p) [e] [⟨some "reverse", .Constant (.bool true) kj p1, p2⟩] pos) (tSR X.K t) := by
 intro pins s σ H Q I h
 have hk : PK X [⟨some "reverse", .Constant (.bool true) kj p1, p2⟩] (VC (tC (.bl true)) aaH) := aaI aee afy
 refine ato (nu I hg hm yp ?_)
 refine callWith_kw (gk Q.aK fun us s1 zz => ?_) (by rw [hs]; rfl) (by rw [hs]; rfl) rfl rfl
 obtain ⟨vs, H1, I1, r1, q1⟩ := zz
 refine gk (hk pos pins s1 σ H1 (fun zs H2 => zs = [.bl true] /\ H2 = H1) I1 ⟨rfl, rfl⟩) fun ws s2 zz => ?_
 obtain ⟨zs, H2, I2, rz, e1, e2⟩ := zz
 subst e1
 subst e2
 obtain ⟨u, rfl, ru⟩ := rz.one
 cases ru
 obtain ⟨q, ns, rfl, hq, hl, kk⟩ := q1
 obtain ⟨v, rfl, rv⟩ := r1.one
 cases rv
 obtain ⟨its, r', pl, hz⟩ := I2.list hq
 have hlen := r'.length
 rw [arL] at hlen
 show wpAny _ _ (call (.builtin "sorted") [.ref q] [(Str.ofString "reverse", .bool true)]) _ _ s2
 refine sorted_ints_rev pl.isList (intsAre_of r') Q.a fun out ns' a1 a2 a3 => ?_
 obtain ⟨en, he⟩ := sortedAll_at s2.heap its out
 have e3 : ns' = (sortI ns).reverse := HJ a2 a3
 subst e3
 refine ⟨.ref (s2.heap.objs.size + 1), _, I2.laid (t' := s2.toks) (fun _ _ => sortedAll_old) (atG _) (show kG X.prog X.w _ _ _ (.lst ((sortI ns).reverse.map .int)) from ⟨?_, out.toList, en, qZ a1, ?_⟩), rfl, kk _ (I2.gX.fresh (atG _))⟩
 . rw [arL, asR, jJ]
   rw [arL] at hz
   exact hz
 . simpa using he
variable {p1 : Pos}
theorem OL {l : Q.b} (hm : X.mg "sorted" = none) (h : eN X CL b e δ (.lst (l.map .int)) δ1) (hl : l.length < 64) (hg : Gl X "sorted") (hs : Q.R := by exact bK rfl) :
   cO X CL b (.Call (.Name "sorted" pp) [e] [⟨some "reverse", .Constant (.bool true) kj p1, p2⟩] pos) δ (.lst (((sortI l).reverse.map .int).map T.sh)) δ1 := fun H Z σ ts vs Q S k =>
 dX (OJ hg hm Q.af hs) (h H Z σ ts vs _ S fun v H1 Z1 z1 k1 S1 r => by
   cases r with
   | @lst a us _ hq rr =>
     have := Gi rr
     subst this
     refine ⟨a, l, rfl, hq, hl, fun p hp => ?_⟩
     obtain ⟨c, S2⟩ := (cA.wG (ints_rep (sortI l).reverse) S1).qW (g0 := []) Q.p hp
     exact k _ _ _ z1 (k1.trans c) S2)
theorem mkL (hi : X.N[i]? = some x) (h : X.env.scope.names.lookup x = some .local) (hf : X.fn x = true) (hd : Q.B := by decide) (hc : Q.aH := by decide) : Ln X i x := ⟨⟨hi, .inl h, hd, hc⟩, .inl h, .inl hf⟩
theorem mkC (hi : X.N[i]? = some x) (h : X.env.scope.names.lookup x = some .cell) (hf : X.fn x = true) (hd : Q.B := by decide) (hc : Q.aH := by decide) : Ln X i x := ⟨⟨hi, .inr (.inl h), hd, hc⟩, .inr h, .inl hf⟩
theorem aex {w : World} {f : Addr} {sp : Sp} (G : iM P w K mg base wY k f fd ps sp) (m : mg x = some (.ref f)) (q : PySem.W.keepIn K (.ref f) = true) (b : Binds K fd ps []) :
   ∃ f fd ps, iM P w K mg base wY k f fd ps sp /\ mg x = some (.ref f) /\ PySem.W.keepIn K (.ref f) = true /\ Binds K fd ps [] := ⟨_, _, _, G, m, q, b⟩
variable {px : Pos} {p : L3.D -> Bool} {g : L3.D -> T} {ds : Q.k}
theorem akb (sc : qt X scope y Nc ix) : qY X scope [y] Nc ix := ⟨sc.kind, sc.Hx, sc.nd, sc.names, (fun x hx => by rw [asQ] at hx; subst hx; exact sc.own), sc.frees, sc.hd, sc.ixs⟩
theorem akc (sc : qt X scope y Nc ix) (h : Block X CL scope Nc ifs elt δc ds p g) (h1 : (y == ("__debug__" : Str)) = false) (h2 : (y == ("__classdict__" : Str)) = false) : Aa X CL scope Nc [y].length (.Name y px) part1 ifs elt δc ds p g := fun C s0 H0 f0 b' =>
 ⟨Wn (i := 0) sc.nd (Ox (by rw [sc.hd]; rfl) sc.own h1 h2), fun d hd => ⟨[d], rfl, rfl, (h C s0 H0 f0 b' d hd).1, (h C s0 H0 f0 b' d hd).2⟩⟩
theorem mK (sc : qt X scope y Nc ix) (hc : X.calm = true) (h : K7 X CL b (.Name y px) iter δ ds δ1) (hb : Q.bF) (inner : Block X CL scope Nc ifs elt δc ds p g) (hlen : Q.aT)
   (hs : Q.bi := by intro _; rfl) (h1 : (y == ("__debug__" : Str)) = false := by decide) (h2 : (y == ("__classdict__" : Str)) = false := by decide) : cO X CL b (.ListComp elt [⟨.Name y px, iter, ifs, 0⟩] scope pos) δ (.lst ((ds.filter p).map g)) δ1 :=
 C9 (xs := [y]) (akb sc) hc (aeq h) hb (akc sc inner h1 h2) hlen hs
theorem xo {D : i7} {gg : L3.D -> T} (g : Gx X) (n : Ln X i x) (sc : qt X scope y Nc ix) (h : K7 X CL b (.Name y px) iter δ ds δ1) (hb : (δc = K3 δ1 ix /\ ∀ d ∈ ds, (gg d).clean = true) \/ δc = K4 δ1 ix) (inner : Block X CL scope Nc ifs elt δc ds p gg)
   (hlen : Q.aT) (k : ic X CL b kX (δ1.set i (some (.lst ((ds.filter p).map gg)))) D) (hl : i < δ1.length)
   (Hy : swapsWith (.ListComp elt [⟨.Name y px, iter, ifs, 0⟩] scope pc) (some (.Name x pos')) pos.line X.env = pure true \/ swapsWith (.ListComp elt [⟨.Name y px, iter, ifs, 0⟩] scope pc) (some (.Name x pos')) pos.line X.env = pure false) (hs : Q.bi := by intro _; rfl)
   (h1 : (y == ("__debug__" : Str)) = false := by decide) (h2 : (y == ("__classdict__" : Str)) = false := by decide) : ic X CL b (.Assign [.Name x pos'] (.ListComp elt [⟨.Name y px, iter, ifs, 0⟩] scope pc) pos :: kX) δ D :=
 agh (xs := [y]) g n (akb sc) (aeq h) hb (akc sc inner h1 h2) hlen k hl Hy hs
variable {d : L3.D}
theorem aA (n : Ln X i x) (h : δ[i]? = some (some (.sh d)) := by rfl) : eN X CL b Q.S δ d δ := ah (v_ n.1 h)
structure bP (X : Cx) : Prop where
 g : Gx X
 u : X.A.units + 64 < cLine
abbrev ay (X : Cx) (CL : Q.e) (b : Bx) (st : Stmt) (N : Q.h) (l : Q.k) (r : T) : Prop := ic X CL b (g5 st) (entry N l) { nx := fun _ => r = .sh .non, rt := fun T4 _ => T4 = r }
abbrev av : NameKind := .globalImplicit
abbrev ao : NameKind := .local
theorem aM {P : Q.h} {sc : Scope} (h1 : sc.kind = .function := by rfl) (h2 : sc.isCoroutine = false := by rfl) (h3 : sc.isGenerator = false := by rfl) (h4 : N.Nodup := by decide +kernel) (h5 : N.take P.length = P := by rfl) (h6 : ∀ x ∈ P, sc.names.lookup x = some .local \/ sc.names.lookup x = some .cell := by decide +kernel) (h7 : ∀ y ∈ sc.names, y.2 ≠ .free := by decide +kernel) : aH N P sc := ⟨h1, h2, h3, h4, h5, h6, h7⟩
variable {tb : Q.aS}
theorem aQ (c : jf X.env.scope tb = true) (j : Nat) (hj : tb[j]? = some (x, .local) := by rfl) (hi : X.N[i]? = some x := by rfl) (hf : X.fn x = true := by rfl) (hd : Q.B := by decide) (hc : Q.aH := by decide) : Ln X i x := mkL hi (fU c j hj) hf hd hc
theorem NT (c : jf X.env.scope tb = true) (j : Nat) (hj : tb[j]? = some (x, .cell) := by rfl) (hi : X.N[i]? = some x := by rfl) (hf : X.fn x = true := by rfl) (hd : Q.B := by decide) (hc : Q.aH := by decide) : Ln X i x := mkC hi (fU c j hj) hf hd hc
theorem bY (c : jf X.env.scope tb = true) (j : Nat) (hj : tb[j]? = some (x, .globalImplicit) := by rfl) : Gl X x := fU c j hj
theorem bT {m : Nat} {arg : A -> List D} {Pre : A -> Prop} {res : A -> T} (F : ∃ f fd ps, iM X.prog X.w X.K X.mg X.base wY k f fd ps (Oo X.K CL n arg Pre res) /\ X.mg x = some (.ref f) /\ PySem.W.keepIn X.K (.ref f) = true /\ Binds X.K fd ps []) (r : ig m X.A) (h : k <= m := by decide) : Fc X CL x k n arg Pre res := ⟨F, r.mono h⟩
variable {δ' : Q.s} {σ' : L2.St} {y : Addr}
theorem cA.aey (S : Q.ab) (hi : δ[i]? = some (some (.pin y t))) : σ[i]? = some (some (.ref y)) /\ cA K CL b H Z (δ.set i (some t)) σ ts vs := by
 obtain ⟨fp, gp, e, r, nd, k⟩ := S.rep
 obtain ⟨v0, f1, f2, f3, hv, uU, rt, put, _⟩ := e.get hi
 subst uU
 cases rt with
 | pin rt =>
   have e2 := put Q.m (fun _ _ => rfl) rt
   rw [je hv] at e2
   exact ⟨hv, ⟨⟨_, gp, e2, r, nd, k⟩, S.bh, S.zz, S.zh, S.new, S.tp, S.tab⟩⟩
theorem cA.akd (S : Q.ab) (hi : δ[i]? = some (some t)) (hv : σ[i]? = some (some (.ref y))) : cA K CL b H Z (δ.set i (some (.pin y t))) σ ts vs := by
 obtain ⟨fp, gp, e, r, nd, k⟩ := S.rep
 obtain ⟨v0, f1, f2, f3, hv0, uU, rt, put, _⟩ := e.get hi
 subst uU
 rw [hv] at hv0
 cases hv0
 have e2 := put Q.m (fun _ _ => rfl) (.pin rt)
 rw [je hv] at e2
 exact ⟨⟨_, gp, e2, r, nd, k⟩, S.bh, S.zz, S.zh, S.new, S.tp, S.tab⟩
def Dg (H : Hp) (gp : Q.t) : Hp := fun c => if c ∈ gp then none else H c
theorem nG {c : Addr} (h : c ∉ gp) : Dg H gp c = H c := arS h
theorem BR {c : Addr} (h : c ∈ gp) : Dg H gp c = none := arU h
theorem uX {c : Addr} {o : HO} (h : Dg H gp c = some o) : c ∉ gp /\ H c = some o := by
 by_cases hc : c ∈ gp
 . rw [BR hc] at h; cases h
 . rw [nG hc] at h; exact ⟨hc, h⟩
theorem cA.cut (S : cA K CL b H Z δ σ (tl ++ ts) (us ++ vs)) (hl : tl.length = us.length) : ∃ gp, bu K CL H Z tl us gp /\ gp.Nodup /\ cA K CL b (Dg H gp) Z δ σ ts vs := by
 obtain ⟨fp, g, e, r, nd, k⟩ := S.rep
 obtain ⟨g1, g2, rfl, r1, r2⟩ := bu.split hl r
 have hp : (fp ++ (g1 ++ g2)).Perm (g1 ++ (fp ++ g2)) := by
   rw [← arR, ← arR]
   exact aso.append_right g2
 have nd' := ass.mp (hp.nodup_iff.mp nd)
 have ne : ∀ c ∈ fp ++ g2, c ∉ g1 := fun c hc h => nd'.2.2 c h c hc rfl
 have own : ∀ c ∈ g1, Z c = none /\ b.B c = none := fun c hc => k c (arQ _ (arW _ hc))
 refine ⟨g1, r1, nd'.1, ⟨⟨fp, g2, e.mono Q.m (fun c hc => nG (ne c (arW _ hc))), r2.mono Q.m (fun c hc => nG (ne c (arQ _ hc))), nd'.2.1, fun c hc => k c (hp.mem_iff.mpr (arQ _ hc))⟩, fun c o q => ?_, S.zz, fun c o q => ?_, S.new, fun c o q im => S.tp c o (uX q).2 im, S.tab⟩⟩
 . rw [nG (fun h => by rw [(own c h).2] at q; cases q)]; exact S.bh c o q
 . rw [nG (fun h => by rw [(own c h).1] at q; cases q)]; exact S.zh c o q
theorem cA.ake {W' : Hp} (S : Q.ab) (hh : aO H H') (ww : aO Z W') (wh : aO W' H') (new : ∀ a o, W' a = some o -> Z a = none -> H a = none)
   (tp : ∀ a o, H' a = some o -> pL o = true -> W' a = some o) (r : bu K CL H' W' tl us fp) (nd : fp.Nodup) (own : ∀ a ∈ fp, W' a = none /\ H a = none) : cA K CL b H' W' δ σ (tl ++ ts) (us ++ vs) := by
 obtain ⟨f0, g0, e0, r0, nd0, k0⟩ := S.rep
 have old : ∀ a ∈ f0 ++ g0, ∃ o, H a = some o := fun a ha => (arV.mp ha).elim (e0.there a) (r0.there a)
 have keep : ∀ a ∈ f0 ++ g0, H' a = H a := fun a ha => by
   obtain ⟨o, e⟩ := old a ha
   rw [e]; exact hh a o e
 have hp : (f0 ++ (fp ++ g0)).Perm (fp ++ (f0 ++ g0)) := by
   rw [← arR, ← arR]
   exact aso.append_right g0
 have wn : ∀ a ∈ f0 ++ g0, W' a = none := fun a ha => by
   cases q : W' a with
   | none => rfl
   | some o =>
     obtain ⟨u, e⟩ := old a ha
     rw [new a o q (k0 a ha).1] at e; cases e
 refine ⟨⟨f0, fp ++ g0, e0.mono ww (fun a ha => keep a (arW _ ha)), bu.app r (r0.mono ww fun a ha => keep a (arQ _ ha)), ?_, fun a ha => ?_⟩, S.bh.trans hh, S.zz.trans ww, wh, fun a o q z => ?_, tp, S.tab⟩
 . refine hp.nodup_iff.mpr (ass.mpr ⟨nd, nd0, fun a ha c hc e => ?_⟩)
   subst e
   obtain ⟨o, q⟩ := old a hc
   rw [(own a ha).2] at q; cases q
 . rcases arV.mp (hp.mem_iff.mp ha) with h | h
   . exact ⟨(own a h).1, Oi S.bh (own a h).2⟩
   . exact ⟨wn a h, (k0 a h).2⟩
 . cases q2 : Z a with
   | none => exact Oi S.bh (new a o q q2)
   | some u =>
     exact S.new a u q2 z
def abz : List T -> List T -> Prop
 | [], [] => True
 | .sh d :: l, .sh e :: m => d = e /\ abz l m
 | .pin x _ :: l, .pin z _ :: m => x = z /\ abz l m
 | _, _ => False
def Keeps (δ : Q.s) (ol : List T) : Prop := ∀ (j : Nat) (y : Addr) (t : T), ol[j]? = some (T.pin y t) -> δ[j]? = some (some (T.pin y t))
theorem Keeps.tail {o : Q.L} {d : T} {ol : List T} (k : Keeps (o :: δ) (d :: ol)) : Keeps δ ol := fun j y t h => k Q.l y t h
theorem fQ.outs {W W' : Hp} (ww : aO W W') : ∀ {al ol : List T} {vs : List V} {g0 : Q.t} {δ : Q.s} {σ : L2.St} {fp : Q.t}, abz al ol -> bu K CL H W al vs g0 -> fQ K CL H' W' δ σ fp -> Keeps δ ol -> ∃ g, bu K CL H' W' ol vs g /\ g.Sublist fp
 | [], [], _, _, _, _, fp, _, .nil, _, _ => ⟨[], .nil, List.nil_sublist _⟩
 | .sh d :: al, .sh e :: ol, _, _, δ, σ, fp, ho, .cons (.sh r) rs, re, k => by
   obtain ⟨h1, h2⟩ := ho
   subst h1
   cases re with
   | nil =>
     obtain ⟨g, q, s⟩ := fQ.outs ww h2 rs (.nil (H := H') (Z := W')) (fun j y t h => by have := k Q.l y t h; simp at this)
     exact ⟨[] ++ g, .cons (.sh (r.mono ww)) q, s⟩
   | skip re =>
     obtain ⟨g, q, s⟩ := fQ.outs ww h2 rs re k.tail
     exact ⟨[] ++ g, .cons (.sh (r.mono ww)) q, s⟩
   | cons rt re =>
     obtain ⟨g, q, s⟩ := fQ.outs ww h2 rs re k.tail
     exact ⟨[] ++ g, .cons (.sh (r.mono ww)) q, s.trans (as6 _ _)⟩
 | .pin x t0 :: al, .pin z t :: ol, _, _, δ, σ, fp, ho, .cons (.pin r) rs, re, k => by
   obtain ⟨h1, h2⟩ := ho
   subst h1
   have h0 := k 0 x t rfl
   cases re with
   | nil => simp at h0
   | skip re => simp at h0
   | cons rt re =>
     simp at h0
     subst h0
     obtain ⟨g, q, s⟩ := fQ.outs ww h2 rs re k.tail
     cases rt with
     | pin rt => exact ⟨_, .cons (.pin rt) q, asv (asy _) s⟩
def OO (N : Q.h) (al : List T) : List Q.L := al.map some ++ List.replicate (N.length - al.length) none
theorem A0 : ∀ {al : List T} {vs : List V} {gp : Q.t} (n : Nat), bu K CL H Z al vs gp -> fQ K CL H Z (al.map some ++ List.replicate n none) (vs.map some ++ List.replicate n none) gp
 | _, _, _, n, .nil => nE (ds := []) (vs := []) n .nil
 | _, _, _, n, .cons r t => .cons r (A0 n t)
def spM (K : Q.n) (CL : Q.e) (n : Nat) (arg : A -> List T) (Pre : A -> Prop) (res : A -> T) (out : A -> List T) : Sp := fun vs H Q _ =>
 ∃ (W : Hp) (a : A) (gp : Q.t), aO W (Dg H gp) /\ (∀ c o, H c = some o -> pL o = true -> W c = some o) /\ bu K CL H W (arg a) vs gp /\ gp.Nodup /\ (arg a).length = n /\ Pre a /\ qV CL W ∧
   ∀ v H' W' fp, aO (Dg H gp) H' -> aO W W' -> aO W' H' -> (∀ c o, W' c = some o -> W c = none -> Dg H gp c = none) -> (∀ c o, H' c = some o -> pL o = true -> W' c = some o) →
     bu K CL H' W' (res a :: out a) (v :: vs) fp -> fp.Nodup -> (∀ c ∈ fp, W' c = none /\ Dg H gp c = none) -> Q v H'
theorem agj {w : World} {f : Addr} {arg : A -> List T} {Pre : A -> Prop} {res : A -> T} {out : A -> List T} (F : iN K x qual st f fd) (S : aH N ps (ak st)) (ho : ∀ a, Pre a -> abz (arg a) (out a))
   (hb : ∀ (mj : Value) (Ar : Around) (outer : List Env) (s : Shared) (H : Hp) (E : XK) (b : Bx) (a : A), ig k (Ar.deeper Q.bK) -> Pre a →
     ic (CY wY P w K mg base N qual (ak st) f mj Ar outer s H E).nox CL b (g5 st) (OO N (arg a)) { nx := fun δ => res a = .sh .non /\ Keeps δ (out a), rt := fun t δ => t = res a /\ Keeps δ (out a) }) :
   iM P w K mg base wY (k + 1) f fd ps (spM K CL ps.length arg Pre res out) := by
 refine F.ok S (fun vs H Q E h => ?_) (fun mj Ar outer s H vs Q E hr h => ?_)
 . obtain ⟨W, a, gp, _, _, r, _, hl, _⟩ := h
   rw [← r.length]; exact hl
 . obtain ⟨W, a, gp, wh, tp, r, nd, hl, hp, tb, kk⟩ := h
   have wn : ∀ c ∈ gp, W c = none := fun c hc => by
     cases q : W c with
     | none => rfl
     | some o => exact absurd hc (uX (wh c o q)).1
   refine ⟨_, pbS, hb mj Ar outer s H E ⟨Dg H gp, W⟩ a hr hp H W _ [] [] _ ⟨⟨gp, [], ?_, .nil, by rw [asj]; exact nd, fun c hc => ?_⟩, fun c o q => (uX q).2, .refl _, fun c o q => (uX (wh c o q)).2, fun c o q z => ?_, tp, tb⟩ ⟨fun δ' σ' H' Z' s' S' e => ?_, fun t v H' Z' δ' σ' s' S' e => ?_, fun _ _ _ _ _ _ e => e.elim, fun _ _ _ _ _ _ e => e.elim⟩⟩
   . unfold OO L2.start
     rw [← r.length]
     exact A0 _ r
   . rw [asj] at hc
     exact ⟨wn c hc, BR hc⟩
   . have q' : W c = some o := q
     have z' : W c = none := z
     rw [q'] at z'; cases z'
   . obtain ⟨e1, e2⟩ := e
     obtain ⟨fp, gq, re, r', nd', own⟩ := S'.rep
     obtain ⟨g, q, sb⟩ := fQ.outs S'.zz (ho a hp) r re e2
     have nf := (ass.mp nd').1
     exact kk .non H' Z' ([] ++ g) S'.bh S'.zz S'.zh S'.new S'.tp (.cons (by rw [e1]; exact .sh .non) q) (nf.sublist sb) fun c hc => own c (arW _ (sb.subset hc))
   . obtain ⟨e1, e2⟩ := e
     subst e1
     obtain ⟨fp, gq, re, r', nd', own⟩ := S'.rep
     obtain ⟨g, q, sb⟩ := fQ.outs S'.zz (ho a hp) r re e2
     cases r' with
     | @cons _ _ _ _ f1 f2 r1 r2 =>
       have sub : (g ++ f1).Sublist (fp ++ (f1 ++ f2)) := asv sb (List.sublist_append_left _ _)
       have pm : (f1 ++ g).Perm (g ++ f1) := aso
       exact kk v H' Z' (f1 ++ g) S'.bh S'.zz S'.zh S'.new S'.tp (.cons r1 q) (pm.nodup_iff.mpr (nd'.sublist sub)) fun c hc => own c (sub.subset (pm.mem_iff.mp hc))
def AtS (σ : L2.St) : List Nat -> List Addr -> Prop
 | [], [] => True
 | i :: is, y :: ys => σ[i]? = some (some (.ref y)) /\ AtS σ is ys
 | _, _ => False
def yq : List T -> List Addr -> List T -> Prop
 | [], [], [] => True
 | .sh _ :: ol, ys, ns => yq ol ys ns
 | .pin y t :: ol, z :: ys, n :: ns => y = z /\ (n = t \/ n = .pin y t) /\ yq ol ys ns
 | _, _, _ => False
def abA : List Q.L -> List Nat -> List T -> List Q.L
 | δ, i :: is, n :: ns => abA (δ.set i (some n)) is ns
 | δ, _, _ => δ
theorem cA.agk : ∀ {ol : List T} {us : List V} {is : List Nat} {ys : Q.t} {ns : List T} {δ : Q.s}, cA K CL b H Z δ σ (ol ++ ts) (us ++ vs) -> ol.length = us.length -> AtS σ is ys -> yq ol ys ns -> (∀ i ∈ is, i < δ.length) -> cA K CL b H Z (abA δ is ns) σ ts vs
 | [], [], [], [], [], δ, S, _, _, _, _ => S
 | [], [], _ :: _, [], _, δ, S, _, ha, _, _ => ha.elim
 | [], [], _ :: _, _ :: _, _, δ, S, _, _, hp, _ => by simp [yq] at hp
 | .pin _ _ :: _, _ :: _, [], _ :: _, _, δ, S, _, ha, _, _ => ha.elim
 | .pin _ _ :: _, _ :: _, [], [], _, δ, S, _, _, hp, _ => by simp [yq] at hp
 | .sh d :: ol, u :: us, is, ys, ns, δ, S, hl, ha, hp, hi => cA.agk (ol := ol) (us := us) (ys := ys) S.pop (by simpa using hl) ha (by rw [yq] at hp; exact hp) hi
 | .pin y t :: ol, u :: us, i :: is, z :: ys, n :: ns, δ, S, hl, ha, hp, hi => by
   rw [yq] at hp
   obtain ⟨rfl, hn, hp⟩ := hp
   obtain ⟨ha0, ha⟩ := ha
   have hu : u = .ref y := by
     obtain ⟨_, _, _, r, _, _⟩ := S.rep
     cases r with
     | cons r _ => cases r; rfl
   subst hu
   have hi0 := hi i arK
   have S1 := S.set hi0
   rw [je ha0] at S1
   have S2 : cA K CL b H Z (δ.set i (some n)) σ (ol ++ ts) (us ++ vs) := by
     rcases hn with rfl | rfl
     . have := (S1.aey (as4 hi0)).2
       rwa [List.set_set] at this
     . exact S1
   rw [abA]
   exact cA.agk S2 (by simpa using hl) ha hp fun j hj => by rw [List.length_set]; exact hi j (List.mem_cons_of_mem _ hj)
section
variable {D : i7} {is : List Nat} {fx : List Addr -> Prop} {al : List Addr -> List T}
def TEm (X : Cx) (CL : Q.e) (b : Bx) (e : Expr) (δ : Q.s) (t : T) (δ' : Q.s) : Prop :=
 ∀ (H Z : Hp) (σ : L2.St) (ts : List T) (vs : List V) (Q : VK), cA X.K CL b H Z δ σ ts vs -> (∀ v H' Z', aO Z Z' -> cA X.K CL b H' Z' δ' σ (t :: ts) (v :: vs) -> Q v H') -> Tr X e σ H Q
theorem abB (i : Nat) (h : TEm X CL b e δ t δ1) (k : D.nx (δ1.set i (some t))) (hl : i < δ1.length := by decide) (hN : X.N.Nodup := by assumption) (hi : X.N[i]? = some x := by rfl) (hx : Loc X.env.scope x := by first | exact .inl rfl | exact .inr rfl)
   (hs : Q.bG := by rfl) (hf : Q.bg := by first | exact .inl rfl | exact .inr rfl | assumption) : TSv X CL b (.Assign [.Name x pos'] e pos) δ D := fun H Z σ ts vs E S M =>
 z8 (Vv hN hi hx fG hs hf) (h H Z σ ts vs _ S fun v H1 Z1 z1 S1 => M.nx _ _ H1 Z1 z1 (S1.set hl) k)
def TMv (X : Cx) (CL : Q.e) (b : Bx) (es : List Expr) (δ : Q.s) (is : List Nat) (fx : List Addr -> Prop) (al : List Addr -> List T) (δ' : Q.s) : Prop :=
 ∀ (H Z : Hp) (σ : L2.St) (ts : List T) (vs : List V) (Q : List V -> Hp -> Prop), cA X.K CL b H Z δ σ ts vs →
   (∀ ys us H' Z', ys.length = is.length -> AtS σ is ys -> fx ys -> us.length = (al ys).length -> aO Z Z' -> aO H H' -> cA X.K CL b H' Z' δ' σ ((al ys).reverse ++ ts) (us.reverse ++ vs) -> Q us H') -> Tt X es σ H Q
theorem WG : TMv X CL b [] δ [] (fun _ => True) (fun _ => []) δ := fun H Z σ ts vs Q S k => Hr fc (k [] [] H Z rfl trivial trivial rfl Q.m Q.m S)
theorem Gq (h1 : cO X CL b e δ (.sh d) δ1) (h2 : TMv X CL b es δ1 is fx al δ2) (hs : Q.Y := by exact bK rfl) : TMv X CL b Q.D δ is fx (fun ys => .sh d :: al ys) δ2 := fun H Z σ ts vs Q S k =>
 Hr (cD fG Oh hs) (h1 H Z σ ts vs _ S fun v H1 Z1 z1 k1 S1 => h2 H1 Z1 σ _ _ _ S1 fun ys us H2 Z2 hy ha hf hl z2 k2 S2 => k ys (v :: us) H2 Z2 hy ha hf (by simp [hl]) Q.C Q.K (by
   rw [asz, asz, arR, arR]
   exact S2))
def T.isRef : T -> Bool
 | .lst _ => true
 | .ins _ _ => true
 | .BE _ => true
 | .dct _ => true
 | _ => false
theorem cA.agm (S : Q.aZ) (h : t.isRef = true) : ∃ y, v = .ref y /\ cA K CL b H Z δ σ (.pin y t :: ts) (.ref y :: vs) := by
 obtain ⟨fp, gp, e, r, nd, k⟩ := S.rep
 cases r with
 | cons r rs =>
   cases r with
   | sh r => cases h
   | tup r _ => cases h
   | pin r => cases h
   | lst r q => exact ⟨_, rfl, ⟨⟨fp, _, e, .cons (.pin (.lst r q)) rs, nd, k⟩, S.bh, S.zz, S.zh, S.new, S.tp, S.tab⟩⟩
   | ins r q => exact ⟨_, rfl, ⟨⟨fp, _, e, .cons (.pin (.ins r q)) rs, nd, k⟩, S.bh, S.zz, S.zh, S.new, S.tp, S.tab⟩⟩
   | BE r q => exact ⟨_, rfl, ⟨⟨fp, _, e, .cons (.pin (.BE r q)) rs, nd, k⟩, S.bh, S.zz, S.zh, S.new, S.tp, S.tab⟩⟩
   | dct r q => exact ⟨_, rfl, ⟨⟨fp, _, e, .cons (.pin (.dct r q)) rs, nd, k⟩, S.bh, S.zz, S.zh, S.new, S.tp, S.tab⟩⟩
theorem aez (n : Vn X i x) (h : δ[i]? = some (some t)) (ho : t.isRef = true) (h2 : TMv X CL b es (δ.set i none) is fx al δ2) (hs : starEach (.Name x pos :: es) X.env = (false, eval Q.S X.env) :: starEach es X.env := by exact bK rfl) :
   TMv X CL b (.Name x pos :: es) δ (i :: is) (fun ys => fx ys.tail) (fun ys => .pin (ys.headD 0) t :: al ys.tail) δ2 := fun H Z σ ts vs Q S k => by
 obtain ⟨v, e, S1⟩ := S.move h
 obtain ⟨y, rfl, S0⟩ := S1.agm ho
 exact Hr (cD (mq n.hi n.hv n.hd n.qS) Oh hs) ⟨_, e, h2 H Z σ _ _ _ S0 fun ys us H2 Z2 hy ha hf hl z2 k2 S2 => k (y :: ys) (.ref y :: us) H2 Z2 (by simp [hy]) ⟨e, ha⟩ hf (by simp [hl]) z2 k2 (by
   show cA _ _ _ _ _ _ _ ((T.pin y t :: al ys).reverse ++ ts) _
   rw [asz, asz, arR, arR]
   exact S2)⟩
theorem WH {f : Addr} {arg : A -> List T} {Pre : A -> Prop} {res : A -> T} {out : A -> List T} (a : List Addr -> A) (ns : List T) (F : iM X.prog X.w X.K X.mg X.base wY k f fd ps (spM X.K CL n arg Pre res out)) (hr : ig k X.A) (hm : X.mg x = some (.ref f)) (hk : Q.bL) (hb : Binds X.K fd ps [])
   (h : TMv X CL b Q.D δ is fx al δ1) (ha : ∀ ys, ys.length = is.length -> fx ys -> arg (a ys) = al ys /\ (arg (a ys)).length = n /\ Pre (a ys) /\ res (a ys) = t /\ yq (out (a ys)) ys ns) (hil : ∀ i ∈ is, i < δ1.length) (hg : Gl X x)
   (xZ : Q.B := by decide) (he : Q.Y := by exact bK rfl) (hpl : Q.as := by rfl) :
   TEm X CL b Q.aX δ t (abA δ1 is ns) := fun H Z σ ts vs Q S kk =>
 dX (Hi F hr hg hm hk hb .nil F9 Oh xZ he hpl) (h H Z σ ts vs _ S fun ys us H1 Z1 hly NV hf hlu z1 k1 S1 => by
   rw [asj]
   obtain ⟨ha1, ha2, hp, hrs, hpu⟩ := ha ys hly hf
   obtain ⟨g, r, nd, S2⟩ := S1.cut (by simp [hlu])
   obtain ⟨g', r', pm⟩ := r.rev
   have ec : Dg H1 g = Dg H1 g' := funext fun c => by
     by_cases hc : c ∈ g
     . rw [BR hc, BR (pm.mem_iff.mpr hc)]
     . rw [nG hc, nG (fun z => hc (pm.mem_iff.mp z))]
   rw [ec] at S2
   rw [← ha1] at r'
   refine ⟨Z1, a ys, g', S2.zh, S1.tp, r', pm.nodup_iff.mpr nd, ha2, hp, S1.aaU, fun v H' W' fp hh ww wh nw tp rt nd' own => ?_⟩
   cases rt with
   | @cons _ _ _ _ f1 f2 q1 q2 =>
     have V3 : (f2 ++ (f1 ++ [])).Perm (f1 ++ f2) := by rw [asj]; exact aso
     have S3 := S2.ake hh ww wh nw tp (bu.app q2 (.cons q1 .nil)) (V3.nodup_iff.mpr nd') fun c hc => own c (V3.mem_iff.mp hc)
     rw [arR, arR] at S3
     have S4 := S3.agk q2.length NV hpu hil
     rw [hrs] at S4
     exact kk v H' W' (z1.trans ww) S4)
structure FcM (X : Cx) (CL : Q.e) (x : Str) (k n : Nat) {A : Type} (arg : A -> List T) (Pre : A -> Prop) (res : A -> T) (out : A -> List T) : Prop where
 ex : ∃ f fd ps, iM X.prog X.w X.K X.mg X.base wY k f fd ps (spM X.K CL n arg Pre res out) /\ X.mg x = some (.ref f) /\ PySem.W.keepIn X.K (.ref f) = true /\ Binds X.K fd ps []
 room : ig k X.A
theorem cM1 {arg : A -> List T} {Pre : A -> Prop} {res : A -> T} {out : A -> List T} (a : Addr -> A) (nt : T) (F : FcM X CL x k n arg Pre res out) (hg : Gl X x) (h : TMv X CL b Q.D δ [i] fx al δ1) (hp : ∀ y, fx [y] -> Pre (a y)) (am8 : ∀ y, fx [y] -> res (a y) = t) (am9 : ∀ y, fx [y] -> yq (out (a y)) [y] [nt])
   (ana : ∀ y, fx [y] -> arg (a y) = al [y] := by intros; rfl) (hlen : ∀ y, (arg (a y)).length = n := by intros; rfl) (hil : i < δ1.length := by exact arN rfl)
   (xZ : Q.B := by decide) (he : Q.Y := by exact bK rfl) (hpl : Q.as := by rfl) :
   TEm X CL b Q.aX δ t (δ1.set i (some nt)) := by
 obtain ⟨⟨f, fd, ps, G, m, q, bd⟩, r⟩ := F
 exact WH (fun ys => a (ys.headD 0)) [nt] G r m q bd h (fun ys hl hf => match ys, hl, hf with | [y], _, hf => ⟨ana y hf, hlen y, hp y hf, am8 y hf, am9 y hf⟩) (fun j hj => by cases asQ.mp hj; exact hil) hg xZ he hpl
theorem WK (g : Gx X) (n : Ln X i x) (h : TEm X CL b e δ t δ1) (k : ic X CL b kX (δ1.set i (some t)) D) (hl : i < δ1.length := by exact arN rfl) (hs : Q.bG := by rfl) :
   ic X CL b (.Assign [.Name x pos'] e pos :: kX) δ D := fh (abB i h k hl g.nd n.hi n.loc hs n.hf)
end
section
variable {D : i7}
theorem Rz (h : eN X CL b e1 δ (.tup ds) δ1) : wZ X CL b (.Compare e1 [.Is] [.Constant .none kj p2] pos) δ false δ1 := fun H Z σ ts vs Q S k =>
 Hq (ae2 (ae1 fG)) (h H Z σ ts vs _ S fun v H1 Z1 z1 k1 S1 r => by
     cases r with
     | tup hq rr => exact ⟨_, rfl, by simpa using k H1 Z1 z1 k1 S1⟩)
end
theorem WL (l q : Addr) (xs ys : Array Value) (n m : Nat) (dq : Option Addr) (sq : Array (Option Value)) (hc : ¬(!xs.isEmpty && Builtin.List.listTooLong (xs.size + ys.size)) = true) (hx : xs.size <= sizeLine) (hy : xs.size + ys.size <= sizeLine + 1) :
   PySem.Meets (Builtin.«list.extend» ⟨[.ref l, .ref q], []⟩) (fun _ R s => s.heap.get? l = some { cls := .type "list", dict := none, data := .seq xs n, slots := #[] } /\ s.heap.get? q = some { cls := .type "list", dict := dq, data := .seq ys m, slots := sq } ∧
     R (.ok (.ret Value.none)) { s with heap := s.heap.update l (Obj.mapSeq fun x => x ++ ys), toks := s.toks }) :=
 PySem.Meets.of_wp fun prog w A R s h => by
   obtain ⟨hp, g, d, tk, os⟩ := s
   obtain ⟨hl, hb, h⟩ := h
   have f1 := AutoSeq1.idx_int
   have f2 := AutoSeq1.sub_tuple_tuple
   have f3 := AutoSeq1.sub_list_list
   have f4 := AutoSeq1.sub_tuple_list
   have f5 := AutoSeq1.sub_list_tuple
   have hz : (xs ++ ys).size <= sizeLine + 1 := by
     rw [Array.size_append]
     exact hy
   wp_walk using (wpAny_updateSeq hl rfl (hz := hx) (_hz' := hz)), wpAny_loadPart' hl, wpAny_loadPart' hb
   exact ⟨_, rfl, h⟩
def akf (K : Q.n) : V -> List V -> Hp -> VK -> Prop := fun x vs H Q => ∃ l q xs zs, x = .ref l /\ vs = [.ref q] /\ H l = some (.lst xs) /\ qT K H q zs /\ xs.length + zs.length <= sizeLine /\ Q .non (upd H l (.lst (xs ++ zs)))
theorem abC : MtM X "list.extend" (akf X.K) := by
 intro pins s σ H x vs v us Q I rx rv h
 obtain ⟨l, q, xs, zs, rfl, rfl, hH, hB, hz, k⟩ := h
 cases rx
 obtain ⟨u, rfl, ru⟩ := rv.one
 cases ru
 obtain ⟨z, its, n, r, hl, e⟩ := I.VQ hH
 obtain ⟨sU, r2, ⟨⟨c2, d2, da2, s2⟩, n2, e2, hc2, _, hd2⟩, z2⟩ := I.list hB
 cases hc2
 cases hd2
 have hl2 := r2.length
 have Vc : its.toArray.size + sU.toArray.size <= sizeLine := by
   rw [ar7, ar7]
   omega
 have C1 : ¬ (!its.toArray.isEmpty && Builtin.List.listTooLong (its.toArray.size + sU.toArray.size)) = true := by
   rw [yb Vc, atW]
   decide
 refine call_meets F.slot_list_extend ⟨_, e, rfl⟩ F.entry_list_extend (F.args_list_extend_2 _ _) (WL l q its.toArray sU.toArray n n2 d2 s2 C1 (by rw [ar7]; omega) Q.a) ⟨e, e2, ?_⟩
 refine ⟨.non, _, I.aaO (its' := its ++ sU) hH e Q.p (r.append r2) ?_, rfl, k⟩
 rw [arY]
 omega
variable {ds : List D}
theorem cA.WM (S : Q.ab) (hr : aK K CL Z ds us) (hi : δ[i]? = some (some (.pin y (.lst tl)))) :
   ∃ ws, σ[i]? = some (some (.ref y)) /\ H y = some (.lst ws) /\ ws.length = tl.length /\ cA K CL b (upd H y (.lst (ws ++ us))) Z (δ.set i (some (.pin y (.lst (tl ++ ds.map T.sh))))) σ ts vs := by
 obtain ⟨hv, S1⟩ := S.aey hi
 have hl : i < δ.length := by
   rcases Nat.lt_or_ge i δ.length with h | h
   . exact h
   . rw [ata h] at hi; cases hi
 obtain ⟨a, ws, ea, ha, hu, S2⟩ := S1.Ry hr (as4 hl)
 rw [hv] at ea
 cases ea
 refine ⟨ws, hv, ha, hu, ?_⟩
 have := S2.akd (y := y) (List.getElem?_set_self (by simpa using hl)) hv
 rwa [List.set_set, List.set_set] at this
section
variable {ds : Q.k} {D : i7}
theorem abD (n : Vn X i x) (h0 : δ[i]? = some (some (.pin y (.lst tl0)))) (h : Q.bm) (him : L3.D.bQ ds = true) (h1 : δ1[i]? = some (some (.pin y (.lst tl)))) (hl : tl.length + ds.length <= 1000000) (k : ic X CL b kX (δ1.set i (some (.pin y (.lst (tl ++ ds.map T.sh))))) D)
   (qq : Q.cg := by rfl)
   (CZ : Q.bE := by rfl)
   (hline : (pa.endLine == pb.line) = true := by rfl) (hs : Q.R := by exact bK rfl)
   (Hy : swapsWith Q.bB none pos.line X.env = pure false := by rfl) :
   ic X CL b (.Expr Q.bB pos :: kX) δ D := fh fun H Z σ ts vs E S M =>
 z8 (BD (Rl atL auc aud abC (mq n.hi n.hv n.hd n.qS) Q.af qq CZ hline hs rfl) Hy) (by
   obtain ⟨v0, e0, r0⟩ := S.look h0
   refine ⟨v0, e0, ?_, ?_⟩
   . rw [T.dJ, T.dJ] at r0
     cases r0 with
     | lst hq _ => exact .inl ⟨rfl, _, hq⟩
   . refine h H Z σ ts vs _ S fun v H1 Z1 z1 k1 S1 r => ?_
     cases r with
     | lst hq rr =>
       obtain ⟨ws, ea, ha, hu, S2⟩ := S1.WM (aK.pM S1.tp him rr) h1
       rw [e0] at ea
       cases ea
       have hz := rr.length
       exact ⟨_, _, ws, _, rfl, rfl, ha, hq, by rw [hu, ← hz]; exact asu (ath hl (by rw [as5]; decide)), M.nx _ σ _ Z1 z1 S2 k⟩)
end
theorem ago {o1 o2 o3 : Q.L} {d1 d2 d3 : L3.D} {p : T} : Keeps (o1 :: o2 :: o3 :: some p :: δ) [.sh d1, .sh d2, .sh d3, p] := fun j y t h => by
 match j, h with
 | 3, h => cases h; rfl
inductive Stp where
 | ix (j : Nat) | fld (f : Str)
def agp {α : Type} : Nat -> (List α -> Prop) -> Prop
 | 0, P => P []
 | n + 1, P => ∀ a, agp n fun r => P (a :: r)
theorem xq {P : List α -> Prop} (h : agp n P) : ∀ us : List α, us.length = n -> P us := by
 intro us hl
 induction us generalizing n P with
 | nil => subst hl; exact h
 | cons a r ih => subst hl; exact ih (P := fun r => P (a :: r)) (h a) rfl
abbrev jK (K : Q.n) (x : Str) (f : Addr) : Prop := PySem.W.nsIn K mainGlobals x = some (some (.ref f))
theorem agq (P : Program) (w : World) (mg : Q.J) (base : Heap) {K : Q.n} {h : Heap} (CL : Q.e) (XX : K.In h) (G : h.Ns mainGlobals mg) {x qual : Str} {st : Stmt} {f : Addr} {fd : FuncData} {N ps : Q.h} (k : Nat) {A : Type} (arg : A -> List D) (Pre : A -> Prop) (res : A -> T) (F : iN K x qual st f fd) (S : aH N ps (ak st)) (m : jK K x f)
   (hb : ∀ (mj : Value) (Ar : Around) (outer : List Env) (s : Shared) (H : Hp) (E : XK) (b : Bx) (a : A), ig k (Ar.deeper Q.bK) -> bP (CY wY P w K mg base N qual (ak st) f mj Ar outer s H E).nox -> Pre a →
     ic (CY wY P w K mg base N qual (ak st) f mj Ar outer s H E).nox CL b (g5 st) (entry N (arg a)) { nx := fun _ => res a = .sh .non, rt := fun t _ => t = res a })
   (q : ∀ (kV doc pm : Value) (an : Option Addr) (mj ct : Value), agp ps.length fun us => bindArgs (W.fnOf x qual (yc st) (g5 st) (ak st) Value.none kV doc pm an mj ct) { pos := us } = pure (ps.zip us) := by (repeat intro _); rfl) :
   ∃ f fd ps', iM P w K mg base wY (k + 1) f fd ps' (Oo K CL ps.length arg Pre res) /\ mg x = some (.ref f) /\ PySem.W.keepIn K (.ref f) = true /\ Binds K fd ps' [] := ⟨f, fd, ps, BH F S fun a b c d e f g h r p => hb a b c d e f g h r ⟨⟨S.nd, rfl, .never⟩, r.units⟩ p, asV XX G m, F.kp, F.binds fun a b c d e f => xq (q a b c d e f)⟩
end L3
namespace Law
open PySem L2 L3
def top (i : Nat) : Stmt := PySem.Challenge.pw_moodtree_k42_whole_moves_walked_back.main.body.getD i (.Pass ⟨0, 0, 0, 0⟩)
def Bp : Nat -> List Int -> Int -> List Int
 | 0, _, _ => []
 | n + 1, es, k => if k = -1 then [] else k :: Bp n es (es.getD k.toNat 0)
def bD (es : Q.b) (m : Int) : List Int := Bp (es.length + 1) es (es.getD m.toNat 0)
def dD (es : Q.b) : Prop := ∀ k : Nat, k < es.length -> -1 <= es.getD k 0 /\ es.getD k 0 < k
variable {es : Q.b} {k : Int}
theorem dD.at (h : dD es) (h0 : 0 <= k) (h1 : k < es.length) : -1 <= es.getD k.toNat 0 /\ es.getD k.toNat 0 < k := by
 have := h k.toNat Q.a
 omega
def ek (ks : Q.h) (es ss : Q.b) : L3.D := .ins "Tree" [("kinds", .lst (ks.map .str)), ("elders", .lst Q.P), ("starts", .lst (ss.map .int))]
variable {ks : Q.h} {ss : Q.b}
theorem nI : List.lookup ("kinds" : Str) [(("kinds" : Str), L3.D.lst (ks.map .str)), ("elders", .lst Q.P), ("starts", .lst (ss.map .int))] = some (.lst (ks.map .str)) := oF
theorem oH : List.lookup ("elders" : Str) [(("kinds" : Str), L3.D.lst (ks.map .str)), ("elders", .lst Q.P), ("starts", .lst (ss.map .int))] = some (.lst Q.P) := by
 rw [fq Q.d, oF]
theorem Lh : List.lookup ("starts" : Str) [(("kinds" : Str), L3.D.lst (ks.map .str)), ("elders", .lst Q.P), ("starts", .lst (ss.map .int))] = some (.lst (ss.map .int)) := by
 rw [fq Q.d, fq Q.d, oF]
theorem fJ (ds : Q.k) : T.dJ (.lst (ds.map T.sh)) = .lst ds := by rw [T.dJ, eV]
theorem aU (l : Q.b) : (T.lst ((l.map L3.D.int).map T.sh)).clean = true := by rw [fV]; exact jI _
theorem Dh (l : Q.h) : (T.lst ((l.map L3.D.str).map T.sh)).clean = true := by
 rw [fV]
 induction l with
 | nil => rfl
 | cons x l ih => exact ih
def tL (ks : Q.h) (es ss : Q.b) : List Q.A := [("kinds", .lst ((ks.map .str).map T.sh)), ("elders", .lst ((es.map .int).map T.sh)), ("starts", .lst ((ss.map .int).map T.sh))]
theorem T5 (ks : Q.h) (es ss : Q.b) : T.dJ (.ins "Tree" (tL ks es ss)) = ek ks es ss := by
 unfold tL
 rw [T.dJ, T.wg, T.wg, T.wg, T.wg, fJ, fJ, fJ]
 rfl
theorem A1 (ks : Q.h) (es ss : Q.b) : T.cz (tL ks es ss) = true := by
 unfold tL
 rw [T.cz, T.cz, T.cz, T.cz, Dh, aU, aU]
 rfl
theorem RA {es : Q.b} (h : dD es) : ∀ (n : Nat) {k x : Int}, -1 <= k -> k < es.length -> x ∈ Bp n es k -> 0 <= x /\ x <= k
 | 0, k, x, _, _, hx => by rw [Bp] at hx; cases hx
 | n + 1, k, x, h0, h1, hx => by
   rw [Bp] at hx
   split at hx
   . cases hx
   . rename_i hk
     have ha := h.at (k := k) Q.a h1
     rcases arP.mp hx with rfl | hx
     . omega
     . have := RA h n Q.a Q.a hx
       omega
theorem Di {es : Q.b} (h : dD es) : ∀ (a b : Nat) {k : Int}, -1 <= k -> k < es.length -> k < a -> k < b -> Bp a es k = Bp b es k
 | 0, 0, _, _, _, _, _ => rfl
 | 0, b + 1, k, h0, _, ha, _ => by
   rw [Bp, Bp, arU Q.a]
 | a + 1, 0, k, h0, _, _, hb => by
   rw [Bp, Bp, arU Q.a]
 | a + 1, b + 1, k, h0, h1, ha, hb => by
   rw [Bp, Bp]
   split
   . rfl
   . have hk := h.at (k := k) Q.a h1
     rw [Di h a b hk.1 Q.a Q.a Q.a]
variable {m : Int}
theorem cZ (h : dD es) (h0 : 0 <= m) (h1 : m < es.length) : bD es m = if es.getD m.toNat 0 = -1 then [] else es.getD m.toNat 0 :: bD es (es.getD m.toNat 0) := by
 have hm := h.at h0 h1
 unfold bD
 rw [Bp]
 split
 . rfl
 . rename_i hk
   have hk2 := h.at (k := es.getD m.toNat 0) Q.a Q.a
   rw [Di h es.length (es.length + 1) hk2.1 Q.a Q.a Q.a]
variable {x : Int}
theorem bA (h : dD es) (h0 : 0 <= m) (h1 : m < es.length) (hx : x ∈ bD es m) : 0 <= x /\ x < m /\ x < es.length := by
 have hm := h.at h0 h1
 have := RA h _ hm.1 Q.a hx
 omega
theorem qw {es : Q.b} (h : dD es) : ∀ (n : Nat) {m x : Int}, 0 <= m -> m < es.length -> m < n -> x ∈ bD es m -> ∃ pre, bD es m = pre ++ x :: bD es x /\ ∀ y ∈ pre, y ∈ bD es m /\ x ∈ bD es y
 | 0, m, x, h0, _, hn, _ => by omega
 | n + 1, m, x, h0, h1, hn, hx => by
   have hm := h.at h0 h1
   have e := cZ h h0 h1
   generalize hq : es.getD m.toNat 0 = k at hm e
   by_cases hk : k = -1
   . rw [e, arU hk] at hx; cases hx
   . rw [arS hk] at e
     rw [e] at hx
     rcases arP.mp hx with rfl | hx
     . exact ⟨[], by rw [e]; rfl, fun y hy => by cases hy⟩
     . obtain ⟨pre, p1, p2⟩ := qw h n (m := k) Q.a Q.a Q.a hx
       refine ⟨k :: pre, by rw [e, p1]; rfl, fun y hy => ?_⟩
       rcases arP.mp hy with rfl | hy
       . exact ⟨by rw [e]; exact arK, hx⟩
       . exact ⟨by rw [e]; exact arO _ (p2 y hy).1, (p2 y hy).2⟩
variable {y : Int}
theorem jL (h : dD es) (h0 : 0 <= m) (h1 : m < es.length) (hx : x ∈ bD es m) (hy : y ∈ bD es x) : y ∈ bD es m := by
 obtain ⟨pre, p1, _⟩ := qw h (m.toNat + 1) h0 h1 Q.a hx
 rw [p1]
 exact arQ _ (arO _ hy)
theorem q8 (h : dD es) (h0 : 0 <= m) (h1 : m < es.length) (hx : x ∈ bD es m) (hy : y ∈ bD es m) : x = y \/ x ∈ bD es y \/ y ∈ bD es x := by
 obtain ⟨pre, p1, p2⟩ := qw h (m.toNat + 1) h0 h1 Q.a hx
 rw [p1] at hy
 rcases arV.mp hy with hy | hy
 . exact .inr (.inl (p2 y hy).2)
 . rcases arP.mp hy with e | hy
   . exact .inl e.symm
   . exact .inr (.inr hy)
theorem xr {es : Q.b} (h : dD es) : ∀ (n : Nat) {m : Int}, 0 <= m -> m < es.length -> m < n -> (bD es m).Pairwise (fun a b => b < a)
 | 0, m, h0, _, hn => by omega
 | n + 1, m, h0, h1, hn => by
   have hm := h.at h0 h1
   rw [cZ h h0 h1]
   split
   . exact .nil
   . rename_i hk
     have hs := xr h n (m := es.getD m.toNat 0) Q.a Q.a Q.a
     refine asB.mpr ⟨fun x hx => ?_, hs⟩
     have := bA h (m := es.getD m.toNat 0) Q.a Q.a hx
     omega
theorem Gr (h : dD es) (h0 : 0 <= m) (h1 : m < es.length) (hk : es.getD m.toNat 0 ≠ -1) : es.getD m.toNat 0 ∈ bD es m := by
 rw [cZ h h0 h1, arS hk]
 exact arK
def jW (es : Q.b) : Prop := dD es /\ ∀ k : Nat, k + 1 < es.length -> es.getD (k + 1) 0 = k \/ es.getD (k + 1) 0 ∈ bD es k
theorem jW.down (h : jW es) {k : Nat} (hk : k + 1 < es.length) (hx : x ∈ bD es ((k + 1 : Nat) : Int)) : x = k \/ x ∈ bD es k := by
 have e := cZ h.1 (m := ((k + 1 : Nat) : Int)) Q.a Q.a
 rw [arT] at e
 have hp := h.2 k hk
 rw [e] at hx
 split at hx
 . cases hx
 . rename_i qm
   rcases arP.mp hx with hx | hx
   . rcases hp with hp | hp
     . exact .inl (hx.trans hp)
     . rw [hx]; exact .inr hp
   . rcases hp with hp | hp
     . rw [hp] at hx; exact .inr hx
     . exact .inr (jL h.1 Q.a Q.a hp hx)
def bZ (es : Q.b) (u m : Int) : List Int := (m :: (bD es m).takeWhile Q.bc).reverse
variable {u : Int}
theorem Bq (h : dD es) (h0 : 0 <= m) (h1 : m < es.length) (hu : u ∈ bD es m) (hx : x ∈ (bD es m).takeWhile Q.bc) : u ∈ bD es x := by
 obtain ⟨pre, p1, p2⟩ := qw h (m.toNat + 1) h0 h1 Q.a hu
 rw [p1] at hx
 have ne : ∀ y ∈ pre, decide (y ≠ u) = true := fun y hy => by
   have := bA h (m := y) (by have := bA h h0 h1 (p2 y hy).1; omega) (by have := bA h h0 h1 (p2 y hy).1; omega) (p2 y hy).2
   simp; omega
 have : (pre ++ u :: bD es u).takeWhile Q.bc = pre := by
   rw [atX ne, List.takeWhile_cons, arS Q.p, asj]
 rw [this] at hx
 exact (p2 x hx).2
def HK (bw : Q.w) (es : Q.b) (a b : Int) : Int := ((bD es a).find? (fun x => bw x && decide (x ∈ bD es b))).getD (-1)
theorem Dj {α : Type} {p : α -> Bool} : ∀ {l : List α} {x : α}, l.find? p = some x -> ∃ pre suf, l = pre ++ x :: suf /\ p x = true /\ ∀ y ∈ pre, p y = false
 | [], _, h => by cases h
 | y :: l, x, h => by
   rw [List.find?_cons] at h
   cases e : p y with
   | true =>
     rw [e] at h
     cases h
     exact ⟨[], l, rfl, e, fun z hz => by cases hz⟩
   | false =>
     rw [e] at h
     obtain ⟨pre, suf, h1, h2, h3⟩ := Dj h
     refine ⟨y :: pre, suf, by rw [h1]; rfl, h2, fun z hz => ?_⟩
     rcases arP.mp hz with rfl | hz
     . exact e
     . exact h3 z hz
def akg (bw : Q.w) (es : Q.b) (a b t : Int) : Prop :=
 (t = -1 /\ ∀ x ∈ bD es a, x ∈ bD es b -> bw x = false) \/ (t ∈ bD es a /\ t ∈ bD es b /\ bw t = true /\ ∀ x ∈ bD es a, x ∈ bD es b -> bw x = true -> x = t \/ x ∈ bD es t)
variable {bw : Q.w}
theorem RB (h : dD es) {a b : Int} (h0 : 0 <= a) (h1 : a < es.length) : akg bw es a b (HK bw es a b) := by
 unfold HK
 cases e : (bD es a).find? (fun x => bw x && decide (x ∈ bD es b)) with
 | none =>
   refine .inl ⟨rfl, fun x hx hy => ?_⟩
   have := List.find?_eq_none.mp e x hx
   simpa [hy] using this
 | some t =>
   obtain ⟨pre, suf, p1, p2, p3⟩ := Dj e
   have ht : t ∈ bD es a := by rw [p1]; simp
   rw [asa, asI] at p2
   refine .inr ⟨ht, p2.2, p2.1, fun x hx hy ho => ?_⟩
   show x = t \/ x ∈ bD es t
   rcases q8 h h0 h1 hx ht with c | c | c
   . exact .inl c
   . exact .inr c
   . exfalso
     have hs := xr h (a.toNat + 1) h0 h1 Q.a
     rw [p1] at hx hs
     have ta := bA h h0 h1 ht
     have xa : t < x := by
       have hx' : x ∈ bD es a := by rw [p1]; exact hx
       have xm := bA h h0 h1 hx'
       exact (bA h (m := x) Q.a Q.a c).2.1
     rcases arV.mp hx with hx | hx
     . have := p3 x hx
       rw [ho, asK hy] at this
       cases this
     . rcases arP.mp hx with e2 | hx
       . omega
       . have := (asB.mp (atE.mp hs).2.1).1 x hx
         omega
theorem RC {es : Q.b} {x : Int} (h : dD es) : ∀ (n : Nat) {k : Int}, -1 <= k -> k < es.length -> Bp n (es ++ [x]) k = Bp n es k
 | 0, _, _, _ => rfl
 | n + 1, k, h0, h1 => by
   rw [Bp, Bp]
   split
   . rfl
   . have hk := h.at (k := k) Q.a h1
     have e : (es ++ [x]).getD k.toNat 0 = es.getD k.toNat 0 := by
       rw [arM, at7 Q.a, ← arM]
     rw [e, RC h n hk.1 Q.a]
theorem Dk {k : Nat} (h : k < es.length) : (es ++ [x]).getD k 0 = es.getD k 0 := by
 rw [arM, at7 h, ← arM]
theorem HL (h : dD es) (h0 : 0 <= m) (h1 : m < es.length) : bD (es ++ [x]) m = bD es m := by
 have hm := h.at h0 h1
 unfold bD
 rw [Dk Q.a, RC h _ hm.1 Q.a, Di h _ (es.length + 1) hm.1 Q.a (by rw [arY]; omega) Q.a]
theorem dD.snoc (h : dD es) (h0 : -1 <= x) (h1 : x < es.length) : dD (es ++ [x]) := fun k hk => by
 rw [arY] at hk
 simp only [ar8, List.length_nil] at hk
 by_cases e : k < es.length
 . rw [Dk e]
   exact h k e
 . have : k = es.length := by omega
   subst this
   rw [arM, atl (ar5 _)]
   simp
   omega
theorem jW.snoc (h : jW es) {k : Nat} (hk : k + 1 = es.length) (hx : x = k \/ x ∈ bD es k) : jW (es ++ [x]) := by
 have hx' : -1 <= x /\ x < es.length := by
   rcases hx with e | e
   . omega
   . have := bA h.1 (m := (k : Int)) Q.a Q.a e
     omega
 refine ⟨h.1.snoc hx'.1 hx'.2, fun j hj => ?_⟩
 rw [arY] at hj
 simp only [ar8, List.length_nil] at hj
 rw [HL h.1 Q.a Q.a]
 by_cases e : j + 1 < es.length
 . rw [Dk e]
   exact h.2 j e
 . have : j = k := by omega
   subst this
   have e2 : (es ++ [x]).getD Q.l 0 = x := by
     rw [arM, atl Q.a, hk, Nat.sub_self]
     rfl
   rw [e2]
   exact hx
structure abE (es : Q.b) (m : Int) (L : Nat) : Prop where
 le : m + 1 + L <= es.length
 iff : ∀ i : Nat, i < es.length -> ((m = -1 \/ m ∈ bD es i) ↔ m < i /\ (i : Int) < m + 1 + L)
 eld : ∀ i : Nat, m < i -> (i : Int) < m + 1 + L -> m <= es.getD i 0
 beh : m + 1 + L = es.length \/ es.getD (m + 1 + L).toNat 0 < m
theorem OQ (h : jW es) (h0 : -1 <= m) (h1 : m < es.length) : ∃ L, abE es m L := by
 by_cases hm : m = -1
 . subst hm
   refine ⟨es.length, by omega, fun i hi => ⟨fun _ => by omega, fun _ => .inl rfl⟩, fun i hi hi2 => (h.1 i Q.a).1, .inl Q.a⟩
 . have h0 : 0 <= m := by omega
   have wlt : ∀ i : Nat, i < es.length -> m ∈ bD es i -> m < i := fun i hi hx => (bA h.1 Q.a Q.a hx).2.1
   have go : ∀ (r L : Nat), m + 1 + L + r = es.length -> (∀ i : Nat, m < i -> (i : Int) < m + 1 + L -> m ∈ bD es i) -> ∃ L' : Nat, m + 1 + L' <= es.length /\ (∀ i : Nat, m < i -> (i : Int) < m + 1 + L' -> m ∈ bD es i) /\ (m + 1 + L' = es.length \/ m ∉ bD es (m + 1 + L')) := by
     intro r
     induction r with
     | zero => intro L e hL; exact ⟨L, by omega, hL, .inl Q.a⟩
     | succ r ih =>
       intro L e hL
       by_cases hw : m ∈ bD es (m + 1 + L)
       . refine ih (L + 1) Q.a fun i hi1 hi2 => ?_
         by_cases hi : (i : Int) < m + 1 + L
         . exact hL i hi1 hi
         . have : (i : Int) = m + 1 + L := by omega
           rw [this]; exact hw
       . exact ⟨L, by omega, hL, .inr hw⟩
   obtain ⟨L, hL1, hL2, hL3⟩ := go (es.length - (m.toNat + 1)) 0 Q.a (fun i hi1 hi2 => by omega)
   have out : ∀ (r i : Nat), (i : Int) = m + 1 + L + r -> i < es.length -> m ∉ bD es i := by
     intro r
     induction r with
     | zero =>
       intro i hi wk hx
       rcases hL3 with e | e
       . omega
       . rw [show (i : Int) = m + 1 + L by omega] at hx
         exact e hx
     | succ r ih =>
       intro i hi wk hx
       obtain ⟨j, rfl⟩ : ∃ j, i = j + 1 := ⟨i - 1, by omega⟩
       rcases h.down wk hx with e | e
       . omega
       . exact ih j Q.a Q.a e
   refine ⟨L, hL1, fun i hi => ⟨fun hw => ?_, fun ⟨a, c⟩ => .inr (hL2 i a c)⟩, fun i hi1 hi2 => ?_, ?_⟩
   . have hx := hw.resolve_left hm
     have := wlt i hi hx
     refine ⟨this, ?_⟩
     by_cases hc : (i : Int) < m + 1 + L
     . exact hc
     . exact absurd hx (out (i - (m.toNat + 1 + L)) i Q.a hi)
   . have hx := hL2 i hi1 hi2
     have hi : i < es.length := by omega
     have e := cZ h.1 (m := (i : Int)) Q.a Q.a
     rw [arT] at e
     rw [e] at hx
     split at hx
     . cases hx
     . rename_i qm
       have hk := h.1 i hi
       rcases arP.mp hx with e2 | hx
       . omega
       . have := bA h.1 (m := es.getD i 0) Q.a Q.a hx
         omega
   . by_cases anc : m + 1 + L = es.length
     . exact .inl anc
     . refine .inr ?_
       obtain ⟨j, hj⟩ : ∃ j : Nat, (j : Int) = m + L := ⟨(m + L).toNat, by omega⟩
       have hj1 : j + 1 < es.length := by omega
       have nw : m ∉ bD es ((j + 1 : Nat) : Int) := out 0 Q.l Q.a hj1
       have wj : m = j \/ m ∈ bD es j := by
         by_cases e : m = j
         . exact .inl e
         . exact .inr (hL2 j Q.a Q.a)
       have et : (m + 1 + L).toNat = j + 1 := by omega
       rw [et]
       have e := cZ h.1 (m := ((j + 1 : Nat) : Int)) Q.a Q.a
       rw [arT] at e
       have hk := h.1 Q.l hj1
       by_cases hk1 : es.getD Q.l 0 = -1
       . omega
       . rw [arS hk1] at e
         rw [e] at nw
         have n1 : m ≠ es.getD Q.l 0 := fun z => nw (by rw [← z]; exact arK)
         have n2 : m ∉ bD es (es.getD Q.l 0) := fun z => nw (arO _ z)
         rcases h.2 j hj1 with z | z
         . rw [z] at n1 n2
           rcases wj with w | w
           . exact absurd w n1
           . exact absurd w n2
         . rcases wj with w | w
           . have := bA h.1 (m := (j : Int)) Q.a Q.a z
             omega
           . rcases q8 h.1 (m := (j : Int)) Q.a Q.a w z with c | c | c
             . exact absurd c n1
             . exact absurd c n2
             . have := bA h.1 (m := m) Q.a Q.a c
               omega
theorem BU : ∀ (n : Nat) (es : Q.b) (k : Int), (Bp n es k).length <= n
 | 0, _, _ => ar5 _
 | n + 1, es, k => by
   rw [Bp]
   split
   . exact asr _
   . exact Nat.succ_le_succ (BU n es _)
def aZ (ks : Q.h) (x : Int) : Bool := decide (ks.getD x.toNat Str.empty = "one")
def gf (es : Q.b) (m : Int) : List Int := ((List.range es.length).filter (fun (i : Nat) => decide (es.getD i 0 = m))).map (fun (i : Nat) => (i : Int))
theorem WN (es : Q.b) (m : Int) : (((List.range es.length).map fun (i : Nat) => L3.D.tup [.int i, .int (es.getD i 0)]).filter (fun d => decide (d.at2.AV = m))).map (fun d => T.sh d.at1) = ((gf es m).map L3.D.int).map T.sh := by
 unfold gf
 rw [atf, asn, asn, asn]
 rfl
theorem HM (es : Q.b) (m : Int) : (gf es m).length <= es.length := by
 unfold gf
 rw [arL]
 exact asD (asZ _ _) Q.p
theorem kY (h : x ∈ gf es m) : 0 <= x /\ x < es.length /\ es.getD x.toNat 0 = m := by
 unfold gf at h
 obtain ⟨i, hi, rfl⟩ := ase.mp h
 obtain ⟨h1, h2⟩ := asf.mp hi
 have h1 := atv.mp h1
 have h2 := ar0 h2
 exact ⟨by omega, by omega, by rw [arT]; exact h2⟩
theorem rg (h0 : 0 <= x) (h1 : x < es.length) (h2 : es.getD x.toNat 0 = m) : x ∈ gf es m := by
 unfold gf
 refine List.mem_map.mpr ⟨x.toNat, List.mem_filter.mpr ⟨List.mem_range.mpr Q.a, by simpa using h2⟩, by omega⟩
theorem Dl (es : Q.b) (m : Int) : (gf es m).Pairwise (· < ·) := by
 unfold gf
 refine List.Pairwise.map _ (fun a b h => ?_) (at0 _ List.pairwise_lt_range)
 exact Int.ofNat_lt.mpr h
def Li (s : Q.b) (k : Int) : Int := if s.length = 0 then k else s.getD (k % (s.length : Nat)).toNat 0 % 1000000007 / (1 + k / (s.length : Nat)) + k / (s.length : Nat) * k
def T6 (es : Q.b) (m : Int) (n : Nat) : Int := (m :: bD es m).getD n 0
theorem Lj {es : Q.b} (h : dD es) : ∀ (f : Nat) {m : Int} {n : Nat}, 0 <= m -> m < es.length -> m < f -> n < (bD es m).length -> (0 <= T6 es m n /\ T6 es m n < es.length) /\ es.getD (T6 es m n).toNat 0 = T6 es m (n + 1)
 | 0, m, n, h0, _, hf, _ => by omega
 | f + 1, m, n, h0, h1, hf, hn => by
   have hm := h.at h0 h1
   have e := cZ h h0 h1
   generalize hq : es.getD m.toNat 0 = k at hm e
   by_cases hk : k = -1
   . rw [e, arU hk] at hn; cases hn
   . rw [arS hk] at e
     cases n with
     | zero =>
       unfold T6
       refine ⟨⟨h0, h1⟩, ?_⟩
       rw [e]
       exact hq
     | succ n =>
       rw [e, ar8] at hn
       have ih := Lj h f (m := k) (n := n) Q.a Q.a Q.a Q.a
       unfold T6 at ih ⊢
       rw [e]
       exact ih
variable {n : Nat}
theorem RD (hn : n <= (bD es m).length) : T6 es m n = m \/ T6 es m n ∈ bD es m := by
 cases n with
 | zero => exact .inl rfl
 | succ n =>
   refine .inr ?_
   unfold T6
   show (bD es m).getD n 0 ∈ _
   rw [arM, arZ Q.a]
   exact atn _
def Dm (n : Int) (es : Q.b) (j : Nat) : Int := if n % 3 = 0 then (if 2 < ((bD es j).length : Int) + 1 then 2 else ((bD es j).length : Int) + 1) else ((bD es j).length : Int) + 1
def eUp (s : Q.b) (n : Int) (es : Q.b) (j : Nat) : Int := if ((bD es j).length : Int) = 12 then (if 1 > Li s (1 + (j : Int)) % Dm n es j then 1 else Li s (1 + (j : Int)) % Dm n es j) else Li s (1 + (j : Int)) % Dm n es j
theorem WO (n : Int) (es : Q.b) (j : Nat) : 0 < Dm n es j /\ Dm n es j <= ((bD es j).length : Int) + 1 := by
 unfold Dm
 split
 . split <;> omega
 . omega
theorem ags (s : Q.b) (n : Int) (es : Q.b) (j : Nat) : 0 <= eUp s n es j /\ eUp s n es j <= ((bD es j).length : Int) := by
 obtain ⟨h1, h2⟩ := WO n es j
 have a := asd (Li s (1 + (j : Int))) (b := Dm n es j) Q.a
 have b := ar3 (Li s (1 + (j : Int))) h1
 unfold eUp
 split
 . split <;> omega
 . omega
def elL (s : Q.b) (n : Int) : Nat -> List Int
 | 0 => [-1]
 | j + 1 => elL s n j ++ [T6 (elL s n j) j (eUp s n (elL s n j) j).toNat]
theorem agt (s : Q.b) (n : Int) : ∀ j, (elL s n j).length = j + 1 /\ jW (elL s n j)
 | 0 => ⟨rfl, ⟨fun k hk => by
     have : (elL s n 0).length = 1 := rfl
     have : k = 0 := by omega
     subst this
     exact ⟨Int.le_refl _, show (-1 : Int) < ((0 : Nat) : Int) by decide⟩, fun k hk => by
     have : (elL s n 0).length = 1 := rfl
     omega⟩⟩
 | j + 1 => by
   obtain ⟨h1, h2⟩ := agt s n j
   refine ⟨by show (elL s n j ++ _).length = _; rw [arY, h1]; rfl, ?_⟩
   have hu := ags s n (elL s n j) j
   exact h2.snoc h1.symm (RD Q.a)
def BV (es : Q.b) (n : Nat) : List Int := (List.range n).map fun (i : Nat) => ((bD es i).length : Int)
theorem OS (es : Q.b) {i : Nat} (h : i < n) : (BV es n).getD i 0 = ((bD es i).length : Int) := by
 unfold BV
 rw [arM, asA, as8 h]
 rfl
theorem getD_snoc : (es ++ [x]).getD es.length 0 = x := by
 rw [arM, atl (ar5 _), Nat.sub_self]
 rfl
theorem WQ (h : dD es) (h0 : 0 <= x) (h1 : x < es.length) : bD (es ++ [x]) es.length = x :: bD es x := by
 have h' := h.snoc (x := x) Q.a h1
 rw [cZ h' (m := (es.length : Int)) Q.a (by rw [arY]; simp; omega), arT, getD_snoc, arS Q.a, HL h h0 h1]
theorem WR (h : dD es) (h0 : 0 <= x) (h1 : x < es.length) : BV (es ++ [x]) (es.length + 1) = BV es es.length ++ [((bD es x).length : Int) + 1] := by
 unfold BV
 rw [atg, ash]
 congr 1
 . apply ate
   intro i hi
   have : i < es.length := atv.mp hi
   rw [HL h Q.a Q.a]
 . show [((bD (es ++ [x]) (es.length : Nat)).length : Int)] = _
   rw [WQ h h0 h1, ar8]
   simp
def cu (isAll : Q.w) (es ch : Q.b) : Nat -> List Int
 | 0 => [0]
 | j + 1 => if es.getD Q.l 0 ∈ cu isAll es ch j /\ (isAll (es.getD Q.l 0) = true \/ ch.getD (es.getD Q.l 0).toNat 0 = ((j + 1 : Nat) : Int)) then cu isAll es ch j ++ [((j + 1 : Nat) : Int)] else cu isAll es ch j
theorem fz {isAll : Q.w} {es ch : Q.b} : ∀ (j : Nat) {x : Int}, x ∈ cu isAll es ch j -> 0 <= x /\ x <= j
 | 0, x, h => by
   have : x = 0 := by simpa [cu] using h
   omega
 | j + 1, x, h => by
   rw [cu] at h
   split at h
   . rcases arV.mp h with h | h
     . have := fz j h
       omega
     . have : x = ((j + 1 : Nat) : Int) := by simpa using h
       omega
   . have := fz j h
     omega
theorem oJ {isAll : Q.w} {es ch : Q.b} : ∀ (j : Nat), (cu isAll es ch j).length <= j + 1
 | 0 => ar5 _
 | j + 1 => by
   have := oJ (isAll := isAll) (es := es) (ch := ch) j
   rw [cu]
   split
   . rw [arY, as9]; omega
   . omega
def aq (ks : Q.h) (x : Int) : Bool := decide (ks.getD x.toNat Str.empty = "all")
theorem agu {k : Nat} (h : (k : Int) ∈ es) : gf es k ≠ [] := fun z => by
 obtain ⟨i, hi, e⟩ := List.getElem_of_mem h
 have : (i : Int) ∈ gf es k := rg Q.a Q.a (by rw [arT, arM, arZ hi]; exact e)
 rw [z] at this
 cases this
def WT (ks : Q.h) (es : Q.b) : Prop := ∀ k : Nat, k < es.length -> ks.getD k Str.empty = "one" -> gf es k ≠ []
def aR (ks : Q.h) (x : Int) : Bool := decide (ks.getD x.toNat Str.empty = "leaf")
def pQ (bw : Q.w) (es dS acc : Q.b) (m : Int) : List Int := if es.getD m.toNat 0 ∈ dS /\ bw (es.getD m.toNat 0) = true then acc.set (es.getD m.toNat 0).toNat m else acc
def NW (bw : Q.w) (es dS acc ops : Q.b) : List Int := ops.foldl (pQ bw es dS) acc
theorem BW (bw : Q.w) (es dS : Q.b) : ∀ (ops acc : Q.b), (NW bw es dS acc ops).length = acc.length
 | [], acc => rfl
 | m :: ops, acc => by
   show (NW bw es dS (pQ bw es dS acc m) ops).length = _
   rw [BW bw es dS ops]
   unfold pQ
   split
   . rw [asU]
   . rfl
theorem WU (bw : Q.w) (es dS acc ops : Q.b) (m : Int) : NW bw es dS acc (ops ++ [m]) = pQ bw es dS (NW bw es dS acc ops) m := by
 unfold NW
 rw [ati]
 rfl
def setStep (bw : Q.w) (ch acc : Q.b) (m : Int) : List Int := if bw m = true then acc.set m.toNat (ch.getD m.toNat 0) else acc
def T7 (bw : Q.w) (ch acc some : Q.b) : List Int := some.foldl (setStep bw ch) acc
theorem Dn (bw : Q.w) (ch : Q.b) : ∀ (some acc : Q.b), (T7 bw ch acc some).length = acc.length
 | [], acc => rfl
 | m :: ops, acc => by
   show (T7 bw ch (setStep bw ch acc m) ops).length = _
   rw [Dn bw ch ops]
   unfold setStep
   split
   . rw [asU]
   . rfl
theorem WV {bw : Q.w} {es dS ch : Q.b} :
   ∀ (ops acc : Q.b), (∀ m ∈ ops, ∀ e, es.getD m.toNat 0 = e -> bw e = true -> ch.getD e.toNat 0 = m) -> (∀ e ∈ dS, 0 <= e /\ e < acc.length) -> ∀ i : Nat, i < acc.length →
     (NW bw es dS acc ops).getD i 0 = if (i : Int) ∈ dS /\ bw i = true /\ ∃ m ∈ ops, es.getD m.toNat 0 = (i : Int) then ch.getD i 0 else acc.getD i 0
 | [], acc, _, _, i, _ => by
   rw [arS (fun z => by obtain ⟨_, _, m, hm, _⟩ := z; cases hm)]
   rfl
 | m :: ops, acc, hc, hm, i, hi => by
   show (NW bw es dS (pQ bw es dS acc m) ops).getD i 0 = _
   have hl : (pQ bw es dS acc m).length = acc.length := by
     unfold pQ
     split
     . rw [asU]
     . rfl
   rw [WV ops _ (fun k hk => hc k (arO _ hk)) (by rw [hl]; exact hm) i (by rw [hl]; exact hi)]
   by_cases h1 : (i : Int) ∈ dS /\ bw i = true /\ ∃ m ∈ ops, es.getD m.toNat 0 = (i : Int)
   . rw [arU h1, arU ⟨h1.1, h1.2.1, h1.2.2.imp fun k hk => ⟨arO _ hk.1, hk.2⟩⟩]
   . rw [arS h1]
     unfold pQ
     by_cases h2 : es.getD m.toNat 0 ∈ dS /\ bw (es.getD m.toNat 0) = true
     . rw [arU h2]
       have hb := hm _ h2.1
       by_cases h3 : es.getD m.toNat 0 = (i : Int)
       . rw [arU ⟨by rw [← h3]; exact h2.1, by rw [← h3]; exact h2.2, m, arK, h3⟩]
         have := hc m arK _ h3 (by rw [← h3]; exact h2.2)
         rw [arT] at this
         rw [this, h3, arT, arM, as4 hi]
         rfl
       . rw [arS (fun z => by
           obtain ⟨z1, z2, k, hk, z3⟩ := z
           rcases arP.mp hk with e | hk
           . rw [e] at z3; exact h3 z3
           . exact h1 ⟨z1, z2, k, hk, z3⟩)]
         rw [arM, atr Q.a, ← arM]
     . rw [arS h2]
       rw [arS (fun z => by
         obtain ⟨z1, z2, k, hk, z3⟩ := z
         rcases arP.mp hk with e | hk
         . rw [e] at z3
           exact h2 ⟨by rw [z3]; exact z1, by rw [z3]; exact z2⟩
         . exact h1 ⟨z1, z2, k, hk, z3⟩)]
theorem BX {bw : Q.w} {ch : Q.b} : ∀ (some acc : Q.b), (∀ e ∈ some, 0 <= e /\ e < acc.length) -> ∀ i : Nat, i < acc.length →
     (T7 bw ch acc some).getD i 0 = if (i : Int) ∈ some /\ bw i = true then ch.getD i 0 else acc.getD i 0
 | [], acc, _, i, _ => by
   rw [arS (fun z => by cases z.1)]
   rfl
 | m :: ops, acc, hm, i, hi => by
   show (T7 bw ch (setStep bw ch acc m) ops).getD i 0 = _
   have hl : (setStep bw ch acc m).length = acc.length := by
     unfold setStep
     split
     . rw [asU]
     . rfl
   rw [BX ops _ (by rw [hl]; exact fun e he => hm e (arO _ he)) i (by rw [hl]; exact hi)]
   have hb := hm m arK
   by_cases h1 : (i : Int) ∈ ops /\ bw i = true
   . rw [arU h1, arU ⟨arO _ h1.1, h1.2⟩]
   . rw [arS h1]
     unfold setStep
     by_cases h2 : bw m = true
     . rw [arU h2]
       by_cases h3 : m = (i : Int)
       . subst h3
         rw [arU ⟨arK, h2⟩, arT, arM, as4 hi]
         rfl
       . rw [arS (fun z => by
           rcases arP.mp z.1 with e | e
           . exact h3 e.symm
           . exact h1 ⟨e, z.2⟩)]
         rw [arM, atr Q.a, ← arM]
     . rw [arS h2, arS (fun z => by
         rcases arP.mp z.1 with e | e
         . rw [← e] at h2; exact h2 z.2
         . exact h1 ⟨e, z.2⟩)]
theorem Dp {a b : Q.b} (hl : a.length = b.length) (h : ∀ i : Nat, i < a.length -> a.getD i 0 = b.getD i 0) : a = b := by
 apply List.ext_getElem hl
 intro i h1 h2
 have := h i h1
 rw [arM, arM, arZ h1, arZ h2] at this
 exact this
theorem kZ {isAll : Q.w} {es ch : Q.b} (hp : dD es) : ∀ (j : Nat) {k : Nat}, k <= j -> j < es.length -> (((k : Int) ∈ cu isAll es ch j) ↔ (k = 0 \/ (es.getD k 0 ∈ cu isAll es ch j /\ (isAll (es.getD k 0) = true \/ ch.getD (es.getD k 0).toNat 0 = (k : Int)))))
 | 0, k, hk, hj => by
   have : k = 0 := by omega
   subst this
   simp [cu]
 | j + 1, k, hk, hj => by
   have mono : ∀ {x : Int}, x ∈ cu isAll es ch j -> x ∈ cu isAll es ch Q.l := fun {x} hx => by
     rw [cu]
     split
     . exact arW _ hx
     . exact hx
   have back : ∀ {x : Int}, x < ((j + 1 : Nat) : Int) -> x ∈ cu isAll es ch Q.l -> x ∈ cu isAll es ch j := fun {x} wk hx => by
     rw [cu] at hx
     split at hx
     . rcases arV.mp hx with z | z
       . exact z
       . have : x = ((j + 1 : Nat) : Int) := by simpa using z
         omega
     . exact hx
   by_cases e : k = j + 1
   . subst e
     have ha := hp Q.l hj
     have nk : ((j + 1 : Nat) : Int) ∉ cu isAll es ch j := fun z => by
       have := fz j z
       omega
     constructor
     . intro z
       rw [cu] at z
       split at z
       . rename_i c
         exact .inr ⟨mono c.1, c.2⟩
       . exact absurd z nk
     . rintro (z | ⟨z1, z2⟩)
       . omega
       . rw [cu, arU ⟨back Q.a z1, z2⟩]
         exact arQ _ Q.p
   . have ih := kZ (isAll := isAll) (ch := ch) hp j (k := k) Q.a Q.a
     have ha := hp k Q.a
     constructor
     . intro z
       rcases ih.mp (back (by omega) z) with w | ⟨w1, w2⟩
       . exact .inl w
       . exact .inr ⟨mono w1, w2⟩
     . rintro (z | ⟨z1, z2⟩)
       . exact mono (ih.mpr (.inl z))
       . exact mono (ih.mpr (.inr ⟨back Q.a z1, z2⟩))
theorem dQ {isAll : Q.w} {es ch : Q.b} : ∀ j, (cu isAll es ch j).Pairwise (· < ·)
 | 0 => asS _ _
 | j + 1 => by
   rw [cu]
   split
   . refine atE.mpr ⟨dQ j, asS _ _, fun a ha b hb => ?_⟩
     have := fz j ha
     have : b = ((j + 1 : Nat) : Int) := by simpa using hb
     omega
   . exact dQ j
theorem xu : ∀ {a b : Q.b}, a.Pairwise (· < ·) -> b.Pairwise (· < ·) -> (∀ x, x ∈ a ↔ x ∈ b) -> a = b
 | [], [], _, _, _ => rfl
 | [], y :: b, _, _, h => absurd ((h y).mpr arK) Q.p
 | x :: a, [], _, _, h => absurd ((h x).mp arK) Q.p
 | x :: a, y :: b, ha, hb, h => by
   obtain ⟨a1, a2⟩ := asB.mp ha
   obtain ⟨b1, b2⟩ := asB.mp hb
   have e : x = y := by
     rcases arP.mp ((h x).mp arK) with e | hx
     . exact e
     . rcases arP.mp ((h y).mpr arK) with e | hy
       . exact e.symm
       . have := a1 y hy
         have := b1 x hx
         omega
   subst e
   rw [xu a2 b2 fun z => ⟨fun hz => by
     rcases arP.mp ((h z).mp (arO _ hz)) with e | e
     . have := a1 z hz
       omega
     . exact e, fun hz => by
     rcases arP.mp ((h z).mpr (arO _ hz)) with e | e
     . have := b1 z hz
       omega
     . exact e⟩]
def oK (es ops : Q.b) (m : Int) : List Int := (gf es m).filter (fun x => decide (x ∈ ops))
def Lk (bw : Q.w) (es ss ops : Q.b) (k : Nat) : Int := if bw k = true /\ oK es ops k ≠ [] then (oK es ops k).getD 0 0 else ss.getD k 0
def OU (bw : Q.w) (es ss ops : Q.b) (n : Nat) : List Int := (List.range n).map (Lk bw es ss ops)
theorem RG (bw : Q.w) (es ss ops : Q.b) {k : Nat} (h : k < n) : (OU bw es ss ops n).getD k 0 = Lk bw es ss ops k := by
 unfold OU
 rw [arM, asA, as8 h]
 rfl
def jg (ss mem : Q.b) (OV : Bool) (e : Int) : Int := if OV = true /\ mem.getD e.toNat 0 ≠ -1 then mem.getD e.toNat 0 else ss.getD e.toNat 0
def KJ (aC isAll : Q.w) (es ss mem : Q.b) (OV : Bool) (m : Int) : List Int := if aC m = true then [] else if isAll m = true then gf es m else [jg ss mem OV m]
def ju (aC isAll : Q.w) (es ss mem : Q.b) (far : Bool) : Nat -> Bool -> Int -> List Int
 | 0, _, m => [m]
 | d + 1, near, m => m :: (KJ aC isAll es ss mem (far || near) m).flatMap (fun p => ju aC isAll es ss mem far d false p)
structure di (aC isAll : Q.w) (es ss mem : Q.b) : Prop where
 pre : jW es
 leaf : ∀ k : Nat, k < es.length -> aC k = true -> gf es k = []
 one : ∀ k : Nat, k < es.length -> aC k = false -> isAll k = false -> ss.getD k 0 ∈ gf es k /\ (mem.getD k 0 = -1 \/ mem.getD k 0 ∈ gf es k)
variable {aC isAll : Q.w} {mem : Q.b}
theorem RH (h : Q.aa) {u : Bool} {k : Nat} (hk : k < es.length) (h1 : aC k = false) (h2 : isAll k = false) : jg ss mem u k ∈ gf es k := by
 obtain ⟨a, c⟩ := h.one k hk h1 h2
 unfold jg
 rw [arT]
 split
 . rename_i z
   exact c.resolve_left z.2
 . exact a
variable {p : Int}
theorem qx (h : Q.aa) {u : Bool} {k : Nat} (hk : k < es.length) (hp : p ∈ KJ aC isAll es ss mem u k) : p ∈ gf es k := by
 unfold KJ at hp
 split at hp
 . cases hp
 . rename_i h1
   split at hp
   . exact hp
   . rename_i h2
     have : p = jg ss mem u k := by simpa using hp
     rw [this]
     exact RH h hk (by simpa using h1) (by simpa using h2)
theorem WW (h : Q.aa) {u : Bool} {k : Nat} (hk : k < es.length) (hp : p ∈ gf es k) : p ∈ KJ aC isAll es ss mem u k ↔ (isAll k = true \/ jg ss mem u k = p) := by
 have hl : aC k = false := by
   cases e : aC k with
   | false => rfl
   | true => rw [h.leaf k hk e] at hp; cases hp
 unfold KJ
 rw [arS (by rw [hl]; decide)]
 cases e : isAll k with
 | true => rw [arU rfl]; exact ⟨fun _ => .inl rfl, fun _ => hp⟩
 | false =>
   rw [arS Q.i, asQ]
   exact ⟨fun z => .inr z.symm, fun z => z.elim (fun z => by cases z) (fun z => z.symm)⟩
theorem cg (h : jW es) (hp : p ∈ gf es k) : 0 <= p /\ p < es.length /\ es.getD p.toNat 0 = k /\ k < p := by
 have hb := kY hp
 have := h.1 p.toNat Q.a
 refine ⟨hb.1, hb.2.1, hb.2.2, ?_⟩
 omega
theorem Lp (h : Q.aa) {far : Bool} : ∀ (a c : Nat) {near : Bool} {k : Nat}, k < es.length -> es.length <= k + a + 1 -> es.length <= k + c + 1 -> ju aC isAll es ss mem far a near k = ju aC isAll es ss mem far c near k
 | 0, 0, _, _, _, _, _ => rfl
 | 0, c + 1, near, k, hk, ha, _ => by
   have : KJ aC isAll es ss mem (far || near) k = [] := atQ.mpr fun p hp => by
     have := cg h.pre (qx h hk hp)
     omega
   rw [ju, ju, this]
   rfl
 | a + 1, 0, near, k, hk, _, hc => by
   have : KJ aC isAll es ss mem (far || near) k = [] := atQ.mpr fun p hp => by
     have := cg h.pre (qx h hk hp)
     omega
   rw [ju, ju, this]
   rfl
 | a + 1, c + 1, near, k, hk, ha, hc => by
   rw [ju, ju]
   congr 1
   rw [List.flatMap_def, List.flatMap_def]
   congr 1
   apply ate
   intro p hp
   have hb := cg h.pre (qx h hk hp)
   obtain ⟨q, rfl⟩ : ∃ q : Nat, p = q := ⟨p.toNat, by omega⟩
   exact Lp h a c Q.a Q.a Q.a
theorem jv (h : Q.aa) {far : Bool} : ∀ (d : Nat) {near : Bool} {k : Nat}, k < es.length -> es.length <= k + d + 1 -> ∀ x : Nat, x < es.length →
   ((x : Int) ∈ ju aC isAll es ss mem far d near k ↔ (x = k \/ (k < x /\ es.getD x 0 ∈ ju aC isAll es ss mem far d near k /\ (isAll (es.getD x 0) = true \/ jg ss mem (far || (near && decide (es.getD x 0 = (k : Int)))) (es.getD x 0) = (x : Int)))))
 | 0, near, k, hk, hd, x, hx => by
   rw [ju, asQ]
   have ht := h.pre.1 x hx
   constructor
   . intro z; exact .inl Q.a
   . rintro (z | ⟨z1, z2, _⟩)
     . omega
     . omega
 | d + 1, near, k, hk, hd, x, hx => by
   have ht := h.pre.1 x hx
   rw [ju, arP, asO]
   have Br : ∀ p ∈ KJ aC isAll es ss mem (far || near) k, ∀ y : Nat, y < es.length -> ((y : Int) ∈ ju aC isAll es ss mem far d false p ↔ ((y : Int) = p \/ (p < y /\ es.getD y 0 ∈ ju aC isAll es ss mem far d false p /\ (isAll (es.getD y 0) = true \/ jg ss mem far (es.getD y 0) = (y : Int))))) := fun p hp y hy => by
     have hb := cg h.pre (qx h hk hp)
     obtain ⟨q, rfl⟩ : ∃ q : Nat, p = q := ⟨p.toNat, by omega⟩
     have := jv h (far := far) d (near := false) (k := q) Q.a Q.a y hy
     rw [this]
     simp only [Bool.false_and, Bool.or_false]
     constructor
     . rintro (z | ⟨z1, z2⟩)
       . exact .inl Q.a
       . exact .inr ⟨by omega, z2⟩
     . rintro (z | ⟨z1, z2⟩)
       . exact .inl Q.a
       . exact .inr ⟨by omega, z2⟩
   have WX : ∀ (dd : Nat) (p : Nat), p < es.length -> ∀ y : Int, y ∈ ju aC isAll es ss mem far dd false p -> (p : Int) <= y := by
     intro dd
     induction dd with
     | zero => intro p _ y hy; rw [ju, asQ] at hy; omega
     | succ dd ih =>
       intro p hp y hy
       rw [ju, arP, asO] at hy
       rcases hy with e | ⟨q, hq, hy⟩
       . omega
       . have hb := cg h.pre (qx h hp hq)
         obtain ⟨r, rfl⟩ : ∃ r : Nat, q = r := ⟨q.toNat, by omega⟩
         have := ih r Q.a y hy
         omega
   constructor
   . rintro (z | ⟨p, hp, z⟩)
     . exact .inl Q.a
     . have xx := qx h hk hp
       have hb := cg h.pre xx
       have hge : p <= x := by
         obtain ⟨q, rfl⟩ : ∃ q : Nat, p = q := ⟨p.toNat, by omega⟩
         exact WX d q Q.a x z
       refine .inr ⟨by omega, ?_⟩
       rcases (Br p hp x hx).mp z with e | ⟨e1, e2, e3⟩
       . have EG : es.getD x 0 = (k : Int) := by
           rw [← e, arT] at hb
           exact hb.2.2.1
         rw [EG]
         refine ⟨arK, ?_⟩
         rw [asK rfl, aur]
         have := (WW h hk xx).mp hp
         rw [← e] at this
         exact this
       . have anf : p <= es.getD x 0 := by
           obtain ⟨q, rfl⟩ : ∃ q : Nat, p = q := ⟨p.toNat, by omega⟩
           exact WX d q Q.a _ e2
         refine ⟨arO _ (asO.mpr ⟨p, hp, e2⟩), ?_⟩
         rw [asi Q.a, atW, Bool.or_false]
         exact e3
   . rintro (z | ⟨z1, z2, z3⟩)
     . exact .inl Q.a
     . rcases arP.mp z2 with e | z2
       . 
         have xx : (x : Int) ∈ gf es k := rg Q.a Q.a (by rw [arT]; exact e)
         rw [e, asK rfl, aur] at z3
         have hp := (WW h hk xx).mpr z3
         exact .inr ⟨x, hp, (Br x hp x hx).mpr Q.F⟩
       . obtain ⟨p, hp, z2⟩ := asO.mp z2
         have xx := qx h hk hp
         have hb := cg h.pre xx
         have anf : p <= es.getD x 0 := by
           obtain ⟨q, rfl⟩ : ∃ q : Nat, p = q := ⟨p.toNat, by omega⟩
           exact WX d q Q.a _ z2
         rw [asi Q.a, atW, Bool.or_false] at z3
         exact .inr ⟨p, hp, (Br p hp x hx).mpr (.inr ⟨by omega, z2, z3⟩)⟩
theorem bR (h : Q.aa) {far : Bool} : ∀ (d : Nat) {near : Bool} {k : Nat}, k < es.length -> ∀ y ∈ ju aC isAll es ss mem far d near k, 0 <= y /\ y < es.length /\ (y = k \/ (k : Int) ∈ bD es y)
 | 0, near, k, hk, y, hy => by
   rw [ju, asQ] at hy
   exact ⟨by omega, by omega, .inl hy⟩
 | d + 1, near, k, hk, y, hy => by
   rw [ju, arP, asO] at hy
   rcases hy with e | ⟨p, hp, hy⟩
   . exact ⟨by omega, by omega, .inl e⟩
   . have hb := cg h.pre (qx h hk hp)
     obtain ⟨q, rfl⟩ : ∃ q : Nat, p = q := ⟨p.toNat, by omega⟩
     obtain ⟨y0, y1, y2⟩ := bR h d (k := q) Q.a y hy
     have hkq : (k : Int) ∈ bD es q := by
       rw [cZ h.pre.1 (m := (q : Int)) Q.a Q.a, hb.2.2.1, arS Q.a]
       exact arK
     refine ⟨y0, y1, .inr ?_⟩
     rcases y2 with e | e
     . rw [e]; exact hkq
     . exact jL h.pre.1 y0 y1 e hkq
theorem nJ (h : Q.aa) {far : Bool} : ∀ (d : Nat) {near : Bool} {k : Nat}, k < es.length -> (ju aC isAll es ss mem far d near k).Pairwise (· < ·)
 | 0, _, _, _ => by rw [ju]; exact asS _ _
 | d + 1, near, k, hk => by
   rw [ju]
   refine asB.mpr ⟨fun y hy => ?_, List.pairwise_flatMap.mpr ⟨fun p hp => ?_, ?_⟩⟩
   . obtain ⟨p, hp, hy⟩ := asO.mp hy
     have hb := cg h.pre (qx h hk hp)
     obtain ⟨q, rfl⟩ : ∃ q : Nat, p = q := ⟨p.toNat, by omega⟩
     obtain ⟨y0, y1, y2⟩ := bR h d (k := q) Q.a y hy
     rcases y2 with e | e
     . omega
     . have := bA h.pre.1 y0 y1 e
       omega
   . have hb := cg h.pre (qx h hk hp)
     obtain ⟨q, rfl⟩ : ∃ q : Nat, p = q := ⟨p.toNat, by omega⟩
     exact nJ h d Q.a
   . have hs : (KJ aC isAll es ss mem (far || near) k).Pairwise (· < ·) := by
       unfold KJ
       split
       . exact .nil
       . split
         . exact Dl es k
         . exact asS _ _
     refine auf ?_ hs
     intro p p' hp hp' wk x hx y hy
     have hb := cg h.pre (qx h hk hp)
     have hb' := cg h.pre (qx h hk hp')
     obtain ⟨q, rfl⟩ : ∃ q : Nat, p = q := ⟨p.toNat, by omega⟩
     obtain ⟨q', rfl⟩ : ∃ q' : Nat, p' = q' := ⟨p'.toNat, by omega⟩
     obtain ⟨x0, x1, x2⟩ := bR h d (k := q) Q.a x hx
     obtain ⟨y0, y1, y2⟩ := bR h d (k := q') Q.a y hy
     obtain ⟨L, S⟩ := OQ h.pre (m := (q : Int)) Q.a Q.a
     have xL : x < (q : Int) + 1 + L := by
       rcases x2 with e | e
       . omega
       . obtain ⟨z, rfl⟩ : ∃ z : Nat, x = z := ⟨x.toNat, by omega⟩
         exact ((S.iff z Q.a).mp (.inr e)).2
     have nq : ¬ ((q : Int) ∈ bD es q') := fun z => by
       rw [cZ h.pre.1 (m := (q' : Int)) Q.a Q.a, hb'.2.2.1, arS Q.a] at z
       rcases arP.mp z with e | e
       . omega
       . have := bA h.pre.1 (m := (k : Int)) Q.a Q.a e
         omega
     have Vd : (q : Int) + 1 + L <= q' := by
       have := S.iff q' Q.a
       by_cases c : (q' : Int) < (q : Int) + 1 + L
       . exact absurd ((this.mpr ⟨wk, c⟩).resolve_left Q.a) nq
       . omega
     have : (q' : Int) <= y := by
       rcases y2 with e | e
       . omega
       . have := bA h.pre.1 y0 y1 e
         omega
     omega
def Dq (isAll : Q.w) (es ss mem : Q.b) (far near : Bool) (k : Nat) : Nat -> List Int
 | 0 => [(k : Int)]
 | j + 1 => if es.getD (k + 1 + j) 0 ∈ Dq isAll es ss mem far near k j /\ (isAll (es.getD (k + 1 + j) 0) = true \/ jg ss mem (far || (near && decide (es.getD (k + 1 + j) 0 = (k : Int)))) (es.getD (k + 1 + j) 0) = ((k + 1 + j : Nat) : Int)) then Dq isAll es ss mem far near k j ++ [((k + 1 + j : Nat) : Int)] else Dq isAll es ss mem far near k j
theorem uY {far near : Bool} {k : Nat} : ∀ (j : Nat) {x : Int}, x ∈ Dq isAll es ss mem far near k j -> k <= x /\ x <= k + j
 | 0, x, h => by
   have : x = (k : Int) := by simpa [Dq] using h
   omega
 | j + 1, x, h => by
   rw [Dq] at h
   split at h
   . rcases arV.mp h with h | h
     . have := uY j h
       omega
     . have : x = ((k + 1 + j : Nat) : Int) := by simpa using h
       omega
   . have := uY j h
     omega
theorem xA {far near : Bool} {k : Nat} : ∀ j, (Dq isAll es ss mem far near k j).Pairwise (· < ·)
 | 0 => asS _ _
 | j + 1 => by
   rw [Dq]
   split
   . refine atE.mpr ⟨xA j, asS _ _, fun a ha b hb => ?_⟩
     have := uY j ha
     have : b = ((k + 1 + j : Nat) : Int) := by simpa using hb
     omega
   . exact xA j
theorem OW (h : Q.aa) {far near : Bool} {k d : Nat} (hk : k < es.length) (hd : es.length <= k + d + 1) : ∀ (j : Nat), k + j < es.length -> ∀ x : Nat, x <= k + j -> ((x : Int) ∈ Dq isAll es ss mem far near k j ↔ (x : Int) ∈ ju aC isAll es ss mem far d near k)
 | 0, hj, x, hx => by
   rw [Dq, asQ, jv h d hk hd x Q.a]
   constructor
   . intro z; exact .inl Q.a
   . rintro (z | ⟨z, _⟩)
     . omega
     . omega
 | j + 1, hj, x, hx => by
   have ih := OW h (far := far) (near := near) hk hd j Q.a
   have ht := h.pre.1 (k + 1 + j) Q.a
   have mono : ∀ {y : Int}, y ∈ Dq isAll es ss mem far near k j -> y ∈ Dq isAll es ss mem far near k Q.l := fun {y} hy => by
     rw [Dq]
     split
     . exact arW _ hy
     . exact hy
   have back : ∀ {y : Int}, y < ((k + 1 + j : Nat) : Int) -> y ∈ Dq isAll es ss mem far near k Q.l -> y ∈ Dq isAll es ss mem far near k j := fun {y} wk hy => by
     rw [Dq] at hy
     split at hy
     . rcases arV.mp hy with z | z
       . exact z
       . have : y = ((k + 1 + j : Nat) : Int) := by simpa using z
         omega
     . exact hy
   by_cases e : x = k + 1 + j
   . subst e
     rw [jv h d hk hd (k + 1 + j) Q.a]
     have nx : ((k + 1 + j : Nat) : Int) ∉ Dq isAll es ss mem far near k j := fun z => by
       have := uY j z
       omega
     have akj : es.getD (k + 1 + j) 0 ∈ Dq isAll es ss mem far near k j ↔ es.getD (k + 1 + j) 0 ∈ ju aC isAll es ss mem far d near k := by
       by_cases e0 : es.getD (k + 1 + j) 0 = -1
       . rw [e0]
         constructor
         . intro z; have := uY j z; omega
         . intro z; have := bR h d hk _ z; omega
       . obtain ⟨q, hq⟩ : ∃ q : Nat, es.getD (k + 1 + j) 0 = q := ⟨(es.getD (k + 1 + j) 0).toNat, by omega⟩
         rw [hq]
         exact ih q Q.a
     constructor
     . intro z
       rw [Dq] at z
       split at z
       . rename_i c
         exact .inr ⟨by omega, akj.mp c.1, c.2⟩
       . exact absurd z nx
     . rintro (z | ⟨_, z2, z3⟩)
       . omega
       . rw [Dq, arU ⟨akj.mpr z2, z3⟩]
         exact arQ _ Q.p
   . have := ih x Q.a
     constructor
     . intro z; exact this.mp (back Q.a z)
     . intro z; exact mono (this.mpr z)
variable {far near : Bool}
theorem T8 (h : Q.aa) {k d : Nat} (hk : k < es.length) (hd : es.length <= k + d + 1) : ju aC isAll es ss mem far d near k = Dq isAll es ss mem far near k (es.length - 1 - k) := by
 refine xu (nJ h d hk) (xA _) fun x => ?_
 constructor
 . intro hx
   have hb := bR h d hk x hx
   obtain ⟨q, rfl⟩ : ∃ q : Nat, x = q := ⟨x.toNat, by omega⟩
   exact (OW h hk hd (es.length - 1 - k) Q.a q Q.a).mpr hx
 . intro hx
   have hb := uY _ hx
   obtain ⟨q, rfl⟩ : ∃ q : Nat, x = q := ⟨x.toNat, by omega⟩
   exact (OW h hk hd (es.length - 1 - k) Q.a q Q.a).mp hx
def rm (mode : Str) : Prop := mode = "new" \/ mode = "near" \/ mode = "far"
def cS (mode : Str) : Bool := decide (mode = "far")
def eG (mode : Str) : Bool := decide (mode = "near")
def Ae (ks : Q.h) (es ss mem : Q.b) (mode : Str) (m : Int) : List Int := ju (aR ks) Q.g es ss mem (cS mode) es.length (eG mode) m
theorem BZ (h : Q.aa) {d k : Nat} (hk : k < es.length) : (ju aC isAll es ss mem far d near k).length <= es.length := by
 have hs := nJ h (far := far) d (near := near) hk
 have hb := bR h (far := far) d (near := near) hk
 generalize ju aC isAll es ss mem far d near k = l at hs hb
 have go : ∀ (l : Q.b) (lo : Int), l.Pairwise (· < ·) -> (∀ x ∈ l, lo <= x /\ x < es.length) -> (l.length : Int) <= es.length - lo \/ l = [] := by
   intro l
   induction l with
   | nil => intro lo _ _; exact .inr rfl
   | cons x r ih =>
     intro lo h1 h2
     obtain ⟨a, c⟩ := asB.mp h1
     have hx := h2 x arK
     rcases ih (x + 1) c (fun y hy => ⟨a y hy, (h2 y (arO _ hy)).2⟩) with z | z
     . left; rw [ar8]; omega
     . left; rw [z]; simp; omega
 rcases go l 0 hs (fun x hx => ⟨(hb x hx).1, (hb x hx).2.1⟩) with z | z
 . omega
 . rw [z]; exact asr _
def g9 (es : Q.b) (u t x : Int) : Prop := x = t \/ (x ∈ bD es t /\ (u = -1 \/ u ∈ bD es x))
theorem Dr (h : dD es) {t : Int} (t0 : 0 <= t) (t1 : t < es.length) (hu : u = -1 \/ u ∈ bD es t) (x : Int) : x ∈ bZ es u t ↔ g9 es u t x := by
 unfold bZ g9
 rw [atw, arP]
 refine or_congr Iff.rfl ?_
 rcases hu with rfl | hu
 . have e : (bD es t).takeWhile (fun x => decide (x ≠ -1)) = bD es t := by
     have := atX (p := fun x => decide (x ≠ (-1 : Int))) (l₁ := bD es t) (l₂ := []) (fun y hy => by
       have := bA h t0 t1 hy
       simp; omega)
     simpa using this
   rw [e]
   exact ⟨fun z => ⟨z, .inl rfl⟩, fun z => z.1⟩
 . have ub := bA h t0 t1 hu
   constructor
   . intro z
     exact ⟨(atU _).subset z, .inr (Bq h t0 t1 hu z)⟩
   . rintro ⟨z1, z2⟩
     obtain ⟨pre, p1, p2⟩ := qw h (t.toNat + 1) t0 t1 Q.a hu
     have ne : ∀ y ∈ pre, decide (y ≠ u) = true := fun y hy => by
       have hy1 := bA h t0 t1 (p2 y hy).1
       have := bA h (m := y) Q.a Q.a (p2 y hy).2
       simp; omega
     have e : (bD es t).takeWhile Q.bc = pre := by
       rw [p1, atX ne, List.takeWhile_cons, arS Q.p, asj]
     rw [e]
     have hx := bA h t0 t1 z1
     have hux : u ∈ bD es x := z2.resolve_left Q.a
     have wk := bA h (m := x) Q.a Q.a hux
     rw [p1] at z1
     rcases arV.mp z1 with z | z
     . exact z
     . rcases arP.mp z with z | z
       . omega
       . have := bA h (m := u) Q.a Q.a z
         omega
variable {t : Nat}
def OX (aC isAll : Q.w) (es ss mem : Q.b) (far near : Bool) (u : Int) (t : Nat) (x : Int) : Prop :=
 (g9 es u t x /\ x ≠ t) \/ x ∈ ju aC isAll es ss mem far es.length near t \/ ∃ s p, g9 es u t s /\ s ≠ t /\ isAll s = true /\ p ∈ gf es s /\ ¬ g9 es u t p /\ x ∈ ju aC isAll es ss mem false es.length false p
def yr (aC isAll : Q.w) (es ss mem : Q.b) (far near : Bool) (u : Int) (t : Nat) (e x : Int) : Prop :=
 isAll e = true \/ (jg ss mem ((decide (e = t) && (far || near)) || (far && decide (e ∈ ju aC isAll es ss mem far es.length near t))) e = x /\ (e = t \/ ¬ g9 es u t e))
theorem ja (h : dD es) (ht : t < es.length) (hx : g9 es u t x) : 0 <= x /\ x <= t := by
 rcases hx with e | ⟨e, _⟩
 . omega
 . have := bA h (m := (t : Int)) Q.a Q.a e
   omega
theorem RJ (h : dD es) (ht : t < es.length) {s : Int} (hs : g9 es u t s) (hp : p ∈ gf es s) (hpt : p ∈ bD es t \/ p = t) : g9 es u t p := by
 rcases hpt with hpt | hpt
 . refine .inr ⟨hpt, ?_⟩
   have sb := ja h ht hs
   have hb := kY hp
   have pb := bA h (m := (t : Int)) Q.a Q.a hpt
   have e := cZ h (m := p) hb.1 hb.2.1
   rw [hb.2.2, arS Q.a] at e
   have st : s ∈ bD es t := jL h Q.a Q.a hpt (by rw [e]; exact arK)
   rcases hs with z | ⟨_, z | z⟩
   . have := bA h (m := (t : Int)) Q.a Q.a st
     omega
   . exact .inl z
   . exact .inr (by rw [e]; exact arO _ z)
 . exact .inl hpt
theorem tM (h : Q.aa) (ht : t < es.length) {s : Int} (hs : g9 es u t s) (F0 : s ≠ t) (hp : p ∈ gf es s) (hpl : ¬ g9 es u t p) (hx : x = p \/ p ∈ bD es x) (x0 : 0 <= x) (x1 : x < es.length) : ¬ g9 es u t x /\ ¬ (x = t \/ (t : Int) ∈ bD es x) := by
 have hT := h.pre.1
 have sb := ja hT ht hs
 have pb := cg h.pre hp
 have up := fun z => hpl (RJ hT ht hs hp z)
 have key : ¬ (x = t \/ (t : Int) ∈ bD es x) := by
   rintro (z | z)
   . rw [z] at hx
     rcases hx with e | e
     . exact up (.inr e.symm)
     . exact up (.inl e)
   . rcases hx with e | e
     . rw [e, cZ hT (m := p) pb.1 pb.2.1, pb.2.2.1, arS Q.a] at z
       rcases arP.mp z with w | w
       . exact F0 w.symm
       . have := bA hT (m := s) Q.a Q.a w
         omega
     . rcases q8 hT x0 x1 z e with w | w | w
       . exact up (.inr w.symm)
       . rw [cZ hT (m := p) pb.1 pb.2.1, pb.2.2.1, arS Q.a] at w
         rcases arP.mp w with v | v
         . exact F0 v.symm
         . have := bA hT (m := s) Q.a Q.a v
           omega
       . exact up (.inl w)
 refine ⟨fun z => ?_, key⟩
 rcases z with z | ⟨z, _⟩
 . exact key (.inl z)
 . rcases hx with e | e
   . rw [e] at z; exact up (.inl z)
   . exact up (.inl (jL hT Q.a Q.a z e))
theorem B3 (h : Q.aa) (ht : t < es.length) (x : Nat) (hx : x < es.length) :
   OX aC isAll es ss mem far near u t x ↔ (g9 es u t x \/ (OX aC isAll es ss mem far near u t (es.getD x 0) /\ ¬ g9 es u t x /\ yr aC isAll es ss mem far near u t (es.getD x 0) x)) := by
 have hT := h.pre.1
 have EG := hT x hx
 have opT := fun y hy => bR h (far := far) (near := near) es.length ht y hy
 have tOp : (t : Int) ∈ ju aC isAll es ss mem far es.length near t := (jv h es.length ht Q.a t ht).mpr Q.F
 have akk : ∀ y : Int, y ∈ ju aC isAll es ss mem far es.length near t -> y ≠ t -> ¬ g9 es u t y := fun y hy qm z => by
   obtain ⟨y0, y1, y2⟩ := opT y hy
   have := ja hT ht z
   rcases y2 with e | e
   . exact qm e
   . have := bA hT y0 y1 e
     omega
 constructor
 . rintro (z | z | ⟨s, p, z1, z2, z3, z4, z5, z6⟩)
   . exact .inl z.1
   . by_cases e : (x : Int) = t
     . exact .inl (.inl e)
     . refine .inr ?_
       have z' := z
       rw [jv h es.length ht Q.a x hx] at z'
       obtain ⟨w1, w2, w3⟩ := z'.resolve_left Q.a
       refine ⟨.inr (.inl w2), akk x z e, ?_⟩
       unfold yr
       rcases w3 with w3 | w3
       . exact .inl w3
       . refine .inr ⟨?_, ?_⟩
         . rw [asK w2, aur]
           rw [← w3]
           congr 1
           cases far <;> cases near <;> simp
         . by_cases e2 : es.getD x 0 = t
           . exact .inl e2
           . exact .inr (akk _ w2 e2)
   . have pb := cg h.pre z4
     have sb := ja hT ht z1
     obtain ⟨q, rfl⟩ : ∃ q : Nat, p = q := ⟨p.toNat, by omega⟩
     obtain ⟨y0, y1, y2⟩ := bR h (far := false) (near := false) es.length (k := q) Q.a x z6
     obtain ⟨o1, o2⟩ := tM h ht z1 z2 z4 z5 y2 y0 y1
     refine .inr ⟨?_, o1, ?_⟩
     . rw [jv h es.length (k := q) Q.a Q.a x hx] at z6
       rcases z6 with w | ⟨_, w2, _⟩
       . subst w
         have : es.getD x 0 = s := by have := pb.2.2.1; rwa [arT] at this
         rw [this]
         exact .inl ⟨z1, z2⟩
       . exact .inr (.inr ⟨s, q, z1, z2, z3, z4, z5, w2⟩)
     . rw [jv h es.length (k := q) Q.a Q.a x hx] at z6
       unfold yr
       rcases z6 with w | ⟨_, w2, w3⟩
       . subst w
         have : es.getD x 0 = s := by have := pb.2.2.1; rwa [arT] at this
         rw [this]
         exact .inl z3
       . rcases w3 with w3 | w3
         . exact .inl w3
         . obtain ⟨e0, e1, e2⟩ := bR h (far := false) (near := false) es.length (k := q) Q.a _ w2
           obtain ⟨p1, p2⟩ := tM h ht z1 z2 z4 z5 e2 e0 e1
           refine .inr ⟨?_, .inr p1⟩
           rw [asi (fun z => p2 (.inl z)), asi (fun z => p2 ((opT _ z).2.2.elim .inl .inr))]
           rw [← w3]
           congr 1
           simp
 . rintro (z | ⟨z1, z2, z3⟩)
   . by_cases e : (x : Int) = t
     . rw [e]; exact .inr (.inl tOp)
     . exact .inl ⟨z, e⟩
   . unfold yr at z3
     rcases z1 with z1 | z1 | ⟨s, p, w1, w2, w3, w4, w5, w6⟩
     . 
       have sb := ja hT ht z1.1
       have K1 : isAll (es.getD x 0) = true := z3.elim id (fun w => w.2.elim (fun v => absurd v z1.2) (fun v => absurd z1.1 v))
       have xx : (x : Int) ∈ gf es (es.getD x 0) := rg Q.a Q.a (by rw [arT])
       exact .inr (.inr ⟨_, x, z1.1, z1.2, K1, xx, z2, (jv h es.length hx Q.a x hx).mpr Q.F⟩)
     . obtain ⟨e0, e1, e2⟩ := opT _ z1
       have hge : (t : Int) <= es.getD x 0 := by
         rcases e2 with e | e
         . omega
         . have := bA hT e0 e1 e
           omega
       refine .inr (.inl ((jv h es.length ht Q.a x hx).mpr (.inr ⟨by omega, z1, ?_⟩)))
       rcases z3 with w | ⟨w, _⟩
       . exact .inl w
       . refine .inr ?_
         rw [← w, asK z1, aur]
         congr 1
         cases far <;> cases near <;> simp
     . have pb := cg h.pre w4
       have sb := ja hT ht w1
       obtain ⟨q, rfl⟩ : ∃ q : Nat, p = q := ⟨p.toNat, by omega⟩
       obtain ⟨e0, e1, e2⟩ := bR h (far := false) (near := false) es.length (k := q) Q.a _ w6
       obtain ⟨p1, p2⟩ := tM h ht w1 w2 w4 w5 e2 e0 e1
       have hge : (q : Int) <= es.getD x 0 := by
         rcases e2 with e | e
         . omega
         . have := bA hT e0 e1 e
           omega
       refine .inr (.inr ⟨s, q, w1, w2, w3, w4, w5, (jv h es.length (k := q) Q.a Q.a x hx).mpr (.inr ⟨by omega, w6, ?_⟩)⟩)
       rcases z3 with w | ⟨w, _⟩
       . exact .inl w
       . refine .inr ?_
         rw [← w, asi (fun z => p2 (.inl z)), asi (fun z => p2 ((opT _ z).2.2.elim .inl .inr))]
         congr 1
         simp
def enP (aC isAll : Q.w) (es ss mem : Q.b) (far near : Bool) (u : Int) (t : Nat) : List Int :=
 (bZ es u t).dropLast ++ ju aC isAll es ss mem far es.length near t ++ ((bZ es u t).dropLast.filter (fun s => isAll s)).flatMap (fun s => ((gf es s).filter (fun p => !decide (p ∈ bZ es u t))).flatMap (fun p => ju aC isAll es ss mem false es.length false p))
theorem Af (es : Q.b) (u t : Int) : (bZ es u t).dropLast = ((bD es t).takeWhile Q.bc).reverse := by
 unfold bZ
 rw [asz, List.dropLast_concat]
theorem uZ (h : dD es) (ht : t < es.length) (hx : x ∈ (bZ es u t).dropLast) : x ∈ bZ es u t /\ x ≠ t := by
 have hx' := hx
 rw [Af, atw] at hx
 have hc := (atU _).subset hx
 have := bA h (m := (t : Int)) Q.a Q.a hc
 exact ⟨List.dropLast_subset _ hx', by omega⟩
theorem RK (hx : x ∈ bZ es u t) (qm : x ≠ t) : x ∈ (bZ es u t).dropLast := by
 rw [Af, atw]
 unfold bZ at hx
 rw [atw] at hx
 exact (arP.mp hx).resolve_left qm
theorem yt (h : Q.aa) (ht : t < es.length) (hu : u = -1 \/ u ∈ bD es t) (x : Int) : x ∈ enP aC isAll es ss mem far near u t ↔ OX aC isAll es ss mem far near u t x := by
 have li := Dr h.pre.1 (u := u) (t := (t : Int)) Q.a Q.a hu
 unfold enP OX
 rw [arV, arV, or_assoc]
 refine or_congr ?_ (or_congr Iff.rfl ?_)
 . constructor
   . intro z
     obtain ⟨a, c⟩ := uZ h.pre.1 ht z
     exact ⟨(li x).mp a, c⟩
   . rintro ⟨a, c⟩
     exact RK ((li x).mpr a) c
 . simp only [asO, asf]
   constructor
   . rintro ⟨s, ⟨s1, s2⟩, p, ⟨p1, p2⟩, z⟩
     obtain ⟨a, c⟩ := uZ h.pre.1 ht s1
     refine ⟨s, p, (li s).mp a, c, s2, p1, fun w => ?_, z⟩
     rw [asK ((li p).mpr w)] at p2
     cases p2
   . rintro ⟨s, p, z1, z2, z3, z4, z5, z6⟩
     refine ⟨s, ⟨RK ((li s).mpr z1) z2, z3⟩, p, ⟨z4, ?_⟩, z6⟩
     rw [asi (fun w => z5 ((li p).mp w))]
     rfl
variable {l : Q.b}
theorem nK (h : l.Pairwise (· < ·)) : l.Nodup := List.Pairwise.imp (fun {a b} (hab : a < b) => by omega) h
theorem Ag (h : Q.aa) (ht : t < es.length) (hu : u = -1 \/ u ∈ bD es t) : (enP aC isAll es ss mem far near u t).Nodup := by
 have hT := h.pre.1
 have li := Dr hT (u := u) (t := (t : Int)) Q.a Q.a hu
 have nd1 : (bZ es u t).dropLast.Nodup := by
   rw [Af]
   have hs := xr hT (t + 1) (m := (t : Int)) Q.a Q.a Q.a
   exact List.pairwise_reverse.mpr (List.Pairwise.imp (fun {a b} (hab : b < a) => (by omega : b ≠ a)) (List.Pairwise.sublist (atU _) hs))
 have side : ∀ s ∈ (bZ es u t).dropLast.filter (fun s => isAll s), ∀ p ∈ (gf es s).filter (fun p => !decide (p ∈ bZ es u t)), g9 es u t s /\ s ≠ t /\ p ∈ gf es s /\ ¬ g9 es u t p := fun s hs p hp => by
   obtain ⟨s1, s2⟩ := asf.mp hs
   obtain ⟨p1, p2⟩ := asf.mp hp
   obtain ⟨a, c⟩ := uZ hT ht s1
   refine ⟨(li s).mp a, c, p1, fun w => ?_⟩
   rw [asK ((li p).mpr w)] at p2
   cases p2
 have wit : ∀ s p x, g9 es u t s -> s ≠ t -> p ∈ gf es s -> ¬ g9 es u t p -> x ∈ ju aC isAll es ss mem false es.length false p -> 0 <= x /\ x < es.length /\ (x = p \/ p ∈ bD es x) := fun s p x _ _ hp _ hx => by
   have pb := cg h.pre hp
   have hq : ∃ q : Nat, p = q := ⟨p.toNat, by
     have := pb.1
     omega⟩
   obtain ⟨q, rfl⟩ := hq
   exact bR h es.length Q.a x hx
 unfold enP
 refine ass.mpr ⟨ass.mpr ⟨nd1, nK (nJ h _ ht), fun a ha b hb e => ?_⟩, ?_, fun a ha b hb e => ?_⟩
 . subst e
   obtain ⟨a1, a2⟩ := uZ hT ht ha
   have lb := ja hT ht ((li a).mp a1)
   obtain ⟨y0, y1, y2⟩ := bR h es.length ht a hb
   rcases y2 with e | e
   . exact a2 e
   . have := bA hT y0 y1 e
     omega
 . refine List.pairwise_flatMap.mpr ⟨fun s hs => List.pairwise_flatMap.mpr ⟨fun p hp => ?_, ?_⟩, ?_⟩
   . obtain ⟨_, _, p1, _⟩ := side s hs p hp
     have pb := cg h.pre p1
     have hq : ∃ q : Nat, p = q := ⟨p.toNat, by
       have := pb.1
       omega⟩
     obtain ⟨q, rfl⟩ := hq
     exact nK (nJ h _ Q.a)
   . have hpw : ((gf es s).filter (fun p => !decide (p ∈ bZ es u t))).Pairwise (· < ·) := at0 _ (Dl es s)
     refine auf ?_ hpw
     intro p p' hp hp' wk x hx y hy e
     subst e
     obtain ⟨s1, s2, p1, p2⟩ := side s hs p hp
     obtain ⟨_, _, p1', p2'⟩ := side s hs p' hp'
     obtain ⟨x0, x1, xp⟩ := wit s p x s1 s2 p1 p2 hx
     obtain ⟨_, _, xp'⟩ := wit s p' x s1 s2 p1' p2' hy
     have pb := cg h.pre p1
     have pb' := cg h.pre p1'
     have sb := ja hT ht s1
     have c1 : ∀ z, z ∈ bD es p' -> z <= s := fun z hz => by
       rw [cZ hT (m := p') pb'.1 pb'.2.1, pb'.2.2.1, arS Q.a] at hz
       rcases arP.mp hz with w | w
       . omega
       . have := bA hT (m := s) Q.a Q.a w
         omega
     have c2 : ∀ z, z ∈ bD es p -> z <= s := fun z hz => by
       rw [cZ hT (m := p) pb.1 pb.2.1, pb.2.2.1, arS Q.a] at hz
       rcases arP.mp hz with w | w
       . omega
       . have := bA hT (m := s) Q.a Q.a w
         omega
     rcases xp with e | e
     . rcases xp' with e' | e'
       . omega
       . rw [e] at e'
         have := c2 _ e'
         omega
     . rcases xp' with e' | e'
       . rw [e'] at e
         have := c1 _ e
         omega
       . rcases q8 hT x0 x1 e e' with w | w | w
         . omega
         . have := c1 _ w; omega
         . have := c2 _ w; omega
   . have hnd : ((bZ es u t).dropLast.filter (fun s => isAll s)).Nodup := at0 _ nd1
     refine auf ?_ hnd
     intro s s' hs hs' qm x hx y hy e
     subst e
     obtain ⟨p, hp, hx⟩ := asO.mp hx
     obtain ⟨p', hp', hy⟩ := asO.mp hy
     obtain ⟨s1, s2, p1, p2⟩ := side s hs p hp
     obtain ⟨s1', s2', p1', p2'⟩ := side s' hs' p' hp'
     obtain ⟨x0, x1, xp⟩ := wit s p x s1 s2 p1 p2 hx
     obtain ⟨_, _, xp'⟩ := wit s' p' x s1' s2' p1' p2' hy
     have pb := cg h.pre p1
     have pb' := cg h.pre p1'
     have sb := ja hT ht s1
     have sb' := ja hT ht s1'
     have up : ∀ {s p s' : Int}, g9 es u t s -> p ∈ gf es s -> ¬ g9 es u t p -> g9 es u t s' -> 0 <= s' -> ¬ (p = s' \/ p ∈ bD es s') := fun {s p s'} ls pin np ls' _ z => by
       refine np ?_
       rcases z with z | z
       . rw [z]; exact ls'
       . refine RJ hT ht ls pin (.inl ?_)
         rcases ls' with w | ⟨w, _⟩
         . rw [← w]; exact z
         . exact jL hT Q.a Q.a w z
     have d1 : ¬ p ∈ bD es p' := fun z => by
       rw [cZ hT (m := p') pb'.1 pb'.2.1, pb'.2.2.1, arS Q.a] at z
       exact up s1 p1 p2 s1' sb'.1 ((arP.mp z))
     have d2 : ¬ p' ∈ bD es p := fun z => by
       rw [cZ hT (m := p) pb.1 pb.2.1, pb.2.2.1, arS Q.a] at z
       exact up s1' p1' p2' s1 sb.1 ((arP.mp z))
     have d3 : p ≠ p' := fun z => qm (by rw [← pb.2.2.1, ← pb'.2.2.1, z])
     rcases xp with e | e
     . rcases xp' with e' | e'
       . exact d3 (e.symm.trans e')
       . rw [e] at e'; exact d2 e'
     . rcases xp' with e' | e'
       . rw [e'] at e; exact d1 e
       . rcases q8 hT x0 x1 e e' with w | w | w
         . exact d3 w
         . exact d1 w
         . exact d2 w
 . subst e
   obtain ⟨s, hs, hb⟩ := asO.mp hb
   obtain ⟨p, hp, hb⟩ := asO.mp hb
   obtain ⟨s1, s2, p1, p2⟩ := side s hs p hp
   obtain ⟨x0, x1, xp⟩ := wit s p a s1 s2 p1 p2 hb
   obtain ⟨o1, o2⟩ := tM h ht s1 s2 p1 p2 xp x0 x1
   rcases arV.mp ha with z | z
   . exact o1 ((li a).mp (uZ hT ht z).1)
   . exact o2 ((bR h es.length ht a z).2.2.elim .inl .inr)
def abH (isAll : Q.w) (es ss mem : Q.b) (far near : Bool) (fX : Q.b) (t : Nat) (r : List Int × List Int) (k : Nat) : Bool :=
 decide ((k : Int) ∈ fX) || (decide (es.getD k 0 ∈ r.1) && (isAll (es.getD k 0) || (decide (jg ss mem ((decide (es.getD k 0 = t) && (far || near)) || (decide (es.getD k 0 ∈ r.2) && far)) (es.getD k 0) = k) && (decide (es.getD k 0 = t) || !decide (es.getD k 0 ∈ fX)))))
def Bs (isAll : Q.w) (es ss mem : Q.b) (far near : Bool) (fX : Q.b) (t : Nat) : Nat -> List Int × List Int
 | 0 => ([], [])
 | k + 1 => if abH isAll es ss mem far near fX t (Bs isAll es ss mem far near fX t k) k = true
     then ((Bs isAll es ss mem far near fX t k).1 ++ [(k : Int)], if (k : Int) = t \/ es.getD k 0 ∈ (Bs isAll es ss mem far near fX t k).2 then (Bs isAll es ss mem far near fX t k).2 ++ [(k : Int)] else (Bs isAll es ss mem far near fX t k).2)
     else Bs isAll es ss mem far near fX t k
theorem RL {fX : Q.b} : ∀ (k : Nat), (∀ x ∈ (Bs isAll es ss mem far near fX t k).1, 0 <= x /\ x < k) /\ (∀ x ∈ (Bs isAll es ss mem far near fX t k).2, 0 <= x /\ x < k) /\ (Bs isAll es ss mem far near fX t k).1.Pairwise (· < ·) /\ (Bs isAll es ss mem far near fX t k).1.length <= k /\ (Bs isAll es ss mem far near fX t k).2.length <= k
 | 0 => ⟨fun x hx => (by cases hx), fun x hx => (by cases hx), List.Pairwise.nil, ar5 _, ar5 _⟩
 | k + 1 => by
   obtain ⟨h1, h2, h3, h4, h5⟩ := RL (fX := fX) k
   rw [Bs]
   split
   . have q : ∀ {l : Q.b}, (∀ x ∈ l, 0 <= x /\ x < (k : Int)) -> ∀ x ∈ l ++ [(k : Int)], 0 <= x /\ x < ((k + 1 : Nat) : Int) := fun {l} hl x hx => by
       rcases arV.mp hx with z | z
       . have := hl x z
         omega
       . have : x = (k : Int) := by simpa using z
         omega
     refine ⟨q h1, ?_, atE.mpr ⟨h3, asS _ _, fun a ha b hb => ?_⟩, by show (_ ++ [_]).length <= _; rw [arY, as9]; omega, ?_⟩
     . dsimp only
       split
       . exact q h2
       . intro x hx
         have := h2 x hx
         omega
     . have : b = (k : Int) := by simpa using hb
       have := h1 a ha
       omega
     . dsimp only
       split
       . rw [arY, as9]; omega
       . omega
   . exact ⟨fun x hx => (by have := h1 x hx; omega), fun x hx => (by have := h2 x hx; omega), h3, by omega, by omega⟩
theorem OY (h : Q.aa) (ht : t < es.length) (hu : u = -1 \/ u ∈ bD es t) {fX : Q.b} (Lq : ∀ x, x ∈ fX ↔ g9 es u t x) : ∀ (k : Nat), k <= es.length -> ∀ x : Nat, x < k →
   (((x : Int) ∈ (Bs isAll es ss mem far near fX t k).1 ↔ OX aC isAll es ss mem far near u t x) /\ ((x : Int) ∈ (Bs isAll es ss mem far near fX t k).2 ↔ (x : Int) ∈ ju aC isAll es ss mem far es.length near t))
 | 0, _, x, hx => by omega
 | k + 1, hk, x, hx => by
   have hT := h.pre.1
   have ih := OY h ht hu Lq k Q.a
   obtain ⟨b1, b2, b3, _, _⟩ := RL (isAll := isAll) (es := es) (ss := ss) (mem := mem) (far := far) (near := near) (fX := fX) (t := t) k
   have EG := hT k Q.a
   have opT := fun y hy => bR h (far := far) (near := near) es.length ht y hy
   have mE : es.getD k 0 ∈ (Bs isAll es ss mem far near fX t k).1 ↔ OX aC isAll es ss mem far near u t (es.getD k 0) := by
     by_cases e0 : es.getD k 0 = -1
     . rw [e0]
       constructor
       . intro z; have := b1 _ z; omega
       . rintro (z | z | ⟨s, p, z1, z2, z3, z4, z5, z6⟩)
         . have := ja hT ht z.1; omega
         . have := opT _ z; omega
         . have pb := cg h.pre z4
           have hq : ∃ q : Nat, p = q := ⟨p.toNat, by
             have := pb.1
             omega⟩
           obtain ⟨q, rfl⟩ := hq
           have := bR h (far := false) (near := false) es.length (k := q) Q.a _ z6
           omega
     . obtain ⟨q, hq⟩ : ∃ q : Nat, es.getD k 0 = q := ⟨(es.getD k 0).toNat, by omega⟩
       rw [hq]
       exact (ih q Q.a).1
   have mD : es.getD k 0 ∈ (Bs isAll es ss mem far near fX t k).2 ↔ es.getD k 0 ∈ ju aC isAll es ss mem far es.length near t := by
     by_cases e0 : es.getD k 0 = -1
     . rw [e0]
       constructor
       . intro z; have := b2 _ z; omega
       . intro z; have := opT _ z; omega
     . obtain ⟨q, hq⟩ : ∃ q : Nat, es.getD k 0 = q := ⟨(es.getD k 0).toNat, by omega⟩
       rw [hq]
       exact (ih q Q.a).2
   have Vg : abH isAll es ss mem far near fX t (Bs isAll es ss mem far near fX t k) k = true ↔ OX aC isAll es ss mem far near u t k := by
     rw [B3 h ht k Q.a]
     unfold abH yr
     simp only [aua, asa, asI, as1, asM, Lq, mE]
     have e1 : decide (es.getD k 0 ∈ (Bs isAll es ss mem far near fX t k).2) = decide (es.getD k 0 ∈ ju aC isAll es ss mem far es.length near t) := by rw [decide_eq_decide]; exact mD
     rw [e1, Bool.and_comm (decide (es.getD k 0 ∈ ju aC isAll es ss mem far es.length near t)) far]
     constructor
     . rintro (z | ⟨z1, z2⟩)
       . exact .inl z
       . by_cases hl : g9 es u t k
         . exact .inl hl
         . exact .inr ⟨z1, hl, z2⟩
     . rintro (z | ⟨z1, _, z2⟩)
       . exact .inl z
       . exact .inr ⟨z1, z2⟩
   by_cases e : x = k
   . subst e
     have n1 : (x : Int) ∉ (Bs isAll es ss mem far near fX t x).1 := fun z => by have := b1 _ z; omega
     have n2 : (x : Int) ∉ (Bs isAll es ss mem far near fX t x).2 := fun z => by have := b2 _ z; omega
     have hop : (x : Int) ∈ ju aC isAll es ss mem far es.length near t ↔ (OX aC isAll es ss mem far near u t x /\ ((x : Int) = t \/ es.getD x 0 ∈ ju aC isAll es ss mem far es.length near t)) := by
       constructor
       . intro z
         refine ⟨.inr (.inl z), ?_⟩
         rw [jv h es.length ht Q.a x Q.a] at z
         rcases z with z | z
         . exact .inl Q.a
         . exact .inr z.2.1
       . rintro ⟨z1, z2⟩
         rcases z2 with z2 | z2
         . rw [jv h es.length ht Q.a x Q.a]; exact .inl Q.a
         . have hge : (t : Int) <= es.getD x 0 := by
             obtain ⟨w0, w1, w2⟩ := opT _ z2
             rcases w2 with w | w
             . omega
             . have := bA hT w0 w1 w; omega
           rcases z1 with w | w | ⟨s, p, w1, w2, w3, w4, w5, w6⟩
           . have := ja hT ht w.1; omega
           . exact w
           . exfalso
             have pb := cg h.pre w4
             have hq : ∃ q : Nat, p = q := ⟨p.toNat, by
               have := pb.1
               omega⟩
             obtain ⟨q, rfl⟩ := hq
             obtain ⟨v0, v1, v2⟩ := bR h (far := false) (near := false) es.length (k := q) Q.a _ w6
             obtain ⟨_, o2⟩ := tM h ht w1 w2 w4 w5 v2 v0 v1
             refine o2 (.inr ?_)
             obtain ⟨y0, y1, y2⟩ := opT _ z2
             rw [cZ hT (m := (x : Int)) Q.a Q.a, arT, arS Q.a]
             rcases y2 with y | y
             . rw [y]; exact arK
             . exact arO _ y
     rw [Bs]
     by_cases hg : abH isAll es ss mem far near fX t (Bs isAll es ss mem far near fX t x) x = true
     . rw [arU hg]
       refine ⟨⟨fun _ => Vg.mp hg, fun _ => arQ _ Q.p⟩, ?_⟩
       rw [hop]
       dsimp only
       by_cases hd : (x : Int) = t \/ es.getD x 0 ∈ (Bs isAll es ss mem far near fX t x).2
       . rw [arU hd]
         exact ⟨fun _ => ⟨Vg.mp hg, hd.imp id mD.mp⟩, fun _ => arQ _ Q.p⟩
       . rw [arS hd]
         exact ⟨fun z => absurd z n2, fun z => absurd (z.2.imp id mD.mpr) hd⟩
     . rw [arS hg]
       exact ⟨⟨fun z => absurd z n1, fun z => absurd (Vg.mpr z) hg⟩, ⟨fun z => absurd z n2, fun z => absurd (Vg.mpr (hop.mp z).1) hg⟩⟩
   . have := ih x Q.a
     rw [Bs]
     split
     . constructor
       . rw [← this.1]
         constructor
         . intro z
           rcases arV.mp z with w | w
           . exact w
           . have : (x : Int) = k := by simpa using w
             omega
         . intro z; exact arW _ z
       . rw [← this.2]
         dsimp only
         split
         . constructor
           . intro z
             rcases arV.mp z with w | w
             . exact w
             . have : (x : Int) = k := by simpa using w
               omega
           . intro z; exact arW _ z
         . exact Iff.rfl
     . exact this
theorem WY (h : Q.aa) (ht : t < es.length) (hx : OX aC isAll es ss mem far near u t x) : 0 <= x /\ x < es.length := by
 rcases hx with z | z | ⟨s, p, w1, w2, w3, w4, w5, w6⟩
 . have := ja h.pre.1 ht z.1; omega
 . have := bR h es.length ht x z; omega
 . have pb := cg h.pre w4
   have hq : ∃ q : Nat, p = q := ⟨p.toNat, by
     have := pb.1
     omega⟩
   obtain ⟨q, rfl⟩ := hq
   have := bR h (far := false) (near := false) es.length (k := q) Q.a _ w6
   omega
theorem WZ (h : Q.aa) (ht : t < es.length) (hu : u = -1 \/ u ∈ bD es t) {fX : Q.b} (Lq : ∀ x, x ∈ fX ↔ g9 es u t x) : ((Bs isAll es ss mem far near fX t es.length).1).Perm (enP aC isAll es ss mem far near u t) := by
 obtain ⟨b1, _, b3, _, _⟩ := RL (isAll := isAll) (es := es) (ss := ss) (mem := mem) (far := far) (near := near) (fX := fX) (t := t) es.length
 refine (List.perm_ext_iff_of_nodup (nK b3) (Ag h ht hu)).mpr fun x => ?_
 rw [yt h ht hu]
 constructor
 . intro z
   have := b1 x z
   obtain ⟨q, rfl⟩ : ∃ q : Nat, x = q := ⟨x.toNat, by omega⟩
   exact (OY h ht hu Lq es.length (ar5 _) q Q.a).1.mp z
 . intro z
   have := WY h ht z
   obtain ⟨q, rfl⟩ : ∃ q : Nat, x = q := ⟨x.toNat, by omega⟩
   exact (OY h ht hu Lq es.length (ar5 _) q Q.a).1.mpr z
theorem yu {α : Type} {f : α -> List Int} {c : Nat} : ∀ {l : List α}, (∀ x ∈ l, (f x).length <= c) -> (l.flatMap f).length <= l.length * c
 | [], _ => by simp
 | x :: l, h => by
   rw [atA, arY, ar8, Nat.succ_mul]
   have := yu (l := l) fun y hy => h y (arO _ hy)
   have := h x arK
   omega
variable {α : Type}
theorem T9 (l : List α) : cutD l none (some (-1)) = l.dropLast := by
 unfold cutD
 have e1 : HT.z7 l.length 0 none = 0 := rfl
 have e2 : HT.z7 l.length l.length (some (-1)) = l.length - 1 := by
   unfold HT.z7
   simp only [show (-1 : Int) < 0 by decide, if_true]
   omega
 rw [e1, e2, List.drop_zero, Nat.sub_zero, List.dropLast_eq_take]
theorem HN (h : aZ ks x = true) : aq ks x = false := by
 have h : ks.getD x.toNat Str.empty = "one" := ar0 h
 unfold aq
 rw [h]
 decide +kernel
variable {ch : Q.b}
theorem Ua {some : Q.b} (ht : dD es) (hn : es.length = n) (hn0 : 0 < n) (hm : mem.length = n) (pR : ch.length = n) (Ds : ∀ k : Nat, k < n -> ks.getD k Str.empty = "one" -> ch.getD k 0 ∈ gf es k)
   (hs : ∀ x ∈ some, x ∈ cu Q.g es ch (n - 1)) : NW (aZ ks) es some mem (cu Q.g es ch (n - 1)) = T7 (aZ ks) ch mem some := by
 have NX : ∀ m ∈ cu Q.g es ch (n - 1), 0 <= m /\ m < n := fun m hx => by
   have := fz _ hx
   omega
 have hsb : ∀ m ∈ some, 0 <= m /\ m < mem.length := fun m hx => by
   have := NX m (hs m hx)
   omega
 have key : ∀ m ∈ cu Q.g es ch (n - 1), ∀ e, es.getD m.toNat 0 = e -> aZ ks e = true -> 0 <= e -> ch.getD e.toNat 0 = m := fun m hx e he ho e0 => by
   have hb := NX m hx
   obtain ⟨k, rfl⟩ : ∃ k : Nat, m = k := ⟨m.toNat, by omega⟩
   rw [arT] at he
   rcases (kZ ht (n - 1) (k := k) Q.a Q.a).mp hx with z | ⟨_, z⟩
   . subst z
     have := ht 0 Q.a
     omega
   . rw [he] at z
     rcases z with z | z
     . rw [HN ho] at z; cases z
     . exact z
 apply Dp
 . rw [BW, Dn]
 . intro i hi
   rw [BW] at hi
   rw [BX some mem hsb i hi]
   have h1 := WV (bw := fun x => aZ ks x && decide (0 <= x)) (es := es) (dS := some) (ch := ch) (cu Q.g es ch (n - 1)) mem (fun m hx e he ho => by
     rw [asa, asI] at ho
     exact key m hx e he ho.1 ho.2) hsb i hi
   have h2 : NW (fun x => aZ ks x && decide (0 <= x)) es some mem (cu Q.g es ch (n - 1)) = NW (aZ ks) es some mem (cu Q.g es ch (n - 1)) := by
     unfold NW
     congr 1
     funext acc m
     unfold pQ
     by_cases hq : es.getD m.toNat 0 ∈ some
     . have := hsb _ hq
       simp only [asK this.1, aur]
     . rw [arS (fun z => hq z.1), arS (fun z => hq z.1)]
   rw [← h2, h1]
   by_cases hc : (i : Int) ∈ some /\ aZ ks i = true
   . rw [arU hc, arU ?_]
     refine ⟨hc.1, by rw [hc.2, asK Q.a]; rfl, ?_⟩
     have xx := kY (Ds i Q.a (by have := ar0 hc.2; rwa [arT] at this))
     obtain ⟨k, hk⟩ : ∃ k : Nat, ch.getD i 0 = k := ⟨(ch.getD i 0).toNat, by omega⟩
     rw [hk] at xx
     rw [arT] at xx
     refine ⟨(k : Int), (kZ ht (n - 1) (k := k) Q.a Q.a).mpr (.inr ⟨by rw [xx.2.2]; exact hs _ hc.1, .inr (by rw [xx.2.2, arT, hk])⟩), by rw [arT]; exact xx.2.2⟩
   . rw [arS hc, arS (fun z => hc ⟨z.1, by have := z.2.1; rw [asa] at this; exact this.1⟩)]
theorem W0 {O : Q.b} (hp : dD es) (hn : 0 < es.length) (hs : O.Pairwise (· < ·)) (hb : ∀ x ∈ O, 0 <= x /\ x < es.length)
   (hr : ∀ k : Nat, k < es.length -> ((k : Int) ∈ O ↔ (k = 0 \/ (es.getD k 0 ∈ O /\ (isAll (es.getD k 0) = true \/ ch.getD (es.getD k 0).toNat 0 = (k : Int)))))) : cu isAll es ch Q.f = O := by
 have key : ∀ (f k : Nat), k < f -> k < es.length -> ((k : Int) ∈ cu isAll es ch Q.f ↔ (k : Int) ∈ O) := by
   intro f
   induction f with
   | zero => intro k h; omega
   | succ f ih =>
     intro k hk yw
     rw [kZ hp Q.f Q.a Q.a, hr k yw]
     have EG := hp k yw
     by_cases e : es.getD k 0 = -1
     . rw [e]
       constructor
       . rintro (z | z)
         . exact .inl z
         . have := fz _ z.1; omega
       . rintro (z | z)
         . exact .inl z
         . have := hb _ z.1; omega
     . obtain ⟨q, hq⟩ : ∃ q : Nat, es.getD k 0 = q := ⟨(es.getD k 0).toNat, by omega⟩
       rw [hq, ih q Q.a Q.a]
 refine xu (dQ _) hs fun x => ?_
 constructor
 . intro z
   have := fz _ z
   obtain ⟨q, rfl⟩ : ∃ q : Nat, x = q := ⟨x.toNat, by omega⟩
   exact (key (q + 1) q Q.a Q.a).mp z
 . intro z
   have := hb _ z
   obtain ⟨q, rfl⟩ : ∃ q : Nat, x = q := ⟨x.toNat, by omega⟩
   exact (key (q + 1) q Q.a Q.a).mpr z
theorem RM {isAll : Q.w} {es ss mem : Q.b} : ∀ j, Dq isAll es ss mem false false 0 j = cu isAll es ss j
 | 0 => rfl
 | j + 1 => by
   rw [Dq, cu, RM j]
   have e : 0 + 1 + j = j + 1 := by omega
   rw [e]
   rfl
def wm (bw : Q.w) (es ch : Q.b) : Prop := ∀ k : Nat, k < es.length -> bw k = true -> ch.getD k 0 ∈ gf es k
def tN (aC bw isAll : Q.w) (es : Q.b) : Prop := ∀ k : Nat, k < es.length -> (aC k = true /\ bw k = false /\ isAll k = false /\ gf es k = []) \/ (aC k = false /\ bw k = true /\ isAll k = false) \/ (aC k = false /\ bw k = false /\ isAll k = true)
theorem abJ (hk : tN aC bw isAll es) {e k : Nat} (he : e < es.length) (yw : k < es.length) (h : es.getD k 0 = (e : Int)) (ha : ¬ isAll e = true) : aC e = false /\ bw e = true /\ isAll e = false := by
 rcases hk e he with z | z | z
 . have : (k : Int) ∈ gf es e := rg Q.a Q.a (by rw [arT]; exact h)
   rw [z.2.2.2] at this
   cases this
 . exact z
 . exact absurd z.2.2 ha
theorem RN (hp : dD es) (hk : tN aC bw isAll es) {k e : Nat} (he : e < es.length) (yw : k < es.length) (h : es.getD k 0 = (e : Int)) (hO : (e : Int) ∈ cu isAll es ch Q.f) (ha : ¬ isAll e = true) : ((k : Int) ∈ cu isAll es ch Q.f ↔ ch.getD e 0 = (k : Int)) := by
 rw [kZ hp Q.f Q.a Q.a, h]
 have := hp k yw
 constructor
 . rintro (z | z)
   . omega
   . rcases z.2 with z | z
     . exact absurd z ha
     . rwa [arT] at z
 . intro z
   exact .inr ⟨hO, .inr (by rw [arT]; exact z)⟩
theorem Lr (hp : dD es) (hk : tN aC bw isAll es) (hc : wm bw es ch) {e : Nat} (he : e < es.length) (ho : bw e = true) (hO : (e : Int) ∈ cu isAll es ch Q.f) : oK es (cu isAll es ch Q.f) e ≠ [] /\ (oK es (cu isAll es ch Q.f) e).getD 0 0 = ch.getD e 0 := by
 have xx := hc e he ho
 have hb := kY xx
 have ha : ¬ isAll e = true := fun z => by
   rcases hk e he with y | y | y
   . rw [y.2.1] at ho; cases ho
   . rw [y.2.2] at z; cases z
   . rw [y.2.1] at ho; cases ho
 have hm : ch.getD e 0 ∈ oK es (cu isAll es ch Q.f) e := by
   refine asf.mpr ⟨xx, asK ?_⟩
   obtain ⟨q, hq⟩ : ∃ q : Nat, ch.getD e 0 = q := ⟨(ch.getD e 0).toNat, by omega⟩
   rw [hq] at hb ⊢
   rw [arT] at hb
   exact (RN hp hk he Q.a hb.2.2 hO ha).mpr hq
 have K1 : ∀ x ∈ oK es (cu isAll es ch Q.f) e, x = ch.getD e 0 := fun x hx => by
   obtain ⟨h1, h2⟩ := asf.mp hx
   have h2 := ar0 h2
   have h3 := kY h1
   obtain ⟨q, rfl⟩ : ∃ q : Nat, x = q := ⟨x.toNat, by omega⟩
   rw [arT] at h3
   exact ((RN hp hk he Q.a h3.2.2 hO ha).mp h2).symm
 generalize oK es (cu isAll es ch Q.f) e = l at hm K1
 cases l with
 | nil => cases hm
 | cons y l => exact ⟨by simp, K1 y arK⟩
theorem Ls (hp : dD es) (hn : 0 < es.length) (hk : tN aC bw isAll es) (hc : wm bw es ch) : cu isAll es (OU bw es ss (cu isAll es ch Q.f) es.length) Q.f = cu isAll es ch Q.f := by
 refine W0 hp hn (dQ _) (fun x hx => by have := fz _ hx; omega) fun k yw => ?_
 rw [kZ hp Q.f Q.a Q.a]
 have EG := hp k yw
 by_cases hO : es.getD k 0 ∈ cu isAll es ch Q.f
 . have hb := fz _ hO
   obtain ⟨e, he⟩ : ∃ e : Nat, es.getD k 0 = e := ⟨(es.getD k 0).toNat, by omega⟩
   rw [he] at hO ⊢
   by_cases ha : isAll e = true
   . simp only [ha, true_or]
   . have ho := (abJ hk Q.a yw he ha).2.1
     have nc := Lr hp hk hc Q.a ho hO
     rw [arT, RG _ _ _ _ Q.a]
     unfold Lk
     rw [arU ⟨ho, nc.1⟩, nc.2]
 . simp only [hO, false_and]
theorem RP (hp : dD es) : ∀ (f : Nat) {t e : Int}, 0 <= t -> t < es.length -> t < f -> e ∈ bD es t -> ∃ y : Int, (y = t \/ y ∈ bD es t) /\ 0 <= y /\ y < es.length /\ es.getD y.toNat 0 = e
 | 0, t, e, h0, _, hf, _ => by omega
 | f + 1, t, e, h0, h1, hf, he => by
   have hq := cZ hp h0 h1
   have hb := hp.at h0 h1
   by_cases e1 : es.getD t.toNat 0 = -1
   . rw [hq, arU e1] at he; cases he
   . rw [arS e1] at hq
     rw [hq] at he
     rcases arP.mp he with z | z
     . exact ⟨t, .inl rfl, h0, h1, z.symm⟩
     . obtain ⟨y, y1, y2, y3, y4⟩ := RP hp f (t := es.getD t.toNat 0) Q.a Q.a Q.a z
       refine ⟨y, .inr ?_, y2, y3, y4⟩
       rw [hq]
       rcases y1 with z | z
       . rw [z]; exact arK
       . exact arO _ z
theorem Ub (hp : dD es) {t : Int} (t0 : 0 <= t) (t1 : t < es.length) (x0 : 0 <= x) (x1 : x < es.length) (y0 : 0 <= y) (y1 : y < es.length) (he : es.getD x.toNat 0 = es.getD y.toNat 0) (hx : x = t \/ x ∈ bD es t) (hy : y = t \/ y ∈ bD es t) : x = y := by
 have no : ∀ a c : Int, 0 <= a -> a < es.length -> 0 <= c -> c < es.length -> es.getD a.toNat 0 = es.getD c.toNat 0 -> ¬ a ∈ bD es c := fun a c a0 a1 c0 c1 hh hm => by
   have hb := hp.at a0 a1
   rw [cZ hp c0 c1] at hm
   by_cases e1 : es.getD c.toNat 0 = -1
   . rw [arU e1] at hm; cases hm
   . rw [arS e1] at hm
     have Uc := hp.at c0 c1
     rcases arP.mp hm with z | z
     . omega
     . have := bA hp (m := es.getD c.toNat 0) Q.a Q.a z
       omega
 rcases hx with rfl | hx <;> rcases hy with rfl | hy
 . rfl
 . exact absurd hy (no _ _ y0 y1 x0 x1 he.symm)
 . exact absurd hx (no _ _ x0 x1 y0 y1 he)
 . rcases q8 hp t0 t1 hx hy with z | z | z
   . exact z
   . exact absurd z (no _ _ x0 x1 y0 y1 he)
   . exact absurd z (no _ _ y0 y1 x0 x1 he.symm)
theorem xB (h : jW es) : ∀ (f t : Nat), t < f -> t < es.length -> t = 0 \/ (0 : Int) ∈ bD es t
 | 0, t, hf, _ => by omega
 | f + 1, t, hf, ht => by
   by_cases e : t = 0
   . exact .inl e
   . obtain ⟨s, rfl⟩ : ∃ s, t = s + 1 := ⟨t - 1, by omega⟩
     have hb := h.1 (s + 1) ht
     have h2 : 0 <= es.getD (s + 1) 0 := by
       rcases h.2 s ht with z | z
       . omega
       . have := bA h.1 (m := (s : Int)) Q.a Q.a z
         omega
     have hq := cZ h.1 (m := ((s + 1 : Nat) : Int)) Q.a Q.a
     rw [arT, arS Q.a] at hq
     refine .inr ?_
     rw [hq]
     obtain ⟨q, hq2⟩ : ∃ q : Nat, es.getD (s + 1) 0 = q := ⟨(es.getD (s + 1) 0).toNat, by omega⟩
     rw [hq2]
     rcases xB h f q (by omega) (by omega) with z | z
     . rw [z]; exact arK
     . exact arO _ z
def xV (es : Q.b) (u x : Int) : Prop := u = -1 \/ u ∈ bD es x
theorem HP (hp : dD es) (x0 : 0 <= x) (x1 : x < es.length) (hy : y ∈ bD es x) (hb : xV es u y) : xV es u x := by
 rcases hb with z | z
 . exact .inl z
 . exact .inr (jL hp x0 x1 hy z)
theorem Dt (hu : u = -1 \/ u ∈ bD es t) (hx : g9 es u t x) : xV es u x := by
 rcases hx with rfl | z
 . exact hu
 . exact z.2
theorem yx (h : Q.aa) (ht : t < es.length) (hu : u = -1 \/ u ∈ bD es t) (hx : OX aC isAll es ss mem far near u t x) : xV es u x := by
 have hp := h.pre.1
 rcases hx with z | z | ⟨s, p, hs, _, _, hpi, _, z⟩
 . exact Dt hu z.1
 . obtain ⟨x0, x1, y⟩ := bR h es.length ht x z
   rcases y with rfl | y
   . exact hu
   . exact HP hp x0 x1 y hu
 . have hc := cg h.pre hpi
   have hsb := ja hp ht hs
   obtain ⟨q, rfl⟩ : ∃ q : Nat, p = q := ⟨p.toNat, by omega⟩
   have hq : xV es u q := HP hp hc.1 hc.2.1 (by rw [← hc.2.2.1]; exact Gr hp hc.1 hc.2.1 Q.a) (Dt hu hs)
   obtain ⟨x0, x1, y⟩ := bR h es.length (k := q) Q.a x z
   rcases y with rfl | y
   . exact hq
   . exact HP hp x0 x1 y hq
theorem G6 (hk : tN aC bw isAll es) (hc : wm bw es ch) (h : Q.aa) (ht : t < es.length)
   (hu : u = -1 \/ (u ∈ bD es t /\ bw u = true /\ u ∈ cu isAll es ch Q.f)) :
   ∃ Du : List Int, Du.length = es.length /\ wm bw es Du ∧
     (cu isAll es Du Q.f).Perm ((cu isAll es ch Q.f).filter (fun x => !(decide (u = -1) || decide (u ∈ bD es x))) ++ enP aC isAll es ss mem far near u t) /\ (t : Int) ∈ cu isAll es Du Q.f := by
 classical
 have hp := h.pre.1
 have hn : 0 < es.length := by omega
 have hu' : u = -1 \/ u ∈ bD es t := hu.imp id (·.1)
 have F0 : ∀ e : Int, ∃ y : Int, e ∈ bD es t -> (y = t \/ y ∈ bD es t) /\ 0 <= y /\ y < es.length /\ es.getD y.toNat 0 = e := fun e => by
   by_cases z : e ∈ bD es t
   . obtain ⟨y, hy⟩ := RP hp (t + 1) (t := (t : Int)) Q.a Q.a Q.a z
     exact ⟨y, fun _ => hy⟩
   . exact ⟨0, fun y => absurd y z⟩
 obtain ⟨st, F0⟩ : ∃ st : Int -> Int, ∀ e : Int, e ∈ bD es t -> (st e = t \/ st e ∈ bD es t) /\ 0 <= st e /\ st e < es.length /\ es.getD (st e).toNat 0 = e := ⟨fun e => Classical.choose (F0 e), fun e => Classical.choose_spec (F0 e)⟩
 let fl : Int -> Bool := fun e => (decide (e = t) && (far || near)) || (far && decide (e ∈ ju aC isAll es ss mem far es.length near t))
 let c : Nat -> Int := fun k => if (k : Int) = u \/ (g9 es u t k /\ (k : Int) ≠ t) then st k else if xV es u k then jg ss mem (fl k) k else ch.getD k 0
 have NV : ∀ k : Nat, k < es.length -> ((List.range es.length).map c).getD k 0 = c k := fun k yw => by
   rw [arM, asA, as8 yw]
   rfl
 have RQ : ∀ e : Int, g9 es u t e -> OX aC isAll es ss mem far near u t e := fun e he => by
   have hb := ja hp ht he
   obtain ⟨q, rfl⟩ : ∃ q : Nat, e = q := ⟨e.toNat, by omega⟩
   exact (B3 h ht q Q.a).mpr (.inl he)
 let N : Int -> Prop := fun x => (x ∈ cu isAll es ch Q.f /\ ¬ xV es u x) \/ OX aC isAll es ss mem far near u t x
 have hNb : ∀ x, N x -> 0 <= x /\ x < es.length := fun x hx => by
   rcases hx with z | z
   . have := fz _ z.1; omega
   . exact WY h ht z
 have hN : ∀ k : Nat, k < es.length -> (N k ↔ (k = 0 \/ (N (es.getD k 0) /\ (isAll (es.getD k 0) = true \/ c (es.getD k 0).toNat = (k : Int))))) := by
   intro k yw
   have EG := hp k yw
   have hq := cZ hp (m := (k : Int)) Q.a Q.a
   rw [arT] at hq
   by_cases k0 : k = 0
   . subst k0
     rw [arU Q.a] at hq
     refine ⟨fun _ => .inl rfl, fun _ => ?_⟩
     rcases hu with z | z
     . refine .inr (RQ _ ?_)
       rcases xB h.pre (t + 1) t (by omega) ht with y | y
       . exact .inl Q.a
       . exact .inr ⟨y, .inl z⟩
     . refine .inl ⟨(kZ hp Q.f (k := 0) Q.a Q.a).mpr Q.F, ?_⟩
       rintro (y | y)
       . have := fz _ z.2.2; omega
       . rw [hq] at y; cases y
   . have e0 : es.getD k 0 ≠ -1 := by
       rcases xB h.pre (k + 1) k (by omega) yw with y | y
       . exact absurd y k0
       . intro z; rw [hq, arU z] at y; cases y
     rw [arS e0] at hq
     have hO := kZ (isAll := isAll) (ch := ch) hp Q.f (k := k) Q.a Q.a
     have hE := B3 (far := far) (near := near) (u := u) h ht k yw
     obtain ⟨e, he⟩ : ∃ e : Nat, es.getD k 0 = e := ⟨(es.getD k 0).toNat, by omega⟩
     rw [he] at hq hO hE EG ⊢
     rw [arT] at hO ⊢
     have ang : e < es.length := by omega
     have eb : xV es u e -> xV es u k := fun z => HP hp Q.a Q.a (by rw [hq]; exact arK) z
     have self : ∀ x : Int, 0 <= x -> x < es.length -> ¬ x ∈ bD es x := fun x a0 a1 z => by
       have := bA hp a0 a1 z; omega
     have stp : (e : Int) ∈ bD es t -> (st e = k ↔ ((k : Int) = t \/ (k : Int) ∈ bD es t)) := fun z => by
       obtain ⟨s1, s2, s3, s4⟩ := F0 e z
       constructor
       . intro y; rw [← y]; exact s1
       . intro y
         exact Ub hp (t := (t : Int)) Q.a Q.a s2 s3 Q.a Q.a (by rw [s4, arT, he]) s1 y
     by_cases hB : xV es u k
     . by_cases heu : (e : Int) = u
       . have hu2 := hu.resolve_left Q.a
         rw [← heu] at hu2
         have hnB : ¬ xV es u e := by
           rintro (z | z)
           . omega
           . rw [heu] at z; exact self u Q.a Q.a z
         have hna : ¬ isAll e = true := fun z => by
           rcases hk e ang with y | y | y
           . rw [y.2.1] at hu2; cases hu2.2.1
           . rw [y.2.2] at z; cases z
           . rw [y.2.1] at hu2; cases hu2.2.1
         have hce : c e = st e := arU (.inl heu)
         rw [hce]
         have hnE : ¬ OX aC isAll es ss mem far near u t e := fun z => hnB (yx h ht hu' z)
         constructor
         . rintro (z | z)
           . exact absurd hB z.2
           . rcases hE.mp z with y | y
             . refine .inr ⟨.inl ⟨hu2.2.2, hnB⟩, .inr ((stp hu2.1).mpr ?_)⟩
               rcases y with y | y
               . exact .inl y
               . exact .inr y.1
             . exact absurd y.1 hnE
         . rintro (z | ⟨_, z | z⟩)
           . exact absurd z k0
           . exact absurd z hna
           . refine .inr (RQ _ ?_)
             rcases (stp hu2.1).mp z with y | y
             . exact .inl y
             . exact .inr ⟨y, hB⟩
       . have hBe : xV es u e := by
           rcases hB with z | z
           . exact .inl z
           . rw [hq] at z
             rcases arP.mp z with y | y
             . exact absurd y.symm heu
             . exact .inr y
         have L1 : N k ↔ OX aC isAll es ss mem far near u t k := ⟨fun z => z.resolve_left (fun y => y.2 hB), .inr⟩
         have L2 : N e ↔ OX aC isAll es ss mem far near u t e := ⟨fun z => z.resolve_left (fun y => y.2 hBe), .inr⟩
         rw [L1, L2, hE]
         by_cases hL : g9 es u t e /\ (e : Int) ≠ t
         . have hce : c e = st e := arU (.inr hL)
           rw [hce]
           have het : (e : Int) ∈ bD es t := by
             rcases hL.1 with y | y
             . exact absurd y hL.2
             . exact y.1
           have hm : yr aC isAll es ss mem far near u t e k ↔ isAll e = true := by
             unfold yr
             constructor
             . rintro (z | z)
               . exact z
               . rcases z.2 with y | y
                 . exact absurd y hL.2
                 . exact absurd hL.1 y
             . exact .inl
           rw [hm, stp het]
           constructor
           . rintro (z | z)
             . refine .inr ⟨RQ _ hL.1, .inr ?_⟩
               rcases z with y | y
               . exact .inl y
               . exact .inr y.1
             . exact .inr ⟨z.1, .inl z.2.2⟩
           . rintro (z | ⟨z1, z2⟩)
             . exact absurd z k0
             . by_cases hLk : g9 es u t k
               . exact .inl hLk
               . rcases z2 with z2 | z2
                 . exact .inr ⟨z1, hLk, z2⟩
                 . refine absurd ?_ hLk
                   rcases z2 with y | y
                   . exact .inl y
                   . exact .inr ⟨y, hB⟩
         . have hce : c e = jg ss mem (fl e) e := by
             show Q.cm = _
             rw [arS (fun z => z.elim heu hL), arU hBe]
           rw [hce]
           have hnL : ¬ g9 es u t k := by
             rintro (z | z)
             . refine hL ⟨.inr ⟨?_, hBe⟩, by omega⟩
               rw [← z, hq]
               exact arK
             . have := bA hp (m := (t : Int)) Q.a Q.a z.1
               exact hL ⟨.inr ⟨jL hp Q.a Q.a z.1 (by rw [hq]; exact arK), hBe⟩, by omega⟩
           have hm : yr aC isAll es ss mem far near u t e k ↔ (isAll e = true \/ jg ss mem (fl e) e = k) := by
             have : (e : Int) = t \/ ¬ g9 es u t e := by
               by_cases y : (e : Int) = t
               . exact .inl y
               . exact .inr (fun w => hL ⟨w, y⟩)
             unfold yr
             constructor
             . rintro (z | z)
               . exact .inl z
               . exact .inr z.1
             . rintro (z | z)
               . exact .inl z
               . exact .inr ⟨z, this⟩
           rw [hm]
           constructor
           . rintro (z | z)
             . exact absurd z hnL
             . exact .inr ⟨z.1, z.2.2⟩
           . rintro (z | z)
             . exact absurd z k0
             . exact .inr ⟨z.1, hnL, z.2⟩
     . have abL : ¬ xV es u e := fun z => hB (eb z)
       have heu : (e : Int) ≠ u := fun z => hB (.inr (by rw [hq, z]; exact arK))
       have hce : c e = ch.getD e 0 := by
         show Q.cm = _
         rw [arS (fun z => z.elim heu (fun y => abL (Dt hu' y.1))), arS abL]
       rw [hce]
       have L1 : N k ↔ (k : Int) ∈ cu isAll es ch Q.f := ⟨fun z => z.elim (·.1) (fun y => absurd (yx h ht hu' y) hB), fun z => .inl ⟨z, hB⟩⟩
       have L2 : N e ↔ (e : Int) ∈ cu isAll es ch Q.f := ⟨fun z => z.elim (·.1) (fun y => absurd (yx h ht hu' y) abL), fun z => .inl ⟨z, abL⟩⟩
       rw [L1, L2]
       exact hO
 have Ab : ∀ x, x ∈ cu isAll es ((List.range es.length).map c) Q.f ↔ N x := by
   have key : ∀ (f k : Nat), k < f -> k < es.length -> ((k : Int) ∈ cu isAll es ((List.range es.length).map c) Q.f ↔ N k) := by
     intro f
     induction f with
     | zero => intro k h; omega
     | succ f ih =>
       intro k hkf yw
       rw [kZ hp Q.f Q.a Q.a, hN k yw]
       have EG := hp k yw
       by_cases e : es.getD k 0 = -1
       . rw [e]
         constructor
         . rintro (z | z)
           . exact .inl z
           . have := fz _ z.1; omega
         . rintro (z | z)
           . exact .inl z
           . have := hNb _ z.1; omega
       . obtain ⟨q, hq⟩ : ∃ q : Nat, es.getD k 0 = q := ⟨(es.getD k 0).toNat, by omega⟩
         rw [hq, ih q Q.a Q.a, arT, NV q Q.a]
   intro x
   constructor
   . intro z
     have := fz _ z
     obtain ⟨q, rfl⟩ : ∃ q : Nat, x = q := ⟨x.toNat, by omega⟩
     exact (key (q + 1) q Q.a Q.a).mp z
   . intro z
     have := hNb _ z
     obtain ⟨q, rfl⟩ : ∃ q : Nat, x = q := ⟨x.toNat, by omega⟩
     exact (key (q + 1) q Q.a Q.a).mpr z
 have bb : ∀ x : Int, ((!(decide (u = -1) || decide (u ∈ bD es x))) = true ↔ ¬ xV es u x) := fun x => by
   unfold xV
   simp
 refine ⟨(List.range es.length).map c, by simp, fun k yw ho => ?_, ?_, (Ab _).mpr (.inr (RQ _ Q.F))⟩
 . rw [NV k yw]
   show (if (k : Int) = u \/ (g9 es u t k /\ (k : Int) ≠ t) then st k else if xV es u k then jg ss mem (fl k) k else ch.getD k 0) ∈ _
   by_cases z : (k : Int) = u \/ (g9 es u t k /\ (k : Int) ≠ t)
   . rw [arU z]
     have hkt : (k : Int) ∈ bD es t := by
       rcases z with y | y
       . rw [y]; exact hu'.resolve_left Q.a
       . exact (y.1.resolve_left y.2).1
     obtain ⟨_, s2, s3, s4⟩ := F0 k hkt
     exact rg s2 s3 s4
   . rw [arS z]
     by_cases y : xV es u k
     . rw [arU y]
       rcases hk k yw with w | w | w
       . rw [w.2.1] at ho; cases ho
       . exact RH h yw w.1 w.2.2
       . rw [w.2.1] at ho; cases ho
     . rw [arS y]
       exact hc k yw ho
 . refine (List.perm_ext_iff_of_nodup (nK (dQ _)) ?_).mpr fun x => ?_
   . rw [ass]
     refine ⟨at0 _ (nK (dQ _)), Ag h ht hu', fun a ha b hb hab => ?_⟩
     subst hab
     exact (bb a).mp (asf.mp ha).2 (yx h ht hu' ((yt h ht hu' a).mp hb))
   . rw [Ab, arV, asf, yt h ht hu', bb]
abbrev k6 := List Int × List Int × List Int
def xC (s : k6) : L3.D := .tup [.lst (s.1.map .int), .lst (s.2.1.map .int), .lst (s.2.2.map .int)]
def Lv (s : k6) : T := .tup [.lst ((s.1.map .int).map T.sh), .lst ((s.2.1.map .int).map T.sh), .lst ((s.2.2.map .int).map T.sh)]
theorem yy (s : k6) : (Lv s).dJ = xC s := by
 unfold Lv xC
 rw [T.dJ, T.ez, T.ez, T.ez, T.ez, T.dJ, T.dJ, T.dJ, eV, eV, eV]
theorem ng (s : k6) : (Lv s).clean = true := by
 unfold Lv
 rw [T.clean, T.eB, T.eB, T.eB, T.eB, fV, fV, fV, jI, jI, jI]
 rfl
inductive J where
 | out (m : Int) | BP (m : Int) | keep (m p q : Int) | put (x p q : Int) | Gj (w : Str) (ds : Q.k)
def J.w : J -> Str
 | .out _ => "out"
 | .BP _ => "in"
 | .keep _ _ _ => "keep"
 | .put _ _ _ => "put"
 | .Gj w _ => w
def J.ds : J -> List L3.D
 | .out m => [.int m]
 | .BP m => [.int m]
 | .keep m p q => [.int m, .int p, .int q]
 | .put x p q => [.int x, .int p, .int q]
 | .Gj _ ds => ds
def J.d (r : J) : L3.D := .tup (.str r.w :: r.ds)
def abM : List Str := ["sign", "way", "call", "say", "rest"]
def RT (d : L3.D) : Prop := (∃ i, d = .int i) \/ ∃ x, d = .str x
def J.ok (s : k6) : J -> Prop
 | .keep m _ _ => 0 <= m /\ m < s.2.1.length
 | .put x _ _ => 0 <= x /\ x < s.2.2.length
 | .Gj w ds => w ∈ abM /\ ds.length <= 3 /\ ∀ d ∈ ds, RT d
 | _ => True
def A2 (back : Bool) (r : J) (ops : Q.b) : List Int := match r with
 | .out m => if back then sortI (ops ++ [m]) else ops.filter Q.V
 | .BP m => if back then ops.filter Q.V else sortI (ops ++ [m])
 | _ => ops
def Lw (back : Bool) (r : J) (mem : Q.b) : List Int := match r with
 | .keep m p q => mem.set m.toNat (if back then p else q)
 | _ => mem
def xD (back : Bool) (r : J) (bs : Q.b) : List Int := match r with
 | .put x p q => bs.set x.toNat (if back then p else q)
 | _ => bs
def dU (back : Bool) (s : k6) (r : J) : k6 := (A2 back r s.1, Lw back r s.2.1, xD back r s.2.2)
def Fits (back : Bool) : List J -> k6 -> Prop
 | [], s => s.1.length < 60
 | r :: rs, s => s.1.length < 60 /\ r.ok s /\ Fits back rs (dU back s r)
theorem Fits.app {back : Bool} {ys : List J} : ∀ {xs : List J} {s : k6}, Fits back xs s -> Fits back ys (xs.foldl (dU back) s) -> Fits back (xs ++ ys) s
 | [], _, _, h => h
 | _ :: _, _, h, h2 => ⟨h.1, h.2.1, Fits.app h.2.2 h2⟩
variable {s : k6} {r : J}
theorem J.abN (h : r.ok s) : r.ds.length <= 3 /\ ∀ d ∈ r.ds, RT d := by
 cases r with
 | Gj w ds => exact h.2
 | out m => exact ⟨arN rfl, fun d hd => by simp only [J.ds, arP, asw, at3] at hd; exact .inl ⟨_, hd⟩⟩
 | BP m => exact ⟨arN rfl, fun d hd => by simp only [J.ds, arP, asw, at3] at hd; exact .inl ⟨_, hd⟩⟩
 | keep m p q => exact ⟨arN rfl, fun d hd => by
     simp only [J.ds, arP, asw, at3] at hd
     rcases hd with h | h | h <;> exact .inl ⟨_, h⟩⟩
 | put m p q => exact ⟨arN rfl, fun d hd => by
     simp only [J.ds, arP, asw, at3] at hd
     rcases hd with h | h | h <;> exact .inl ⟨_, h⟩⟩
structure sS (n : Nat) (s : k6) : Prop where
 up : s.1.Pairwise (· < ·)
 lo : ∀ x ∈ s.1, 0 <= x /\ x < n
 mem : s.2.1.length = n
def Right (n : Nat) (s : k6) : J -> Prop
 | .out m => m ∈ s.1
 | .BP m => m ∉ s.1 /\ 0 <= m /\ m < n
 | .keep m p _ => 0 <= m /\ m < s.2.1.length /\ s.2.1.getD m.toNat 0 = p
 | .put x p _ => 0 <= x /\ x < s.2.2.length /\ s.2.2.getD x.toNat 0 = p
 | .Gj w ds => w ∈ abM /\ ds.length <= 3 /\ ∀ d ∈ ds, RT d
theorem Right.ok (h : Right n s r) : r.ok s := by
 cases r with
 | out m => trivial
 | BP m => trivial
 | keep m p q => exact ⟨h.1, h.2.1⟩
 | put m p q => exact ⟨h.1, h.2.1⟩
 | Gj w ds => exact h
theorem OZ {n : Nat} : ∀ {l : Q.b} {lo : Int}, l.Pairwise (· < ·) -> (∀ x ∈ l, lo <= x /\ x < n) -> 0 <= lo -> l.length <= ((n : Int) - lo).toNat
 | [], _, _, _, _ => asr _
 | y :: l, lo, hp, hl, h0 => by
   have hy := hl y arK
   obtain ⟨h1, h2⟩ := asB.mp hp
   have := OZ (n := n) (lo := y + 1) h2 (fun x hx => ⟨by have := h1 x hx; omega, (hl x (arO _ hx)).2⟩) Q.a
   rw [ar8]
   omega
theorem sS.len (h : sS n s) : s.1.length <= n := by
 have := OZ h.up h.lo (Int.le_refl 0)
 omega
theorem tO (h : l.Pairwise (· <= ·)) (nd : l.Nodup) : l.Pairwise (· < ·) := by
 induction l with
 | nil => exact .nil
 | cons y l ih =>
   obtain ⟨h1, h2⟩ := asB.mp h
   obtain ⟨n1, n2⟩ := as2.mp nd
   refine asB.mpr ⟨fun x hx => ?_, ih h2 n2⟩
   have := h1 x hx
   have : y ≠ x := fun e => n1 (e ▸ hx)
   omega
theorem Dv (h : l.Pairwise (· < ·)) : l.Nodup := h.imp fun h e => by omega
theorem Lx (h : l.Pairwise (· < ·)) : l.Pairwise (· <= ·) := h.imp fun h => by omega
theorem abO (h : l.Pairwise (· < ·)) (hm : m ∉ l) : (sortI (l ++ [m])).Pairwise (· < ·) := by
 refine tO (gA _) ((sortI_perm _).nodup_iff.mpr ?_)
 refine ass.mpr ⟨Dv h, by simp, fun x hx y hy e => ?_⟩
 have : y = m := by simpa using hy
 subst this
 exact hm (e ▸ hx)
theorem Ud (h : l.Pairwise (· < ·)) (hm : m ∈ l) : sortI (l.filter Q.V ++ [m]) = l := by
 refine (qv (z := l) ?_ (Lx h)).symm
 have nd := Dv h
 induction l with
 | nil => cases hm
 | cons y l ih =>
   obtain ⟨n1, n2⟩ := as2.mp nd
   by_cases e : y = m
   . subst e
     have : (y :: l).filter (fun x => !decide (x = y)) = l := by
       rw [atx]
       simp
       exact fun x hx e => n1 (e ▸ hx)
     rw [this]
     exact (aso (l₁ := [y]) (l₂ := l))
   . have hm' : m ∈ l := by
       rcases arP.mp hm with h' | h'
       . exact absurd h'.symm e
       . exact h'
     have : (y :: l).filter Q.V = y :: l.filter Q.V := by
       rw [atx]; simp [e]
     rw [this, asb]
     exact List.Perm.cons y (ih (asB.mp h).2 hm' n2)
theorem W2 (h : l.Pairwise (· < ·)) (hm : m ∉ l) : (sortI (l ++ [m])).filter Q.V = l := by
 have p : ((sortI (l ++ [m])).filter Q.V).Perm ((l ++ [m]).filter Q.V) := (sortI_perm _).filter _
 have e : (l ++ [m]).filter Q.V = l := by
   rw [atc]
   have : l.filter Q.V = l := List.filter_eq_self.mpr fun x hx => by
     have : x ≠ m := fun e => hm (e ▸ hx)
     simp [this]
   rw [this]; simp
 rw [e] at p
 have s1 : ((sortI (l ++ [m])).filter Q.V).Pairwise (· <= ·) := (gA _).sublist List.filter_sublist
 have := qv p s1
 rw [this]
 exact yo (Lx h)
theorem Ly {q : Int} (h0 : 0 <= m) (h1 : m < l.length) (hp : l.getD m.toNat 0 = p) : (l.set m.toNat q).set m.toNat p = l := by
 have hm : m.toNat < l.length := by omega
 rw [List.set_set]
 subst hp
 rw [arM, arZ hm]
 simp
theorem u0 (g : sS n s) (h : Right n s r) : sS n (dU false s r) := by
 obtain ⟨g1, g2, g3⟩ := g
 cases r with
 | out m => exact ⟨g1.sublist List.filter_sublist, fun x hx => g2 x (asf.mp hx).1, g3⟩
 | BP m =>
   refine ⟨abO g1 h.1, fun x hx => ?_, g3⟩
   have := iP.mp hx
   rcases arV.mp this with h' | h'
   . exact g2 x h'
   . have : x = m := by simpa using h'
     subst this; exact h.2
 | keep m p q => exact ⟨g1, g2, by show (s.2.1.set _ _).length = n; rw [asU]; exact g3⟩
 | put m p q => exact ⟨g1, g2, g3⟩
 | Gj w ds => exact ⟨g1, g2, g3⟩
theorem Gs (g : sS n s) (h : Right n s r) : dU true (dU false s r) r = s := by
 obtain ⟨g1, g2, g3⟩ := g
 obtain ⟨ops, mem, bs⟩ := s
 cases r with
 | out m => exact Prod.ext (Ud g1 h) rfl
 | BP m => exact Prod.ext (W2 g1 h.1) rfl
 | keep m p q => exact Prod.ext rfl (Prod.ext (Ly h.1 h.2.1 h.2.2) rfl)
 | put m p q => exact Prod.ext rfl (Prod.ext rfl (Ly h.1 h.2.1 h.2.2))
 | Gj w ds => rfl
def jX (n : Nat) : List J -> k6 -> Prop
 | [], _ => True
 | r :: rs, s => Right n s r /\ jX n rs (dU false s r)
theorem jX.app {n : Nat} {ys : List J} : ∀ {xs : List J} {s : k6}, jX n (xs ++ ys) s ↔ jX n xs s /\ jX n ys (xs.foldl (dU false) s)
 | [], s => ⟨fun h => ⟨trivial, h⟩, fun h => h.2⟩
 | x :: xs, s => by
   show Right n s x /\ jX n (xs ++ ys) _ ↔ (Right n s x /\ jX n xs _) /\ _
   rw [jX.app, and_assoc]
   rfl
theorem A3 {n : Nat} : ∀ {rs : List J} {s : k6}, sS n s -> jX n rs s -> sS n (rs.foldl (dU false) s)
 | [], _, g, _ => g
 | r :: rs, s, g, h => by rw [atb]; exact A3 (rs := rs) (u0 g h.1) h.2
theorem tP {n : Nat} (hn : n < 60) : ∀ {rs : List J} {s : k6}, sS n s -> jX n rs s -> Fits false rs s
 | [], _, g, _ => by have := g.len; show _ < 60; omega
 | _ :: _, _, g, h => ⟨by have := g.len; omega, h.1.ok, tP hn (u0 g h.1) h.2⟩
theorem abP (h : Right n s r) : r.ok (dU false s r) := by
 cases r with
 | out m => trivial
 | BP m => trivial
 | keep m p q => exact ⟨h.1, by show m < ((s.2.1.set _ _).length : Nat); rw [asU]; exact h.2.1⟩
 | put m p q => exact ⟨h.1, by show m < ((s.2.2.set _ _).length : Nat); rw [asU]; exact h.2.1⟩
 | Gj w ds => exact h
theorem tQ {n : Nat} (hn : n < 60) : ∀ {rs : List J} {s : k6}, sS n s -> jX n rs s →
   Fits true rs.reverse (rs.foldl (dU false) s) /\ rs.reverse.foldl (dU true) (rs.foldl (dU false) s) = s
 | [], s, g, _ => ⟨by have := g.len; show s.1.length < 60; omega, rfl⟩
 | r :: rs, s, g, h => by
   obtain ⟨h1, h2⟩ := tQ hn (u0 g h.1) h.2
   rw [asz, atb, ati]
   refine ⟨Fits.app h1 ?_, ?_⟩
   . rw [h2]
     refine ⟨by have := (u0 g h.1).len; omega, abP h.1, ?_⟩
     rw [Gs g h.1]
     have := g.len
     show _ < 60
     omega
   . rw [h2]
     exact Gs g h.1
def J.W3 : J -> Bool
 | .put _ _ _ => true
 | _ => false
def J.O1 : J -> Bool
 | .keep _ _ _ => true
 | _ => false
def J.comes (back : Bool) : J -> Bool
 | .out _ => back
 | .BP _ => !back
 | _ => false
theorem HQ {w : Str} (h : w ∈ abM) : ¬ w = "put" /\ ¬ w = "keep" /\ ¬ w = "in" /\ ¬ w = "out" := by
 have : ∀ w ∈ abM, ¬ w = "put" /\ ¬ w = "keep" /\ ¬ w = "in" /\ ¬ w = "out" := Q.j
 exact this w h
theorem akm (h : r.ok s) : decide (r.w = "put") = r.W3 := by
 cases r with
 | Gj w ds => exact asi (HQ h.1).1
 | _ => first | exact decide_eq_true rfl | (refine decide_eq_false ?_; dsimp only [J.w]; decide +kernel)
theorem aeB (h : r.ok s) : decide (r.w = "keep") = r.O1 := by
 cases r with
 | Gj w ds => exact asi (HQ h.1).2.1
 | _ => first | exact decide_eq_true rfl | (refine decide_eq_false ?_; dsimp only [J.w]; decide +kernel)
theorem W4 (h : r.ok s) (back : Bool) : decide (r.w = (if back then "out" else "in" : Str)) = r.comes back := by
 cases r with
 | Gj w ds => cases back <;> first | exact asi (HQ h.1).2.2.1 | exact asi (HQ h.1).2.2.2
 | _ => cases back <;> first | exact decide_eq_true rfl | (refine decide_eq_false ?_; dsimp only [J.w]; decide +kernel)
variable {back : Bool}
theorem abQ (h : r.comes back = true) (ops : Q.b) : ∃ m, r.ds = [.int m] /\ A2 back r ops = sortI (ops ++ [m]) := by
 cases r with
 | out m => cases back <;> first | exact ⟨m, rfl, rfl⟩ | cases h
 | BP m => cases back <;> first | exact ⟨m, rfl, rfl⟩ | cases h
 | _ => cases h
theorem akn (h : r.comes (!back) = true) (ops : Q.b) : ∃ m, r.ds = [.int m] /\ A2 back r ops = ops.filter Q.V := by
 cases r with
 | out m => cases back <;> first | exact ⟨m, rfl, rfl⟩ | cases h
 | BP m => cases back <;> first | exact ⟨m, rfl, rfl⟩ | cases h
 | _ => cases h
theorem abR (h1 : r.comes back = false) (h2 : r.comes (!back) = false) (ops : Q.b) : A2 back r ops = ops := by
 cases r with
 | out m => cases back <;> first | (cases h1; done) | (cases h2; done)
 | BP m => cases back <;> first | (cases h1; done) | (cases h2; done)
 | _ => rfl
theorem W5 (r : J) : AJ (L3.D.str r.w :: r.ds) 0 = some (.str r.w) := cV (j := 0) rfl
theorem agy {t : k6} (h : r.ok s) (e1 : t.2.1.length = s.2.1.length) (e2 : t.2.2.length = s.2.2.length) : r.ok t := by
 cases r with
 | keep m p q => exact ⟨h.1, by rw [e1]; exact h.2⟩
 | put m p q => exact ⟨h.1, by rw [e2]; exact h.2⟩
 | _ => exact h
theorem W6 (back : Bool) (r : J) (l : Q.b) : (Lw back r l).length = l.length := by
 cases r <;> first | rfl | exact asU
theorem Lz (back : Bool) (r : J) (l : Q.b) : (xD back r l).length = l.length := by
 cases r <;> first | rfl | exact asU
theorem Fits.all {back : Bool} : ∀ {rs : List J} {s : k6}, Fits back rs s -> ∀ r ∈ rs, r.ok s
 | [], _, _, r, hr => by cases hr
 | x :: rs, s, h, r, hr => by
   rcases arP.mp hr with rfl | hr
   . exact h.2.1
   . exact agy (Fits.all h.2.2 r hr) (W6 ..).symm (Lz ..).symm
def gB (bs nm : Q.k) (tr : L3.D) (is os ws : Q.k) : L3.D := .ins "Chart" [("boxes", .lst bs), ("names", .lst nm), ("tree", tr), ("ins", .lst is), ("outs", .lst os), ("ways", .lst ws)]
section
variable {bs nm is os ws : Q.k} {tr : L3.D}
theorem LC : List.lookup ("names" : Str) [(("boxes" : Str), L3.D.lst bs), ("names", .lst nm), ("tree", tr), ("ins", .lst is), ("outs", .lst os), ("ways", .lst ws)] = some (.lst nm) := by
 rw [fq Q.d, oF]
theorem jD : List.lookup ("tree" : Str) [(("boxes" : Str), L3.D.lst bs), ("names", .lst nm), ("tree", tr), ("ins", .lst is), ("outs", .lst os), ("ways", .lst ws)] = some tr := by
 rw [fq Q.d, fq Q.d, oF]
theorem Ue : List.lookup ("ins" : Str) [(("boxes" : Str), L3.D.lst bs), ("names", .lst nm), ("tree", tr), ("ins", .lst is), ("outs", .lst os), ("ways", .lst ws)] = some (.lst is) := by
 rw [fq Q.d, fq Q.d, fq Q.d, oF]
theorem O2 : List.lookup ("outs" : Str) [(("boxes" : Str), L3.D.lst bs), ("names", .lst nm), ("tree", tr), ("ins", .lst is), ("outs", .lst os), ("ways", .lst ws)] = some (.lst os) := by
 rw [fq Q.d, fq Q.d, fq Q.d, fq Q.d, oF]
theorem nL : List.lookup ("ways" : Str) [(("boxes" : Str), L3.D.lst bs), ("names", .lst nm), ("tree", tr), ("ins", .lst is), ("outs", .lst os), ("ways", .lst ws)] = some (.lst ws) := by
 rw [fq Q.d, fq Q.d, fq Q.d, fq Q.d, fq Q.d, oF]
end
def Ah (bs nm : Q.k) : List Q.A := [("boxes", .lst (bs.map T.sh)), ("names", .lst (nm.map T.sh))]
def Ai (is os ws : Q.k) : List Q.A := [("ins", .lst (is.map T.sh)), ("outs", .lst (os.map T.sh)), ("ways", .lst (ws.map T.sh))]
def nM (bs nm : Q.k) (t : T) (is os ws : Q.k) : List Q.A := Ah bs nm ++ (("tree" : Str), t) :: Ai is os ws
theorem O4 (bs nm : Q.k) (t : T) (is os ws : Q.k) : T.dJ (.ins "Chart" (nM bs nm t is os ws)) = gB bs nm t.dJ is os ws := by
 unfold nM Ah Ai
 rw [asb, asb, at6, T.dJ, T.wg, T.wg, T.wg, T.wg, T.wg, T.wg, T.wg, fJ, fJ, fJ, fJ, fJ]
 rfl
theorem cH {ds : Q.k} (h : D.bQ ds = true) : (T.lst (ds.map T.sh)).clean = true := by
 rw [fV]
 induction ds with
 | nil => rfl
 | cons d ds ih =>
   rw [D.bQ, asa] at h
   rw [asl, T.eB, ih h.2, T.clean, h.1]; rfl
theorem HR {bs nm : Q.k} (h1 : D.bQ bs = true) (h2 : D.bQ nm = true) : T.cz (Ah bs nm) = true := by
 unfold Ah
 rw [T.cz, T.cz, T.cz, cH h1, cH h2]; rfl
theorem HS {is os ws : Q.k} (h1 : D.bQ is = true) (h2 : D.bQ os = true) (h3 : D.bQ ws = true) : T.cz (Ai is os ws) = true := by
 unfold Ai
 rw [T.cz, T.cz, T.cz, T.cz, cH h1, cH h2, cH h3]; rfl
def EV (p : Str × Int) : L3.D := .tup [.str p.1, .int p.2]
structure cU where
 src : Int
 sign : Str
 asks : List L3.D
 jM : List L3.D
 tgt : Int
 mode : Str
def cR (w : cU) : L3.D := .tup [.int w.src, .str w.sign, .tup w.asks, .tup w.jM, .int w.tgt, .str w.mode]
def w0 : cU := ⟨0, Str.empty, [], [], 0, Str.empty⟩
def dg (ws : List cU) (i : Int) : cU := ws.getD i.toNat w0
variable {ws : List cU}
theorem rq {i : Int} (h0 : 0 <= i) (h1 : i < ws.length) : dg ws i ∈ ws := by
 unfold dg
 rw [arM, arZ Q.a]
 exact atn _
def gI (ks : Q.h) (es : Q.b) (w : cU) : Int := HK (aZ ks) es w.src w.tgt
def EW (es : Q.b) (u x : Int) : Bool := decide (u = -1) || decide (u ∈ bD es x)
theorem Dw : EW es u x = true ↔ xV es u x := by
 unfold EW xV
 simp
def nO (es ops : Q.b) (u : Int) : List Int := (ops.filter (fun m => decide (u = -1) || decide (u ∈ bD es m))).reverse
def Ap (es : Q.b) (u v : Int) : Prop := u ≠ -1 /\ v ≠ -1 /\ u ≠ v /\ u ∉ bD es v /\ v ∉ bD es u
theorem Ap.symm {v : Int} (h : Ap es u v) : Ap es v u := ⟨h.2.1, h.1, fun e => h.2.2.1 e.symm, h.2.2.2.2, h.2.2.2.1⟩
theorem Gu (hp : dD es) {v : Int} (x0 : 0 <= x) (x1 : x < es.length) (ap : Ap es u v) (h : xV es u x) : ¬ xV es v x := fun k => by
 have h := h.resolve_left ap.1
 have k := k.resolve_left ap.2.1
 rcases q8 hp x0 x1 h k with e | e | e
 . exact ap.2.2.1 e
 . exact ap.2.2.2.1 e
 . exact ap.2.2.2.2 e
theorem Gv (nd : l.Nodup) (hb : ∀ x ∈ l, 0 <= x /\ x < n) : l.length <= n := by
 have := OZ (n := n) (lo := 0) (tO (gA l) ((sortI_perm l).nodup_iff.mpr nd)) (fun x hx => hb x (iP.mp hx)) (Int.le_refl _)
 rw [jJ] at this
 omega
theorem xE {α : Type} {es : Q.b} (hp : dD es) {top : α -> Int} {f : α -> List Int} : ∀ {gs : List α}, gs.Pairwise (fun a c => Ap es (top a) (top c)) -> (∀ a ∈ gs, (f a).Nodup /\ ∀ x ∈ f a, (0 <= x /\ x < es.length) /\ xV es (top a) x) →
   (gs.flatMap f).Nodup /\ ∀ x ∈ gs.flatMap f, (0 <= x /\ x < es.length) /\ ∃ a ∈ gs, xV es (top a) x
 | [], _, _ => ⟨by simp, fun x hx => by simp at hx⟩
 | a :: gs, hA, hf => by
   obtain ⟨h1, h2⟩ := asB.mp hA
   obtain ⟨i1, i2⟩ := xE hp h2 (fun c hc => hf c (arO _ hc))
   obtain ⟨f1, f2⟩ := hf a arK
   rw [atA]
   refine ⟨ass.mpr ⟨f1, i1, fun x hx y hy e => ?_⟩, fun x hx => ?_⟩
   . subst e
     obtain ⟨b1, c, hc, hb⟩ := i2 x hy
     exact Gu hp b1.1 b1.2 (h1 c hc) (f2 x hx).2 hb
   . rcases arV.mp hx with hx | hx
     . exact ⟨(f2 x hx).1, a, arK, (f2 x hx).2⟩
     . obtain ⟨b1, c, hc, hb⟩ := i2 x hx
       exact ⟨b1, c, arO _ hc, hb⟩
theorem W7 {isAll : Q.w} {es ch : Q.b} (hp : dD es) : ∀ (f : Nat) {x y : Int}, x < f -> x ∈ cu isAll es ch Q.f -> y ∈ bD es x -> y ∈ cu isAll es ch Q.f
 | 0, x, y, hf, hx, hy => by
   have := (fz _ hx).1
   omega
 | f + 1, x, y, hf, hx, hy => by
   have hb := fz _ hx
   by_cases hn : es.length = 0
   . have e : es = [] := List.eq_nil_of_length_eq_zero hn
     subst e
     have x0 : x = 0 := by simpa [cu] using hx
     subst x0
     simp [bD, Bp] at hy
     subst hy
     simp [cu]
   . obtain ⟨k, rfl⟩ : ∃ k : Nat, x = k := ⟨x.toNat, by omega⟩
     have hk : k < es.length := by omega
     have e := cZ hp (m := (k : Int)) Q.a Q.a
     rw [arT] at e
     have ha := hp k hk
     by_cases hz : es.getD k 0 = -1
     . rw [e, arU hz] at hy
       cases hy
     . rw [e, arS hz] at hy
       have EG : es.getD k 0 ∈ cu isAll es ch Q.f := by
         rcases (kZ hp (es.length - 1) (k := k) Q.a Q.a).mp hx with z | z
         . omega
         . exact z.1
       rcases arP.mp hy with rfl | hy
       . exact EG
       . exact W7 hp f Q.a EG hy
def Gw (ks : Q.h) (es ss mem : Q.b) (w : cU) : List Int := enP (aR ks) Q.g es ss mem (cS w.mode) (eG w.mode) Q.ad w.tgt.toNat
def Goes (ks : Q.h) (es ops : Q.b) (w : cU) : Prop := (0 <= w.tgt /\ w.tgt < es.length) /\ (gI ks es w = -1 \/ (gI ks es w ∈ bD es w.tgt.toNat /\ aZ ks Q.ad = true /\ gI ks es w ∈ ops))
variable {ops : Q.b}
theorem Goes.up {w : cU} (h : Goes ks es ops w) : gI ks es w = -1 \/ gI ks es w ∈ bD es w.tgt.toNat := h.2.imp id (·.1)
theorem W8 (hT : di (aR ks) Q.g es ss mem) {w : cU} (h : Goes ks es ops w) : (Gw ks es ss mem w).Nodup /\ ∀ x ∈ Gw ks es ss mem w, (0 <= x /\ x < es.length) /\ xV es Q.ad x := by
 have ht : w.tgt.toNat < es.length := by have := h.1; omega
 refine ⟨Ag hT ht h.up, fun x hx => ?_⟩
 have hi := (yt hT ht h.up x).mp hx
 exact ⟨WY hT ht hi, yx hT ht h.up hi⟩
theorem aeC {ks : Q.h} {es ss mem : Q.b} (hk : tN (aR ks) (aZ ks) Q.g es) (hT : di (aR ks) Q.g es ss mem) (hn : 0 < es.length) : ∀ {gs : List cU} {ch : Q.b}, ch.length = es.length -> wm (aZ ks) es ch -> gs.Pairwise Q.by →
   (∀ w ∈ gs, Goes ks es Q.x w) →
   ∃ Du : List Int, Du.length = es.length /\ wm (aZ ks) es Du /\ (cu Q.g es Du Q.f).Perm ((cu Q.g es ch Q.f).filter Q.bV ++ gs.flatMap (Gw ks es ss mem))
 | [], ch, hl, hc, _, _ => ⟨ch, hl, hc, by simp [iz]⟩
 | w :: gs, ch, hl, hc, hA, hg => by
   obtain ⟨h1, h2⟩ := asB.mp hA
   have gw := hg w arK
   have ht : w.tgt.toNat < es.length := by have := gw.1; omega
   obtain ⟨c1, l1, k1, p1, _⟩ := G6 (far := cS w.mode) (near := eG w.mode) hk hc hT ht gw.2
   have Ab : ∀ x ∈ cu Q.g es ch Q.f, 0 <= x /\ x < es.length := fun x hx => by
     have := fz _ hx
     omega
   have g1 : ∀ v ∈ gs, Goes ks es (cu Q.g es c1 Q.f) v := fun v hv => by
     have gv := hg v (arO _ hv)
     refine ⟨gv.1, gv.2.imp id fun z => ⟨z.1, z.2.1, p1.mem_iff.mpr (arW _ (asf.mpr ⟨z.2.2, ?_⟩))⟩⟩
     have ap := h1 v hv
     have e1 : ¬ (gI ks es w = -1 \/ gI ks es w ∈ bD es (gI ks es v)) := fun q => q.elim ap.1 ap.2.2.2.1
     simp only [as1, atF, asM]
     exact ⟨fun q => e1 (.inl q), fun q => e1 (.inr q)⟩
   obtain ⟨c2, l2, k2, p2⟩ := aeC hk hT hn l1 k1 h2 g1
   refine ⟨c2, l2, k2, p2.trans ?_⟩
   have p3 := (p1.filter Q.bV).append_right (gs.flatMap (Gw ks es ss mem))
   refine p3.trans ?_
   rw [atc, List.filter_filter, atA, ← arR]
   have e1 : (enP (aR ks) Q.g es ss mem (cS w.mode) (eG w.mode) Q.ad w.tgt.toNat).filter Q.bV = Gw ks es ss mem w := by
     refine List.filter_eq_self.mpr fun x hx => ?_
     obtain ⟨b1, b2⟩ := (W8 hT gw).2 x hx
     rw [as1, List.any_eq_false]
     intro v hv q
     exact Gu hT.pre.1 b1.1 b1.2 (h1 v hv) b2 (Dw.mp q)
   have e2 : (cu Q.g es ch Q.f).filter (fun a => (!(gs.any fun w => EW es Q.ad a)) && !(decide (gI ks es w = -1) || decide (gI ks es w ∈ bD es a))) = (cu Q.g es ch Q.f).filter (fun x => !((w :: gs).any fun w => EW es Q.ad x)) := by
     refine auo fun x _ => ?_
     show ((!(gs.any fun w => EW es Q.ad x)) && !(EW es Q.ad x)) = _
     rw [aup, Bool.not_or, Bool.and_comm]
   rw [e1, e2]
def ia (ks : Q.h) (es ops : Q.b) (gs : List cU) : List Int := (sortI (gs.flatMap fun w => nO es ops Q.ad)).reverse
theorem Gy (h : l.Nodup) : l.reverse.Nodup := List.pairwise_reverse.mpr (h.imp fun h e => h e.symm)
theorem tR : x ∈ nO es ops u ↔ x ∈ ops /\ xV es u x := by
 unfold nO xV
 rw [atw, asf]
 simp
variable {gs : List cU}
theorem yz : x ∈ ia ks es ops gs ↔ x ∈ ops /\ ∃ w ∈ gs, xV es Q.ad x := by
 unfold ia
 rw [atw, iP, asO]
 constructor
 . rintro ⟨w, hw, hx⟩
   exact ⟨(tR.mp hx).1, w, hw, (tR.mp hx).2⟩
 . rintro ⟨hx, w, hw, hb⟩
   exact ⟨w, hw, tR.mpr ⟨hx, hb⟩⟩
theorem LD (hp : dD es) (ho : ops.Pairwise (· < ·)) (hb : ∀ x ∈ ops, 0 <= x /\ x < es.length) (hA : gs.Pairwise Q.by) :
   (gs.flatMap fun w => nO es ops Q.ad).Nodup /\ (gs.flatMap fun w => nO es ops Q.ad).length <= es.length := by
 have h := xE (f := fun w => nO es ops Q.ad) hp hA (fun w _ => ⟨by
   unfold nO
   exact Gy ((Dv ho).filter _), fun x hx => ⟨hb x (tR.mp hx).1, (tR.mp hx).2⟩⟩)
 exact ⟨h.1, Gv h.1 fun x hx => (h.2 x hx).1⟩
theorem Aj (hp : dD es) (ho : ops.Pairwise (· < ·)) (hb : ∀ x ∈ ops, 0 <= x /\ x < es.length) (hA : gs.Pairwise Q.by) : (ia ks es ops gs).Nodup /\ (ia ks es ops gs).length <= es.length := by
 obtain ⟨h1, h2⟩ := LD (ks := ks) hp ho hb hA
 unfold ia
 exact ⟨Gy ((sortI_perm _).nodup_iff.mpr h1), by rw [asR, jJ]; exact h2⟩
theorem Ak {a c : Q.b} (h : a.Perm c) : sortI a = sortI c := qv ((sortI_perm a).trans h) (gA a)
def rA (ks : Q.h) (es ss mem : Q.b) (gs : List cU) : List Int := sortI (gs.flatMap (Gw ks es ss mem))
theorem Dy (hT : di (aR ks) Q.g es ss mem) (hA : gs.Pairwise Q.by) (hg : ∀ w ∈ gs, Goes ks es ops w) :
   (gs.flatMap (Gw ks es ss mem)).Nodup /\ (gs.flatMap (Gw ks es ss mem)).length <= es.length /\ ∀ x ∈ gs.flatMap (Gw ks es ss mem), (0 <= x /\ x < es.length) /\ ∃ w ∈ gs, xV es Q.ad x := by
 have h := xE hT.pre.1 hA (fun w hw => W8 hT (hg w hw))
 exact ⟨h.1, Gv h.1 fun x hx => (h.2 x hx).1, h.2⟩
def EX (ks : Q.h) (es ss mem ops : Q.b) (gs : List cU) : List Int := sortI (ops.filter (fun x => !decide (x ∈ ia ks es ops gs)) ++ rA ks es ss mem gs)
theorem Dz (hk : tN (aR ks) (aZ ks) Q.g es) (hT : di (aR ks) Q.g es ss mem) (hn : 0 < es.length) (hl : ch.length = es.length) (hc : wm (aZ ks) es ch)
   (hA : gs.Pairwise Q.by) (hg : ∀ w ∈ gs, Goes ks es Q.x w) :
   ∃ Du : List Int, Du.length = es.length /\ wm (aZ ks) es Du /\ EX ks es ss mem Q.x gs = cu Q.g es Du Q.f /\ ((cu Q.g es ch Q.f).filter (fun x => !decide (x ∈ ia ks es Q.x gs)) ++ rA ks es ss mem gs).length <= es.length := by
 obtain ⟨c2, l2, k2, p2⟩ := aeC hk hT hn hl hc hA hg
 have e1 : (cu Q.g es ch Q.f).filter (fun x => !decide (x ∈ ia ks es Q.x gs)) = (cu Q.g es ch Q.f).filter Q.bV := by
   refine auo fun x hx => ?_
   congr 1
   rw [atM, decide_eq_true_iff, yz, List.any_eq_true]
   constructor
   . rintro ⟨_, w, hw, hb⟩
     exact ⟨w, hw, Dw.mpr hb⟩
   . rintro ⟨w, hw, hb⟩
     exact ⟨hx, w, hw, Dw.mp hb⟩
 have p3 : ((cu Q.g es ch Q.f).filter (fun x => !decide (x ∈ ia ks es Q.x gs)) ++ rA ks es ss mem gs).Perm (cu Q.g es c2 Q.f) := by
   rw [e1]
   exact (asx _ (sortI_perm _)).trans p2.symm
 refine ⟨c2, l2, k2, ?_, ?_⟩
 . unfold EX
   rw [Ak p3]
   exact yo (Lx (dQ _))
 . rw [p3.length_eq]
   have := oJ (isAll := aq ks) (es := es) (ch := c2) Q.f
   omega
def jY (ws : List cU) (i : Int) : Bool := !decide ((dg ws i).tgt = -1)
def gi (ws : List cU) (some : Q.b) : List cU := (some.filter (jY ws)).map (dg ws)
theorem pS {β : Type} {f : α -> List β} (l : List α) (j : Nat) : ((l.take j).flatMap f).length <= (l.flatMap f).length := by
 have h2 := atY j l
 conv => rhs; rw [← h2]
 rw [asX, arY]
 omega
theorem Al {α : Type} {f : α -> List Int} : ∀ l : List α, (l.flatMap fun a => sortI (f a)).Perm (l.flatMap f)
 | [] => .refl _
 | a :: l => by
   rw [atA, atA]
   exact (sortI_perm _).append (Al l)
def WIn (n : Nat) (w : cU) : Prop := (0 <= w.src /\ w.src < n) /\ (w.tgt = -1 \/ (0 <= w.tgt /\ w.tgt < n)) /\ rm w.mode /\ w.jM.length <= 2 /\ D.bQ w.jM = true /\ D.bQ w.asks = true
def Gz (es : Q.b) (m : Int) (w : cU) : Bool := (!decide (w.mode = "new") && decide (w.tgt = m)) || Q.bZ
def fY (ks : Q.h) (es : Q.b) (ws : List cU) (m : Int) : Bool := aZ ks m && ws.any (Gz es m)
def inR (is : List Q.k) (come : Q.b) : List L3.D := come.flatMap fun m => L3.D.tup [.str "in", .int m] :: is.getD m.toNat []
def rB (is : List Q.k) : Prop := ∀ l ∈ is, l.length <= 2 /\ D.bQ l = true
def DB (gj : Q.w) (os : List Q.k) (mem bh gone : Q.b) : List L3.D := gone.flatMap fun m => L3.D.tup [.str "out", .int m] :: ((if gj m = true then [L3.D.tup [.str "keep", .int m, .int (mem.getD m.toNat 0), .int (bh.getD m.toNat 0)]] else []) ++ os.getD m.toNat [])
def EY (ws : List cU) (some : Q.b) : List L3.D := some.flatMap fun i => L3.D.tup [.str "way", .int i] :: (dg ws i).jM
theorem rB.get {is : List Q.k} (h : rB is) (k : Nat) : (is.getD k []).length <= 2 /\ D.bQ (is.getD k []) = true := by
 by_cases hk : k < is.length
 . rw [arM, arZ hk]
   exact h _ (atn _)
 . rw [arM, ata Q.a]
   exact ⟨by simp, rfl⟩
theorem u5 {α β : Type} {f : α -> List β} {c : Nat} : ∀ l : List α, (∀ a ∈ l, (f a).length <= c) -> (l.flatMap f).length <= c * l.length
 | [], _ => by simp
 | a :: l, h => by
   have h1 := h a arK
   have h2 := u5 l (fun b hb => h b (arO _ hb))
   rw [atA, arY, ar8, Nat.mul_succ]
   omega
theorem Am {f : α -> List L3.D} {l : List α} (h : ∀ a ∈ l, D.bQ (f a) = true) : D.bQ (l.flatMap f) = true := mJ fun d hd => by
 obtain ⟨a, ha, hd⟩ := asO.mp hd
 exact tH (h a ha) d hd
theorem yC {a c : Q.k} (h1 : D.bQ a = true) (h2 : D.bQ c = true) : D.bQ (a ++ c) = true := mJ fun d hd => (arV.mp hd).elim (tH h1 d) (tH h2 d)
variable {os : List Q.k}
theorem HV {gj : Q.w} {bh : Q.b} (h : rB os) (gone : Q.b) : (DB gj os mem bh gone).length <= 4 * gone.length /\ D.bQ (DB gj os mem bh gone) = true := by
 refine ⟨u5 _ fun m _ => ?_, Am fun m _ => ?_⟩
 . have := (h.get m.toNat).1
   have h1 : (if gj m = true then [L3.D.tup [.str "keep", .int m, .int (mem.getD m.toNat 0), .int (bh.getD m.toNat 0)]] else []).length <= 1 := by split <;> simp
   rw [ar8, arY]
   omega
 . show (true && _) = true
   rw [aus]
   refine yC ?_ (h.get m.toNat).2
   split <;> rfl
theorem An {is : List Q.k} (h : rB is) (come : Q.b) : (inR is come).length <= 3 * come.length /\ D.bQ (inR is come) = true := by
 refine ⟨u5 _ fun m _ => ?_, Am fun m _ => ?_⟩
 . have := (h.get m.toNat).1
   rw [ar8]
   omega
 . show (true && _) = true
   rw [aus]
   exact (h.get m.toNat).2
theorem HW {some : Q.b} (h : ∀ i ∈ some, WIn n (dg ws i)) : (EY ws some).length <= 3 * some.length /\ D.bQ (EY ws some) = true := by
 refine ⟨u5 _ fun m hm => ?_, Am fun m hm => ?_⟩
 . have := (h m hm).2.2.2.1
   rw [ar8]
   omega
 . show (true && _) = true
   rw [aus]
   exact (h m hm).2.2.2.2.1
theorem Ug (gj : Q.w) (os : List Q.k) (mem bh gone : Q.b) (m : Int) : DB gj os mem bh (gone ++ [m]) = DB gj os mem bh gone ++ (L3.D.tup [.str "out", .int m] :: ((if gj m = true then [L3.D.tup [.str "keep", .int m, .int (mem.getD m.toNat 0), .int (bh.getD m.toNat 0)]] else []) ++ os.getD m.toNat [])) := by
 unfold DB
 rw [asX]
 simp
theorem Uh (ws : List cU) (some : Q.b) (i : Int) : EY ws (some ++ [i]) = EY ws some ++ (L3.D.tup [.str "way", .int i] :: (dg ws i).jM) := by
 unfold EY
 rw [asX]
 simp
theorem W9 (is : List Q.k) (come : Q.b) (m : Int) : inR is (come ++ [m]) = inR is come ++ (L3.D.tup [.str "in", .int m] :: is.getD m.toNat []) := by
 unfold inR
 rw [asX]
 simp
def EZ (ks : Q.h) (es : Q.b) (ws : List cU) (mem ops : Q.b) (gs : List cU) : List Int := NW (aZ ks) es ((ia ks es ops gs).filter (fY ks es ws)) mem ops
def HX (ks : Q.h) (es ss : Q.b) (is os : List Q.k) (ws : List cU) (mem ops some : Q.b) : List L3.D :=
 DB (fY ks es ws) os mem (EZ ks es ws mem ops Q.Q) (ia ks es ops Q.Q) ++ EY ws some ++ inR is (rA ks es ss (EZ ks es ws mem ops Q.Q) Q.Q)
def yE (ks : Q.h) (es mem : Q.b) : Prop := mem.length = es.length /\ ∀ k : Nat, k < es.length -> aZ ks k = true -> mem.getD k 0 = -1 \/ mem.getD k 0 ∈ gf es k
structure iQ (ks : Q.h) (es ss : Q.b) (is os : List Q.k) (ws : List cU) : Prop where
 n0 : 0 < es.length
 n1 : es.length <= 40
 kl : ks.length = es.length
 sl : ss.length = es.length
 il : is.length = es.length
 ol : os.length = es.length
 kd : tN (aR ks) (aZ ks) Q.g es
 pre : jW es
 st : wm (aZ ks) es ss
 ir : rB is
 or : rB os
 wo : ∀ w ∈ ws, WIn es.length w
 wl : ws.length <= 8
structure rC (ks : Q.h) (es : Q.b) (ws : List cU) (ops some : Q.b) : Prop where
 i : ∀ i ∈ some, Q.aC /\ (dg ws i).src ∈ ops
 l : some.length <= 8
 ap : (gi ws some).Pairwise Q.by
section
variable {is : List Q.k} {some : Q.b}
theorem iQ.tree (h : Q.aW) (hm : yE ks es mem) : di (aR ks) Q.g es ss mem := ⟨h.pre, (fun k hk e => by
   rcases h.kd k hk with ⟨_, _, _, z⟩ | ⟨z, _⟩ | ⟨z, _⟩
   . exact z
   . rw [z] at e; cases e
   . rw [z] at e; cases e), fun k hk e1 e2 => by
   rcases h.kd k hk with ⟨z, _⟩ | ⟨_, z, _⟩ | ⟨_, _, z⟩
   . rw [z] at e1; cases e1
   . exact ⟨h.st k hk z, hm.2 k hk z⟩
   . rw [z] at e2; cases e2⟩
theorem iQ.kinds (h : Q.aW) : ∀ k : Nat, k < es.length -> aR ks k = true \/ aq ks k = true \/ ks.getD k Str.empty = "one" := fun k hk => by
 rcases h.kd k hk with ⟨z, _⟩ | ⟨_, z, _⟩ | ⟨_, _, z⟩
 . exact .inl z
 . refine .inr (.inr ?_)
   have := ar0 z
   rwa [arT] at this
 . exact .inr (.inl z)
theorem DC (hn : 0 < es.length) (hx : x ∈ cu Q.g es ch Q.f) : 0 <= x /\ x < es.length := by
 have := fz _ hx
 omega
theorem agA {w : cU} (hw : w ∈ gi ws some) : ∃ i ∈ some, w = dg ws i /\ w.tgt ≠ -1 := by
 unfold gi at hw
 obtain ⟨i, hi, rfl⟩ := ase.mp hw
 obtain ⟨h1, h2⟩ := asf.mp hi
 refine ⟨i, h1, rfl, ?_⟩
 unfold jY at h2
 simpa using h2
theorem rC.goes (h : Q.aW) (hs : rC ks es ws Q.x some) : ∀ w ∈ gi ws some, Goes ks es Q.x w := fun w hw => by
 obtain ⟨i, hi, rfl, ht⟩ := agA hw
 obtain ⟨⟨i0, i1⟩, abS⟩ := hs.i i hi
 have win := h.wo _ (rq i0 i1)
 have htg := win.2.1.resolve_left ht
 refine ⟨htg, ?_⟩
 have e : ((dg ws i).tgt.toNat : Int) = (dg ws i).tgt := by omega
 rcases RB (bw := aZ ks) (b := (dg ws i).tgt) h.pre.1 win.1.1 win.1.2 with z | z
 . exact .inl z.1
 . refine .inr ⟨by rw [e]; exact z.2.1, z.2.2.1, ?_⟩
   have hb := DC h.n0 abS
   exact W7 h.pre.1 ((dg ws i).src.toNat + 1) Q.a abS z.1
theorem rC.win (h : Q.aW) (hs : rC ks es ws ops some) : ∀ i ∈ some, WIn es.length (dg ws i) := fun i hi => h.wo _ (rq (hs.i i hi).1.1 (hs.i i hi).1.2)
theorem aeD (h : Q.aW) (hc : wm (aZ ks) es ch) (pR : ch.length = es.length) (hm : mem.length = es.length) (gs : List cU) : EZ ks es ws mem Q.x gs = T7 (aZ ks) ch mem ((ia ks es Q.x gs).filter (fY ks es ws)) := by
 unfold EZ
 refine Ua h.pre.1 rfl h.n0 hm pR (fun k hk e => hc k hk ?_) (fun x hx => (yz.mp (asf.mp hx).1).1)
 unfold aZ
 rw [arT]
 exact asK e
theorem GA (h : Q.aW) (hc : wm (aZ ks) es ch) (pR : ch.length = es.length) (hm : yE ks es mem) (gs : List cU) : yE ks es (EZ ks es ws mem Q.x gs) := by
 rw [aeD h hc pR hm.1]
 refine ⟨by rw [Dn]; exact hm.1, fun k hk ho => ?_⟩
 rw [BX _ _ (fun e he => ?_) k (by rw [hm.1]; exact hk)]
 . split
   . exact .inr (hc k hk ho)
   . exact hm.2 k hk ho
 . rw [hm.1]
   exact DC h.n0 (yz.mp (asf.mp he).1).1
end
theorem LJ {p : α -> Bool} {l : List α} {j : Nat} {x : α} (h : l[j]? = some x) (hx : p x = true) : l.any p = true := List.any_eq_true.mpr ⟨x, asT h, hx⟩
theorem any_none {p : α -> Bool} {l : List α} (h : ∀ (j : Nat) (x : α), l[j]? = some x -> p x = false) : l.any p = false := by
 rw [List.any_eq_false]
 intro x hx
 obtain ⟨j, hj, e⟩ := List.getElem_of_mem hx
 rw [h j x (by rw [arZ hj, e])]
 decide
def rD (bx mo : Int) (bs : Q.b) : Int := if bx = -1 then mo else bs.getD bx.toNat 0 + mo
inductive eS where
 | put (x b m : Int)
 | call (s : Str)
 | say (s : Str) (b m : Int)
def eS.w : eS -> Str
 | .put _ _ _ => "put"
 | .call _ => "call"
 | .say _ _ _ => "say"
def eS.ds : eS -> List L3.D
 | .put x b m => [.int x, .tup [.int b, .int m]]
 | .call s => [.str s]
 | .say s b m => [.str s, .tup [.int b, .int m]]
def eS.d (q : eS) : L3.D := .tup (.str q.w :: q.ds)
def Xa (bs : Q.b) (b : Int) : Prop := b = -1 \/ (0 <= b /\ b < bs.length)
def eS.ok (bs : Q.b) : eS -> Prop
 | .put x b _ => (0 <= x /\ x < bs.length) /\ Xa bs b
 | .call _ => True
 | .say _ b _ => Xa bs b
def eS.row (bs : Q.b) : eS -> J
 | .put x b m => .put x (bs.getD x.toNat 0) (rD b m bs)
 | .call s => .Gj "call" [.str s]
 | .say s b m => .Gj "say" [.str s, .int (rD b m bs)]
theorem GB {q : eS} (h : q.ok s.2.2) : Right n s (q.row s.2.2) := by
 cases q with
 | put x b m => exact ⟨h.1.1, h.1.2, rfl⟩
 | call s => exact ⟨by decide +kernel, by show 1 <= 3; decide, fun d hd => by simp only [arP, asw, at3] at hd; exact .inr ⟨_, hd⟩⟩
 | say s b m => exact ⟨by decide +kernel, by show 2 <= 3; decide, fun d hd => by
     simp only [arP, asw, at3] at hd
     rcases hd with e | e
     . exact .inr ⟨_, e⟩
     . exact .inl ⟨_, e⟩⟩
variable {bs : Q.b}
theorem agB {q : eS} (h : q.ok bs) : ∃ o m, (q.row bs).ok (o, m, bs) := ⟨[], [], (GB (n := 0) (s := ([], [], bs)) h).ok⟩
theorem B4 (bs : Q.b) (q : eS) : (q.row bs).d.pM = true := by cases q <;> rfl
theorem Xb (q : eS) : q.d.pM = true := by cases q <;> rfl
def RV (bs : Q.b) (q : eS) : List Int := xD false (q.row bs) bs
theorem HY (bs : Q.b) (q : eS) : (RV bs q).length = bs.length := Lz ..
theorem DE (qs : List eS) : ∀ bs : List Int, (qs.foldl RV bs).length = bs.length := by
 induction qs with
 | nil => intro bs; rfl
 | cons q qs ih => intro bs; rw [atb, ih, HY]
def qy : List eS -> List Int -> List J
 | [], _ => []
 | q :: qs, bs => q.row bs :: qy qs (RV bs q)
def GC : eS -> Option Str
 | .call s => some s
 | _ => none
def pT (qs : List eS) : List Str := qs.filterMap GC
theorem Xc (qs : List eS) (q : eS) : ∀ bs : List Int, qy (qs ++ [q]) bs = qy qs bs ++ [q.row (qs.foldl RV bs)] := by
 induction qs with
 | nil => intro bs; rfl
 | cons p qs ih => intro bs; rw [asb, qy, ih, qy, atb, asb]
theorem Xd (qs : List eS) : ∀ bs : List Int, (qy qs bs).length = qs.length := by
 induction qs with
 | nil => intro bs; rfl
 | cons p qs ih => intro bs; rw [qy, ar8, ih, ar8]
theorem HZ {b2 : Q.b} (h : b2.length = bs.length) (q : eS) (hq : q.ok bs) : q.ok b2 := by
 cases q with
 | put x b m =>
   have hq : (0 <= x /\ x < bs.length) /\ Xa bs b := hq
   show (0 <= x /\ x < b2.length) /\ Xa b2 b
   unfold Xa at hq ⊢
   rw [h]; exact hq
 | call s => trivial
 | say s b m =>
   have hq : Xa bs b := hq
   show Xa b2 b
   unfold Xa at hq ⊢
   rw [h]; exact hq
theorem kI {l : List α} {j : Nat} {x : α} (h : l[j]? = some x) : l.take Q.l = l.take j ++ [x] := by rw [atV, h]; rfl
inductive It where
 | out (m : Int) | keep (m p q : Int) | way (i : Int) | BP (m : Int) | jZ (q : eS)
def It.sj : It -> J
 | .out m => .out m
 | .keep m p q => .keep m p q
 | .way i => .Gj "way" [.int i]
 | .BP m => .BP m
 | .jZ q => .Gj q.w q.ds
def It.d (x : It) : L3.D := x.sj.d
def It.j (bs : Q.b) : It -> J
 | .jZ q => q.row bs
 | x => x.sj
def It.ok (bs : Q.b) : It -> Prop
 | .jZ q => q.ok bs
 | _ => True
def It.af (bs : Q.b) : It -> List Int
 | .jZ q => RV bs q
 | _ => bs
def It.call : It -> Option Str
 | .jZ q => GC q
 | _ => none
def It.told : It -> Bool
 | .jZ _ => true
 | _ => false
def It.num : It -> Option Int
 | .way i => some i
 | _ => none
def mz : List Str := ["out", "keep", "way", "in"]
theorem abT (x : It) : decide (x.sj.w ∈ mz) = !x.told := by
 cases x with
 | jZ q =>
   cases q with
   | put x b m => show decide (("put" : Str) ∈ mz) = false; decide +kernel
   | call s => show decide (("call" : Str) ∈ mz) = false; decide +kernel
   | say s b m => show decide (("say" : Str) ∈ mz) = false; decide +kernel
 | out m => show decide (("out" : Str) ∈ mz) = true; decide +kernel
 | keep m p q => show decide (("keep" : Str) ∈ mz) = true; decide +kernel
 | way i => show decide (("way" : Str) ∈ mz) = true; decide +kernel
 | BP m => show decide (("in" : Str) ∈ mz) = true; decide +kernel
theorem Xe (x : It) : x.d.pM = true := by
 cases x with
 | jZ q => exact Xb q
 | _ => rfl
theorem Xf (bs : Q.b) (x : It) : (x.j bs).d.pM = true := by
 cases x with
 | jZ q => exact B4 bs q
 | _ => rfl
theorem Ui (bs : Q.b) (x : It) : (x.af bs).length = bs.length := by
 cases x with
 | jZ q => exact HY bs q
 | _ => rfl
theorem DF (xs : List It) : ∀ bs : List Int, (xs.foldl It.af bs).length = bs.length := by
 induction xs with
 | nil => intro bs; rfl
 | cons x xs ih => intro bs; rw [atb, ih, Ui]
def wu : List It -> List Int -> List J
 | [], _ => []
 | x :: xs, bs => x.j bs :: wu xs (x.af bs)
def iD (xs : List It) : List Str := xs.filterMap It.call
theorem abU (xs : List It) (ys : List It) : ∀ bs : List Int, wu (xs ++ ys) bs = wu xs bs ++ wu ys (xs.foldl It.af bs) := by
 induction xs with
 | nil => intro bs; rfl
 | cons p xs ih => intro bs; rw [asb, wu, ih, wu, atb, asb]
theorem B5 (xs : List It) : ∀ bs : List Int, (wu xs bs).length = xs.length := by
 induction xs with
 | nil => intro bs; rfl
 | cons p xs ih => intro bs; rw [wu, ar8, ih, ar8]
theorem B6 (xs : List It) : ∀ bs : List Int, D.bQ ((wu xs bs).map J.d) = true := by
 induction xs with
 | nil => intro bs; rfl
 | cons x xs ih => intro bs; rw [wu, asl, D.bQ, Xf, ih]; rfl
theorem Uj (qs : List eS) : ∀ bs : List Int, D.bQ ((qy qs bs).map J.d) = true := by
 induction qs with
 | nil => intro bs; rfl
 | cons q qs ih => intro bs; rw [qy, asl, D.bQ, B4, ih]; rfl
theorem LK (xs : List It) (x : It) : iD (xs ++ [x]) = iD xs ++ x.call.toList := by
 unfold iD
 rw [List.filterMap_append]
 congr 1
theorem abV {b2 : Q.b} (h : b2.length = bs.length) (x : It) (hx : x.ok bs) : x.ok b2 := by
 cases x with
 | jZ q => exact HZ h q hx
 | _ => trivial
theorem rE : ∀ {ds : Q.k}, D.bQ ds = true -> T.eB (ds.map T.sh) = true
 | [], _ => rfl
 | d :: ds, h => by
   rw [D.bQ, asa] at h
   rw [asl, T.eB, rE h.2, T.clean, h.1]
   rfl
theorem abW (l1 l2 l3 : Q.k) : (T.tup [.lst (l1.map T.sh), .lst (l2.map T.sh), .lst (l3.map T.sh)]).dJ = .tup [.lst l1, .lst l2, .lst l3] := by
 rw [T.dJ, T.ez, T.ez, T.ez, T.ez, T.dJ, T.dJ, T.dJ, eV, eV, eV]
theorem DG {l1 l2 l3 : Q.k} (h1 : D.bQ l1 = true) (h2 : D.bQ l2 = true) (h3 : D.bQ l3 = true) : (T.tup [.lst (l1.map T.sh), .lst (l2.map T.sh), .lst (l3.map T.sh)]).clean = true := by
 rw [T.clean, T.eB, T.eB, T.eB, T.eB, fV, fV, fV, rE h1, rE h2, rE h3]
 rfl
theorem O5 (bs bs2 : Q.b) (q : eS) : (T.tup [.lst ((bs2.map L3.D.int).map T.sh), .sh (q.row bs).d]).clean = true := by
 rw [T.clean, T.eB, T.eB, T.eB, T.clean, T.clean, jI, B4]
 rfl
theorem Xg {d : L3.D} {ds : Q.k} : AJ (d :: ds) 0 = some d := cV (j := 0) rfl
def fK : List Str := ["out", "keep", "way", "in"]
def J.told (r : J) : Bool := !decide (r.w ∈ fK)
theorem abX (bs : Q.b) (x : It) : (x.j bs).told = x.told := by
 cases x with
 | jZ q =>
   cases q with
   | put x b m => show (!decide (("put" : Str) ∈ fK)) = true; decide +kernel
   | call s => show (!decide (("call" : Str) ∈ fK)) = true; decide +kernel
   | say s b m => show (!decide (("say" : Str) ∈ fK)) = true; decide +kernel
 | out m => show (!decide (("out" : Str) ∈ fK)) = false; decide +kernel
 | keep m p q => show (!decide (("keep" : Str) ∈ fK)) = false; decide +kernel
 | way i => show (!decide (("way" : Str) ∈ fK)) = false; decide +kernel
 | BP m => show (!decide (("in" : Str) ∈ fK)) = false; decide +kernel
theorem Xh (x : It) : x.sj.told = x.told := by
 cases x with
 | jZ q =>
   cases q with
   | put x b m => show (!decide (("put" : Str) ∈ fK)) = true; decide +kernel
   | call s => show (!decide (("call" : Str) ∈ fK)) = true; decide +kernel
   | say s b m => show (!decide (("say" : Str) ∈ fK)) = true; decide +kernel
 | out m => show (!decide (("out" : Str) ∈ fK)) = false; decide +kernel
 | keep m p q => show (!decide (("keep" : Str) ∈ fK)) = false; decide +kernel
 | way i => show (!decide (("way" : Str) ∈ fK)) = false; decide +kernel
 | BP m => show (!decide (("in" : Str) ∈ fK)) = false; decide +kernel
theorem DH : ∀ (xs : List It) (bs : Q.b), (xs.filter It.told).foldl It.af bs = xs.foldl It.af bs
 | [], _ => rfl
 | x :: xs, bs => by
   rw [atb, atx]
   cases x with
   | jZ q => rw [arU (show It.told (.jZ q) = true from rfl), atb]; exact DH xs _
   | _ => exact DH xs bs
theorem Ic : ∀ (xs : List It) (bs : Q.b), wu (xs.filter It.told) bs = (wu xs bs).filter J.told
 | [], _ => rfl
 | x :: xs, bs => by
   rw [wu, atx, atx, abX]
   cases x with
   | jZ q => rw [arU (show It.told (.jZ q) = true from rfl), arU (show It.told (.jZ q) = true from rfl), wu]; exact congrArg _ (Ic xs _)
   | _ => exact Ic xs bs
theorem xF : ∀ (xs : List It), iD (xs.filter It.told) = iD xs
 | [] => rfl
 | x :: xs => by
   unfold iD
   rw [atx]
   cases x with
   | jZ q =>
     rw [arU (show It.told (.jZ q) = true from rfl), asW, asW]
     have := xF xs
     unfold iD at this
     rw [this]
   | _ => exact xF xs
inductive Go (n : Nat) : List It -> k6 -> k6 -> Prop
 | nil {s : k6} : Go n [] s s
 | cons {x : It} {xs : List It} {s s' : k6} : Right n s (x.j s.2.2) -> Go n xs (dU false s (x.j s.2.2)) s' -> Go n (x :: xs) s s'
theorem Xi (s : k6) (x : It) : (dU false s (x.j s.2.2)).2.2 = x.af s.2.2 := by
 cases x with
 | jZ q => rfl
 | _ => rfl
theorem Go.app {xs ys : List It} {t u : k6} (h : Go n xs s t) (k : Go n ys t u) : Go n (xs ++ ys) s u := by
 induction h with
 | nil => exact k
 | cons r _ ih => exact .cons r (ih k)
theorem Go.is {xs : List It} {t : k6} (h : Go n xs s t) : jX n (wu xs s.2.2) s /\ (wu xs s.2.2).foldl (dU false) s = t /\ t.2.2 = xs.foldl It.af s.2.2 := by
 induction h with
 | nil => exact ⟨trivial, rfl, rfl⟩
 | @cons x xs s s' r _ ih =>
   rw [Xi] at ih
   exact ⟨⟨r, ih.1⟩, ih.2.1, ih.2.2⟩
theorem LN {n : Nat} : ∀ (qs : List eS) (s : k6), (∀ q ∈ qs, q.ok s.2.2) -> Go n (qs.map It.jZ) s (s.1, s.2.1, qs.foldl RV s.2.2)
 | [], _, _ => .nil
 | q :: qs, s, h => by
   refine .cons (GB (h q arK)) ?_
   have e : dU false s ((It.jZ q).j s.2.2) = (s.1, s.2.1, RV s.2.2 q) := by cases q <;> rfl
   rw [e]
   exact LN qs (s.1, s.2.1, RV s.2.2 q) fun p hp => HZ (HY ..) p (h p (arO _ hp))
def eu (nb : Nat) (l : Q.k) : Prop := ∃ qs : List eS, l = qs.map eS.d /\ ∀ bs : List Int, bs.length = nb -> ∀ q ∈ qs, q.ok bs
variable {nb : Nat}
theorem eu.nil : eu nb [] := ⟨[], rfl, fun _ _ _ h => by cases h⟩
variable {is : List Q.k}
theorem eu.get (h : ∀ l ∈ is, eu nb l) (k : Nat) : eu nb (is.getD k []) := by
 by_cases hk : k < is.length
 . rw [arM, arZ hk]
   exact h _ (atn _)
 . rw [arM, ata Q.a]
   exact .nil
theorem Uk (qs : List eS) : qs.map eS.d = (qs.map It.jZ).map It.d := by rw [asn]; rfl
def gM (n : Nat) (l : Q.k) (ns : Q.b) (s t : k6) : Prop := ∃ xs : List It, l = xs.map It.d /\ xs.filterMap It.num = ns /\ (∀ bs : List Int, bs.length = s.2.2.length -> ∀ x ∈ xs, x.ok bs) /\ Go n xs s t /\ t.2.2.length = s.2.2.length
theorem gM.nil : gM n [] [] s s := ⟨[], rfl, rfl, fun _ _ _ h => (by cases h), .nil, rfl⟩
theorem gM.app {l m : Q.k} {ns ms : Q.b} {t u : k6} (h : gM n l ns s t) (k : gM n m ms t u) : gM n (l ++ m) (ns ++ ms) s u := by
 obtain ⟨xs, rfl, rfl, ox, gx, ex⟩ := h
 obtain ⟨ys, rfl, rfl, oy, gy, ey⟩ := k
 refine ⟨xs ++ ys, by rw [ash], by rw [List.filterMap_append], fun bs hb x hx => ?_, gx.app gy, ey.trans ex⟩
 rcases arV.mp hx with hx | hx
 . exact ox bs hb x hx
 . exact oy bs (hb.trans ex.symm) x hx
theorem GD : ∀ qs : List eS, (qs.map It.jZ).filterMap It.num = []
 | [] => rfl
 | _ :: qs => by rw [asl, asW]; exact GD qs
theorem gM.jM {l : Q.k} (h : eu nb l) (hb : s.2.2.length = nb) : ∃ Xj, Xj.length = nb /\ gM n l [] s (s.1, s.2.1, Xj) := by
 obtain ⟨qs, rfl, hq⟩ := h
 refine ⟨qs.foldl RV s.2.2, (DE ..).trans hb, qs.map It.jZ, Uk qs, GD qs, fun bs hl x hx => ?_, LN qs s (hq _ hb), DE ..⟩
 obtain ⟨q, h1, rfl⟩ := ase.mp hx
 exact hq bs (hl.trans hb) q h1
theorem gM.one (x : It) (hx : x.told = false) (r : Right n s x.sj) : gM n [x.d] x.num.toList s (dU false s x.sj) := by
 have e : x.j s.2.2 = x.sj := by cases x <;> first | rfl | cases hx
 refine ⟨[x], rfl, by cases x <;> rfl, fun bs _ y hy => ?_, .cons (by rw [e]; exact r) (by rw [e]; exact .nil), ?_⟩
 . cases asQ.mp hy
   cases x <;> first | trivial | cases hx
 . cases x <;> first | rfl | cases hx
theorem Xk (x : It) : decide (x.sj.w = "way") = x.num.isSome := by
 cases x with
 | jZ q =>
   cases q with
   | put x b m => show decide (("put" : Str) = "way") = false; decide +kernel
   | call s => show decide (("call" : Str) = "way") = false; decide +kernel
   | say s b m => show decide (("say" : Str) = "way") = false; decide +kernel
 | out m => show decide (("out" : Str) = "way") = false; decide +kernel
 | keep m p q => show decide (("keep" : Str) = "way") = false; decide +kernel
 | way i => show decide (("way" : Str) = "way") = true; decide +kernel
 | BP m => show decide (("in" : Str) = "way") = false; decide +kernel
theorem LQ : ∀ xs : List It, ((xs.map It.d).filter (fun d => decide (d.at1.toS = ("way" : Str)))).map (fun d => T.sh d.at2) = ((xs.filterMap It.num).map L3.D.int).map T.sh
 | [] => rfl
 | x :: xs => by
   have ih := LQ xs
   rw [asl, atx, show decide ((It.d x).at1.toS = "way") = x.num.isSome from Xk x]
   cases x with
   | way i => rw [arU (show (It.num (.way i)).isSome = true from rfl), asl, ih]; rfl
   | _ => exact ih
def mG (gj : Q.w) (bh mem : Q.b) (m : Int) : List Int := if gj m = true then mem.set m.toNat (bh.getD m.toNat 0) else mem
theorem Ao (gj : Q.w) (bh mem : Q.b) (m : Int) : (mG gj bh mem m).length = mem.length := by
 unfold mG
 split
 . exact asU
 . rfl
theorem LR (gj : Q.w) (bh mem : Q.b) (h : m.toNat ≠ k.toNat) : (mG gj bh mem m).getD k.toNat 0 = mem.getD k.toNat 0 := by
 unfold mG
 split
 . rw [arM, atr h, ← arM]
 . rfl
theorem Aq (gj : Q.w) (bh : Q.b) : ∀ (gone mem : Q.b), (gone.foldl (mG gj bh) mem).length = mem.length
 | [], _ => rfl
 | m :: gone, mem => by rw [atb, Aq gj bh gone, Ao]
theorem LV (gj : Q.w) (bh : Q.b) : ∀ (gone mem : Q.b) (k : Nat), (∀ m ∈ gone, 0 <= m) -> k < mem.length -> (gone.foldl (mG gj bh) mem).getD k 0 = if (k : Int) ∈ gone /\ gj k = true then bh.getD k 0 else mem.getD k 0
 | [], mem, k, _, _ => by rw [arS (fun h => by cases h.1)]; rfl
 | m :: gone, mem, k, h0, hk => by
   rw [atb, LV gj bh gone _ k (fun x hx => h0 x (arO _ hx)) (by rw [Ao]; exact hk)]
   have hm := h0 m arK
   by_cases e : (k : Int) = m
   . subst e
     by_cases hh : gj k = true
     . rw [arU (⟨arK, hh⟩ : (k : Int) ∈ (k : Int) :: gone /\ gj k = true)]
       split
       . rfl
       . unfold mG
         rw [arU hh, arT, arM, as4 hk]
         rfl
     . rw [arS (fun z => hh z.2), arS (fun z => hh z.2)]
       unfold mG
       rw [arS hh]
   . have qm : m.toNat ≠ ((k : Int)).toNat := by omega
     have := LR gj bh mem (m := m) (k := (k : Int)) qm
     rw [arT] at this
     rw [this]
     by_cases hg : (k : Int) ∈ gone /\ gj k = true
     . rw [arU hg, arU ⟨arO _ hg.1, hg.2⟩]
     . rw [arS hg, arS (fun z => hg ⟨(arP.mp z.1).resolve_left e, z.2⟩)]
theorem GF {n nb : Nat} {gj : Q.w} {os : List Q.k} {mem bh : Q.b} (hO : ∀ l ∈ os, eu nb l) : ∀ (gone : Q.b) (s : k6), s.2.2.length = nb -> gone.Nodup -> (∀ m ∈ gone, m ∈ s.1 /\ 0 <= m /\ m < s.2.1.length /\ s.2.1.getD m.toNat 0 = mem.getD m.toNat 0) →
   ∃ Xj : List Int, Xj.length = nb /\ gM n (DB gj os mem bh gone) [] s (s.1.filter (fun x => !decide (x ∈ gone)), gone.foldl (mG gj bh) s.2.1, Xj)
 | [], s, hb, _, _ => ⟨s.2.2, hb, by
     have e : s.1.filter (fun x => !decide (x ∈ ([] : List Int))) = s.1 := List.filter_eq_self.mpr fun x _ => by simp
     rw [e]
     exact .nil⟩
 | m :: gone, s, hb, nd, hm => by
   obtain ⟨n1, n2⟩ := as2.mp nd
   obtain ⟨m1, m2, m3, m4⟩ := hm m arK
   have l1 : gM n [(It.out m).d] [] s (s.1.filter Q.V, s.2.1, s.2.2) := gM.one (.out m) rfl m1
   have l2 : gM n (if gj m = true then [(It.keep m (mem.getD m.toNat 0) (bh.getD m.toNat 0)).d] else []) [] (s.1.filter Q.V, s.2.1, s.2.2) (s.1.filter Q.V, mG gj bh s.2.1 m, s.2.2) := by
     unfold mG
     by_cases hh : gj m = true
     . rw [arU hh, arU hh]
       exact gM.one (s := (s.1.filter Q.V, s.2.1, s.2.2)) (.keep m _ _) rfl ⟨m2, m3, m4⟩
     . rw [arS hh, arS hh]
       exact .nil
   obtain ⟨b1, Vi, l3⟩ := gM.jM (n := n) (s := (s.1.filter Q.V, mG gj bh s.2.1 m, s.2.2)) (eu.get hO m.toNat) hb
   obtain ⟨b2, Uc, l4⟩ := GF (n := n) (gj := gj) (mem := mem) (bh := bh) hO gone (s.1.filter Q.V, mG gj bh s.2.1 m, b1) Vi n2 (fun k hk => by
     obtain ⟨k1, k2, k3, k4⟩ := hm k (arO _ hk)
     have qm : k ≠ m := fun e => n1 (e ▸ hk)
     refine ⟨asf.mpr ⟨k1, by simp [qm]⟩, k2, by rw [Ao]; exact k3, ?_⟩
     rw [← k4]
     exact LR _ _ _ Q.a)
   refine ⟨b2, Uc, ?_⟩
   have ef : (s.1.filter Q.V).filter (fun x => !decide (x ∈ gone)) = s.1.filter (fun x => !decide (x ∈ m :: gone)) := by
     rw [List.filter_filter]
     refine auo fun x _ => ?_
     rw [atM]
     simp only [arP, asa, as1, asM, not_or]
     exact ⟨fun z => ⟨z.2, z.1⟩, fun z => ⟨z.2, z.1⟩⟩
   have := (l1.app (l2.app l3)).app l4
   rw [ef] at this
   exact this
theorem GH {n nb : Nat} {ws : List cU} : ∀ (so : Q.b) (s : k6), s.2.2.length = nb -> (∀ i ∈ so, eu nb (dg ws i).jM) -> ∃ Xj : List Int, Xj.length = nb /\ gM n (EY ws so) so s (s.1, s.2.1, Xj)
 | [], s, hb, _ => ⟨s.2.2, hb, .nil⟩
 | i :: so, s, hb, hw => by
   have l1 : gM n [(It.way i).d] [i] s s := gM.one (.way i) rfl ⟨by decide +kernel, by show 1 <= 3; decide, fun d hd => by simp only [arP, asw, at3] at hd; exact .inl ⟨_, hd⟩⟩
   obtain ⟨b1, Vi, l2⟩ := gM.jM (n := n) (s := s) (hw i arK) hb
   obtain ⟨b2, Uc, l3⟩ := GH (n := n) so (s.1, s.2.1, b1) Vi fun k hk => hw k (arO _ hk)
   exact ⟨b2, Uc, (l1.app l2).app l3⟩
theorem DI {n nb : Nat} {is : List Q.k} (hI : ∀ l ∈ is, eu nb l) : ∀ (come : Q.b) (s : k6), s.2.2.length = nb -> s.1.Pairwise (· <= ·) -> (s.1 ++ come).Nodup -> (∀ m ∈ come, 0 <= m /\ m < n) →
   ∃ Xj : List Int, Xj.length = nb /\ gM n (inR is come) [] s (sortI (s.1 ++ come), s.2.1, Xj)
 | [], s, hb, hs, _, _ => ⟨s.2.2, hb, by
     rw [asj, yo hs]
     exact .nil⟩
 | m :: come, s, hb, hs, nd, hm => by
   have hnm : m ∉ s.1 := fun h => (ass.mp nd).2.2 m h m arK rfl
   have l1 : gM n [(It.BP m).d] [] s (sortI (s.1 ++ [m]), s.2.1, s.2.2) := gM.one (.BP m) rfl ⟨hnm, hm m arK⟩
   obtain ⟨b1, Vi, l2⟩ := gM.jM (n := n) (s := (sortI (s.1 ++ [m]), s.2.1, s.2.2)) (eu.get hI m.toNat) hb
   have pm : (sortI (s.1 ++ [m]) ++ come).Perm (s.1 ++ m :: come) := by
     refine ((sortI_perm _).append_right come).trans ?_
     rw [arR]
     exact .refl _
   obtain ⟨b2, Uc, l3⟩ := DI (n := n) hI come (sortI (s.1 ++ [m]), s.2.1, b1) Vi (gA _) (pm.nodup_iff.mpr nd) fun k hk => hm k (arO _ hk)
   refine ⟨b2, Uc, ?_⟩
   have := (l1.app l2).app l3
   rw [show sortI (sortI (s.1 ++ [m]) ++ come) = sortI (s.1 ++ m :: come) from Ak pm] at this
   exact this
section
variable {some : Q.b}
theorem O6 {bx : Q.b} (hC : Q.aW) (hc : wm (aZ ks) es ch) (pR : ch.length = es.length) (hm : yE ks es mem) (hs : rC ks es ws Q.x some) (hb : bx.length = nb)
   (hI : ∀ l ∈ is, eu nb l) (hO : ∀ l ∈ os, eu nb l) (hW : ∀ w ∈ ws, eu nb w.jM) :
   ∃ bx' : List Int, bx'.length = nb /\ gM es.length (HX ks es ss is os ws mem Q.x some) some (cu Q.g es ch Q.f, mem, bx) (EX ks es ss (EZ ks es ws mem Q.x Q.Q) Q.x Q.Q, EZ ks es ws mem Q.x Q.Q, bx') := by
 have NX : ∀ x ∈ cu Q.g es ch Q.f, 0 <= x /\ x < es.length := fun x hx => DC hC.n0 hx
 have hos := dQ (isAll := aq ks) (es := es) (ch := ch) Q.f
 obtain ⟨g1, g2⟩ := Aj (ks := ks) (gs := gi ws some) hC.pre.1 hos NX hs.ap
 have hbh := GA hC hc pR hm Q.Q
 have hbT := hC.tree hbh
 have hbe := aeD hC hc pR hm.1 Q.Q
 obtain ⟨c1, c2, c3⟩ := Dy hbT hs.ap (hs.goes hC)
 obtain ⟨Du, _, _, e1, _⟩ := Dz hC.kd hbT hC.n0 pR hc hs.ap (hs.goes hC)
 have hnd := (nK (dQ (isAll := aq ks) (es := es) (ch := Du) Q.f))
 rw [← e1] at hnd
 have Xl : ∀ x ∈ ia ks es Q.x Q.Q, x ∈ cu Q.g es ch Q.f := fun x hx => (yz.mp hx).1
 generalize cu Q.g es ch Q.f = ops at *
 have hbl := hbh.1
 have Bo := hm.1
 have akp : (ia ks es ops Q.Q).foldl (mG (fY ks es ws) (EZ ks es ws mem ops Q.Q)) mem = EZ ks es ws mem ops Q.Q := by
   apply Dp
   . rw [Aq]; omega
   . intro i hi
     rw [Aq] at hi
     rw [LV _ _ _ _ _ (fun m hm => (NX m (Xl m hm)).1) hi]
     split
     . rfl
     . rename_i hn
       rw [hbe, BX _ _ (fun e he => by have := NX e (Xl e (asf.mp he).1); omega) i hi]
       rw [arS fun z => hn ⟨(asf.mp z.1).1, (asf.mp z.1).2⟩]
 unfold HX
 unfold EX at hnd ⊢
 generalize EZ ks es ws mem ops Q.Q = bh at *
 obtain ⟨b1, Vi, l1⟩ := GF (n := es.length) (gj := fY ks es ws) (mem := mem) (bh := bh) hO (ia ks es ops Q.Q) (ops, mem, bx) hb g1 (fun m hm => ⟨Xl m hm, (NX m (Xl m hm)).1, by have := (NX m (Xl m hm)).2; show m < ((mem.length : Nat) : Int); omega, rfl⟩)
 obtain ⟨b2, Uc, l2⟩ := GH (n := es.length) (ws := ws) some (ops.filter (fun x => !decide (x ∈ ia ks es ops Q.Q)), (ia ks es ops Q.Q).foldl (mG (fY ks es ws) bh) mem, b1) Vi fun i hi => hW _ (rq (hs.i i hi).1.1 (hs.i i hi).1.2)
 obtain ⟨b3, hb3, l3⟩ := DI (n := es.length) hI (rA ks es ss bh Q.Q) (ops.filter (fun x => !decide (x ∈ ia ks es ops Q.Q)), (ia ks es ops Q.Q).foldl (mG (fY ks es ws) bh) mem, b2) Uc (Lx (hos.sublist List.filter_sublist)) ((sortI_perm _).nodup_iff.mp hnd) fun m hm => (c3 m (iP.mp hm)).1
 refine ⟨b3, hb3, ?_⟩
 have := (l1.app l2).app l3
 rw [akp, asj] at this
 exact this
theorem Xm (hC : Q.aW) (hc : wm (aZ ks) es ch) (pR : ch.length = es.length) (hm : yE ks es mem) (hs : rC ks es ws Q.x some) {i : Int} (hi : i ∈ some) (ht : (dg ws i).tgt ≠ -1) :
   (dg ws i).tgt ∈ EX ks es ss (EZ ks es ws mem Q.x Q.Q) Q.x Q.Q := by
 have hbT := hC.tree (GA hC hc pR hm Q.Q)
 have hw : dg ws i ∈ gi ws some := by
   unfold gi
   refine ase.mpr ⟨i, asf.mpr ⟨hi, ?_⟩, rfl⟩
   unfold jY
   rw [asi ht]
   rfl
 have g := hs.goes hC _ hw
 unfold EX rA
 refine iP.mpr (arQ _ (iP.mpr (asO.mpr ⟨_, hw, ?_⟩)))
 have htn : (dg ws i).tgt.toNat < es.length := by have := g.1; omega
 have et : (((dg ws i).tgt.toNat : Nat) : Int) = (dg ws i).tgt := by have := g.1; omega
 unfold Gw
 rw [yt hbT htn g.up]
 have := (B3 (far := cS (dg ws i).mode) (near := eG (dg ws i).mode) (u := gI ks es (dg ws i)) hbT htn (dg ws i).tgt.toNat htn).mpr (.inl Q.F)
 rwa [et] at this
end
theorem LW (n : Nat) : (List.replicate n [L3.D.int (-1)]).flatten = (List.replicate n (-1 : Int)).map L3.D.int := by
 induction n with
 | zero => rfl
 | succ n ih => rw [as7, atu, ih, as7]; rfl
seal L3.ic L3.TSv L3.cO L3.eN L3.wZ L3.Ro L3.V0
def az (s : Q.b) (k : Int) : Int := if s.length = 0 then k else s.getD (k % (s.length : Nat)).toNat 0 % 10 ^ (36 : Int).toNat / (1 + k / (s.length : Nat)) + k / (s.length : Nat) * k
theorem qz (s : Q.b) (h : 0 <= k) : 0 <= az s k := by
 unfold az
 by_cases e : s.length = 0
 . rw [arU e]; exact h
 . rw [arS e]
   have t0 : 0 <= k / (s.length : Nat) := Int.ediv_nonneg h Q.a
   have m0 := asd (s.getD (k % (s.length : Nat)).toNat 0) (b := 10 ^ (36 : Int).toNat) Q.i
   have := Int.ediv_nonneg m0 (b := 1 + k / (s.length : Nat)) Q.a
   have := Int.mul_nonneg t0 h
   omega
abbrev Ie : Stmt := top 52
abbrev Ig : Type := List Int × Int
def gO : Ig -> List L3.D := fun (s, k) => [.lst (s.map .int), .int k]
def bE : Ig -> Prop := fun (s, k) => 0 <= k /\ k <= 100000 /\ s.length <= 1000
def fZ : Ig -> T := fun (s, k) => (.sh (.int (az s k)) : T)
structure agD (X : Cx) (CL : Q.e) : Prop extends bP X where
 aF : Ln X 0 "script"
 k7 : Ln X 1 "k"
 O7 : Ln X 2 "turn"
 c7 : Gl X "len"
 c9 : X.mg "len" = none
variable {X : Cx} {CL : Q.e} {b : Bx}
theorem agE (E : agD X CL) {aW : Ig} (h : bE aW) :
   ay X CL b Ie ["script", "k", "turn"] (gO aW) (fZ aW) := by
 obtain ⟨s, k⟩ := aW
 dsimp only [ay, bE, gO, fZ] at h ⊢
 obtain ⟨k0, k1, hl⟩ := h
 refine cT (eU (ah (dY (arL ..) E.c9 Q.H E.c7)) Q.c).1 (fun hp => ?_) (fun hp => au ?_)
 . have e : s.length = 0 := by
     have := ar0 hp
     omega
   refine aY (v_ E.k7.1) ?_
   show T.sh _ = T.sh (.int (az s k))
   unfold az
   rw [arU e]
 . have e : ¬ s.length = 0 := by
     have := asq hp
     omega
   have t0 : 0 <= k / (s.length : Nat) := Int.ediv_nonneg k0 Q.a
   have t1 : k / (s.length : Nat) <= k := Int.ediv_le_self _ k0
   have b1 := asd k (b := (s.length : Nat)) Q.a
   have b2 := ar3 k (b := (s.length : Nat)) Q.a
   refine aG E.g E.O7 (cW Q.G (ah (dY (arL ..) E.c9 Q.H E.c7)) (⟨by omega, by omega⟩)) ?_
   refine aY (dM (ah (cW (ah (bW (bz Q.H (ah (bW Q.G (ah (dY (arL ..) E.c9 Q.H E.c7)) Q.a)) (cY b1 b2)) (ah (Ol Q.c Q.c ⟨by decide, by decide, by decide⟩)) Q.i)) (ah (dM Q.c (aA E.O7))) (⟨by omega, by omega⟩))) (ah (C3 (aA E.O7) Q.G (.inr ⟨by omega, by omega⟩)))) ?_
   show T.sh _ = T.sh (.int (az s k))
   unfold az
   rw [arS e]
theorem B7 : jf (ak Ie) ([("script", ao), ("k", ao), ("turn", ao), ("len", av)]) = true := Q.j
theorem abZ : aH ["script", "k", "turn"] ["script", "k"] (ak Ie) := aM
def mL (s : Q.b) : Int := az s 0 / 9 % 3
theorem agF (s : Q.b) : 0 <= mL s /\ mL s < 3 := ⟨asd _ Q.i, ar3 _ Q.i⟩
def Ul : List Int := [-1]
def Um : List Int := [-1, 0, 1, 1, 0, 4, 4, 0, 7]
def Uo : List Int := [-1, 0, 1, 2, 2, 1, 5, 5, 0]
def rG (s : Q.b) : List Int := if mL s = 0 then Ul else if mL s = 1 then Um else Uo
def gUp (s es : Q.b) (j : Nat) : Int := az s ((j : Int) + 1) % (((bD es j).length : Int) + 1)
theorem Xn (s es : Q.b) (j : Nat) : 0 <= gUp s es j /\ gUp s es j <= ((bD es j).length : Int) := by
 have a := asd (az s ((j : Int) + 1)) (b := ((bD es j).length : Int) + 1) Q.a
 have b := ar3 (az s ((j : Int) + 1)) (b := ((bD es j).length : Int) + 1) Q.a
 unfold gUp
 omega
def O8 (s es : Q.b) (j : Nat) : Int := T6 es j (gUp s es j).toNat
def Vj (s es : Q.b) (j : Nat) : Int := if 11 < ((bD es (O8 s es j)).length : Int) then es.getD (O8 s es j).toNat 0 else O8 s es j
variable {j : Nat}
theorem Xo {s : Q.b} (h : jW es) (hj : j + 1 = es.length) : (O8 s es j = j \/ O8 s es j ∈ bD es j) /\ (Vj s es j = j \/ Vj s es j ∈ bD es j) := by
 have hu := Xn s es j
 have h1 : O8 s es j = j \/ O8 s es j ∈ bD es j := RD Q.a
 refine ⟨h1, ?_⟩
 unfold Vj
 split
 . rename_i hd
   have hb : 0 <= O8 s es j /\ O8 s es j < es.length := by
     rcases h1 with z | z
     . omega
     . have := bA h.1 (m := (j : Int)) Q.a Q.a z
       omega
   have qm : es.getD (O8 s es j).toNat 0 ≠ -1 := fun e => by
     have := cZ h.1 hb.1 hb.2
     rw [arU e] at this
     rw [this] at hd
     simp at hd
   have he := Gr h.1 hb.1 hb.2 qm
   rcases h1 with z | z
   . rw [z] at he
     rw [z]
     exact .inr he
   . exact .inr (jL h.1 Q.a Q.a z he)
 . exact h1
def pU (s lK : Q.b) : Nat -> List Int
 | 0 => lK
 | i + 1 => pU s lK i ++ [Vj s (pU s lK i) ((pU s lK i).length - 1)]
theorem Ih (s : Q.b) {lK : Q.b} (h0 : 0 < lK.length) (hp : jW lK) : ∀ i, (pU s lK i).length = lK.length + i /\ jW (pU s lK i)
 | 0 => ⟨rfl, hp⟩
 | i + 1 => by
   obtain ⟨h1, h2⟩ := Ih s h0 hp i
   refine ⟨by show (pU s lK i ++ _).length = _; rw [arY, h1]; rfl, ?_⟩
   exact h2.snoc (k := (pU s lK i).length - 1) Q.a (Xo h2 Q.a).2
def akq (es : Q.b) : Bool := (List.range es.length).all (fun k => decide (-1 <= es.getD k 0) && decide (es.getD k 0 < (k : Int))) && (List.range Q.f).all (fun k => decide (es.getD (k + 1) 0 = (k : Int)) || decide (es.getD (k + 1) 0 ∈ bD es k))
theorem ab0 (h : akq es = true) : jW es := by
 unfold akq at h
 rw [asa, atd, atd] at h
 refine ⟨fun k hk => ?_, fun k hk => ?_⟩
 . have := h.1 k (atv.mpr hk)
   simpa using this
 . have := h.2 k (atv.mpr Q.a)
   simpa using this
theorem Xp (s : Q.b) (h : 1 <= n) : 0 < ((rG s).take n).length /\ ((rG s).take n).length <= n /\ ((rG s).take n).length <= 9 /\ jW ((rG s).take n) := by
 have hm : (rG s).take n = (rG s).take (min n 9) := by
   have hl : (rG s).length <= 9 := by
     unfold rG
     split
     . decide
     . split <;> decide
   rw [← List.take_take, List.take_of_length_le (l := rG s) (i := 9) hl]
 have hl2 : ((rG s).take n).length <= n := by simp; omega
 rw [hm] at hl2 ⊢
 have : min n 9 = 1 \/ min n 9 = 2 \/ min n 9 = 3 \/ min n 9 = 4 \/ min n 9 = 5 \/ min n 9 = 6 \/ min n 9 = 7 \/ min n 9 = 8 \/ min n 9 = 9 := by omega
 have key : ∀ f ∈ [Ul, Um, Uo], ∀ m : Nat, (m = 1 \/ m = 2 \/ m = 3 \/ m = 4 \/ m = 5 \/ m = 6 \/ m = 7 \/ m = 8 \/ m = 9) -> 0 < (f.take m).length /\ (f.take m).length <= 9 /\ jW (f.take m) := by
   intro f hf m hm
   simp only [arP, asw, at3] at hf
   rcases hf with rfl | rfl | rfl <;> rcases hm with rfl | rfl | rfl | rfl | rfl | rfl | rfl | rfl | rfl <;> exact ⟨by decide +kernel, by decide +kernel, ab0 Q.d⟩
 have hf : rG s ∈ [Ul, Um, Uo] := by
   unfold rG
   split
   . simp
   . split <;> simp
 obtain ⟨a, b, c⟩ := key _ hf _ this
 exact ⟨a, hl2, b, c⟩
def rH (s : Q.b) (n : Nat) : List Int := pU s ((rG s).take n) (n - ((rG s).take n).length)
theorem RW (s : Q.b) (h1 : 1 <= n) (h9 : n <= 30) : (rH s n).length = n /\ jW (rH s n) := by
 obtain ⟨a, b, c, d⟩ := Xp s h1
 obtain ⟨x, y⟩ := Ih s a d (n - ((rG s).take n).length)
 exact ⟨by unfold rH; rw [x]; omega, y⟩
theorem Up {l : List α} {k : Nat} : cutD l none (some (k : Int)) = l.take k := by
 unfold cutD
 have e1 : HT.z7 l.length 0 none = 0 := rfl
 have e2 : HT.z7 l.length l.length (some (k : Int)) = min k l.length := by
   unfold HT.z7
   simp
   try omega
 rw [e1, e2]
 simp
 try rw [List.Vk]
theorem ab1 {x : α} {l : List α} : cutD (x :: l) (some 1) none = l := by
 unfold cutD
 have e1 : HT.z7 (x :: l).length (x :: l).length none = (x :: l).length := rfl
 have e2 : HT.z7 (x :: l).length 0 (some 1) = 1 := by
   unfold HT.z7
   simp
 rw [e1, e2]
 simp
theorem ab2 (h : jW es) (hj : j + 1 < es.length) : (0 <= es.getD Q.l 0 /\ es.getD Q.l 0 <= j) /\ ((bD es ((j + 1 : Nat) : Int)).length : Int) = ((bD es (es.getD Q.l 0)).length : Int) + 1 := by
 have hb : 0 <= es.getD Q.l 0 /\ es.getD Q.l 0 <= j := by
   rcases h.2 j hj with z | z
   . omega
   . have := bA h.1 (m := (j : Int)) Q.a Q.a z
     omega
 refine ⟨hb, ?_⟩
 have e := cZ h.1 (m := ((j + 1 : Nat) : Int)) Q.a Q.a
 rw [arT] at e
 rw [e, arS Q.a, ar8]
 omega
abbrev yF : Stmt := top 54
abbrev yG : Type := List Int × Nat
def rJ : yG -> List L3.D := fun (s, n) => [.lst (s.map .int), .int n]
def nP : yG -> Prop := fun (s, n) => 1 <= n /\ n <= 30 /\ s.length <= 1000
def rK : yG -> T := fun (s, n) => (.lst (((rH s n).map .int).map T.sh) : T)
structure Xq (X : Cx) (CL : Q.e) : Prop extends bP X where
 aF : Ln X 0 "script"
 gZ : Ln X 1 "many"
 u6 : Ln X 2 "style"
 bB : Ln X 3 "elders"
 nQ : Ln X 4 "depths"
 dG : Ln X 5 "elder"
 k7 : Ln X 6 "k"
 fL : Ln X 7 "at"
 jb : Ln X 8 "step"
 aV : Gl X "_law_cell"
 b6 : Gl X "range"
 c7 : Gl X "len"
 c5 : Fc X CL "_law_cell" 1 2 gO bE fZ
 b7 : X.mg "range" = none
 c9 : X.mg "len" = none
theorem Xr (E : Xq X CL) {aW : yG} (h : nP aW) :
   ay X CL b yF ["script", "many", "style", "elders", "depths", "elder", "k", "at", "step"] (rJ aW) (rK aW) := by
 obtain ⟨s, n⟩ := aW
 dsimp only [ay, nP, rJ, rK] at h ⊢
 obtain ⟨n1, n2, hs⟩ := h
 refine aG E.g E.u6 (aP Q.ce (t2 := .sh (.int (mL s))) rfl) ?_
 obtain ⟨y0, y1⟩ := agF s
 have NV : AJ [L3.D.lst (Ul.map .int), L3.D.lst (Um.map .int), .lst (Uo.map .int)] (mL s) = some (.lst ((rG s).map .int)) := by
   unfold rG
   have : mL s = 0 \/ mL s = 1 \/ mL s = 2 := by omega
   rcases this with e | e | e
   . rw [arU e, e]; rfl
   . rw [arS Q.a, arU e, e]; rfl
   . rw [arS Q.a, arS Q.a, e]; rfl
 have hfr : T.dJ (.lst [.lst ((Ul.map L3.D.int).map T.sh), .lst ((Um.map L3.D.int).map T.sh), .lst ((Uo.map L3.D.int).map T.sh)]) = .lst [L3.D.lst (Ul.map .int), L3.D.lst (Um.map .int), .lst (Uo.map .int)] := by
   rw [T.dJ, T.ez, T.ez, T.ez, T.ez, fJ, fJ, fJ]
 refine aG E.g E.bB (aP (ye (bz (tK (AO (d8 (aN (d8 (BQ rfl) Q.r) (aN (d8 (BQ rfl) Q.r) (aN (d8 (BQ rfl) Q.r) b8))) Q.r)) hfr) (aA E.u6) NV) (bJ _) BI (BJ (aA E.gZ))) (t2 := .lst ((((rG s).take n).map .int).map T.sh)) (by rw [Up]; simp [auq])) ?_
 obtain ⟨f0, f1, f2, fp⟩ := Xp s n1
 show ic X CL b _ _ { nx := _, rt := fun T4 _ => T4 = T.lst (((rH s n).map .int).map T.sh), bk := _, ct := _ }
 unfold rH
 generalize (rG s).take n = lK at f0 f1 f2 fp ⊢
 refine aG E.g E.nQ (gu (aJ aj dh) Q.r) ?_
 obtain ⟨e1, r1, agG⟩ : ∃ x r, lK = x :: r := by
   cases lK with
   | nil => simp at f0
   | cons x r => exact ⟨x, r, rfl⟩
 have ank : cutD (lK.map L3.D.int) (some 1) none = r1.map L3.D.int := by rw [agG, asl, ab1]
 have hr1 : r1.length + 1 = lK.length := by rw [agG]; rfl
 refine eO E.g E.dG (fun j δ => ∃ o5, δ = [some Q.ah, some (.sh (.int n)), some (.sh (.int (mL s))), some (.lst ((lK.map .int).map T.sh)), some (.lst (((BV lK Q.l).map .int).map T.sh)), o5, none, none, none])
   (dN (iO (aP (ye (vL E.bB.1) (bJ _) (BJ Q.c) BI) (by rw [ank])))) ⟨none, ?i0⟩ Q.aG ?akr ?anl
 case i0 =>
   have : BV lK 1 = [0] := by
     show [((bD lK ((0 : Nat) : Int)).length : Int)] = [0]
     have e := cZ fp.1 (m := ((0 : Nat) : Int)) Q.a Q.a
     have hz := fp.1 0 f0
     rw [e, arU (by rw [arT]; omega)]
     rfl
   rw [this]
   rfl
 case akr =>
   rintro j d δ hj ⟨o5, rfl⟩
   obtain ⟨x, rfl, hx, _, qR, _, _⟩ := iC hj
   have Xs : j + 1 < lK.length := by omega
   obtain ⟨hb, hd⟩ := ab2 fp Xs
   have hgx : lK.getD Q.l 0 = x := by
     rw [agG, arM, List.getElem?_cons_succ, hx]
     rfl
   rw [hgx] at hb hd
   have hdl : (BV lK Q.l).length = j + 1 := by simp [BV]
   have dx : (BV lK Q.l).getD x.toNat 0 = ((bD lK x).length : Int) := by
     have := OS lK (n := j + 1) (i := x.toNat) Q.a
     rw [this, show ((x.toNat : Nat) : Int) = x by omega]
   refine iA E.nQ.1 rfl (aP (dM (bz (vL E.nQ.1) (aA E.dG) Q.ag) Q.c) (congrArg (fun z => T.sh (.int (z + 1))) dx)) rfl Q.z (au ?_)
   have e2 : (((BV lK Q.l).map L3.D.int).map T.sh) ++ [T.sh (.int (((bD lK x).length : Int) + 1))] = ((BV lK (j + 1 + 1)).map L3.D.int).map T.sh := by
     rw [← hd]
     unfold BV
     rw [atg (n := j + 1)]
     simp
   rw [e2]
   exact ⟨_, rfl⟩
 case anl =>
 rintro δ ⟨o5, rfl⟩
 rw [arL, hr1]
 have aoJ : ((lK.length : Nat) : Int) <= n := by omega
 refine eO E.g E.k7 (fun i δ => ∃ o6 o7 o8, δ = [some Q.ah, some (.sh (.int n)), some (.sh (.int (mL s))), some (.lst (((pU s lK i).map .int).map T.sh)), some (.lst (((BV (pU s lK i) (lK.length + i)).map .int).map T.sh)), o5, o6, o7, o8])
   (Gb E.b7 (ah (dY (arL ..) E.c9 (vL E.bB.1) E.c7)) (aA E.gZ) Q.a E.b6) ⟨_, _, _, rfl⟩ (fun j δ ⟨_, _, _, e⟩ => by subst e; exact arN rfl) ?turn ?fin
 case turn =>
   rintro i d δ hj ⟨o6, o7, o8, rfl⟩
   obtain ⟨rfl, qR⟩ := gK hj
   obtain ⟨hl, hp⟩ := Ih s f0 fp i
   obtain ⟨j, hj1⟩ : ∃ j : Nat, lK.length + i = j + 1 := ⟨lK.length + i - 1, by omega⟩
   have est : pU s lK (i + 1) = pU s lK i ++ [Vj s (pU s lK i) j] := by
     show pU s lK i ++ [Vj s (pU s lK i) ((pU s lK i).length - 1)] = _
     rw [show (pU s lK i).length - 1 = j by omega]
   have xx := Xo (s := s) hp (j := j) Q.a
   have hu := Xn s (pU s lK i) j
   show ic X CL b _ _ { nx := fun δ => ∃ o6 o7 o8, δ = [_, _, _, some (.lst (((pU s lK (i + 1)).map .int).map T.sh)), some (.lst (((BV (pU s lK (i + 1)) (lK.length + (i + 1))).map .int).map T.sh)), o5, o6, o7, o8], rt := _, bk := _, ct := _ }
   rw [est, show lK.length + (i + 1) = j + 1 + 1 by omega, hj1]
   rw [show ((lK.length : Nat) : Int) + (i : Int) = (j : Int) + 1 by omega]
   generalize hes : pU s lK i = es at hl hp hu xx ⊢
   have ht := hp.1
   have hdl : (BV es Q.l).length = j + 1 := by simp [BV]
   have pR : ((bD es (j : Int)).length : Nat) <= es.length + 1 := BU _ _ _
   have dj : (BV es Q.l).getD (j : Int).toNat 0 = ((bD es (j : Int)).length : Int) := by
     rw [arT]
     exact OS es Q.a
   refine aG E.g E.fL (aP (tD Q.G Q.c) (congrArg (fun z => T.sh (.int z)) (show ((j : Int) + 1) - 1 = j by omega))) ?_
   have hgu : az s ((j : Int) + 1) % ((BV es Q.l).getD (j : Int).toNat 0 + 1) = gUp s es j := by rw [dj]; rfl
   refine eO E.g E.jb (fun i δ => ∃ o8, δ = [some Q.ah, some (.sh (.int n)), some (.sh (.int (mL s))), some (.lst ((es.map .int).map T.sh)), some (.lst (((BV es Q.l).map .int).map T.sh)), o5, some (.sh (.int ((j : Int) + 1))), some (.sh (.int (T6 es j i))), o8])
     (d9 E.b7 (tK (ah (bW (ah (c_ ((s, (j : Int) + 1)) E.c5 E.aV (ai Q.H (ai Q.G aB)) Q.an rfl)) (ah (dM (bz (vL E.nQ.1) (aA E.fL) Q.ag) Q.c)) ((by rw [dj]; omega)))) (congrArg L3.D.int hgu)) Q.a E.b6) ⟨_, rfl⟩ (fun j δ ⟨_, e⟩ => by subst e; exact Nat.le_of_ble_eq_true rfl) ?Xu ?fin2
   case Xu =>
     rintro i d δ hi ⟨o8, rfl⟩
     obtain ⟨rfl, hil⟩ := gK hi
     obtain ⟨⟨x0, x1⟩, x2⟩ := Lj ht Q.l (m := (j : Int)) (n := i) Q.a Q.a Q.a Q.a
     refine aG E.g E.fL (aP (cj (bz (vL E.bB.1) (aA E.fL) Q.ag) rfl) (congrArg (fun z => T.sh (.int z)) x2)) (au ⟨_, rfl⟩)
   case fin2 =>
     rintro δ ⟨o8, rfl⟩
     have e0 : (bV 0 (gUp s es j).toNat).length = (gUp s es j).toNat := by simp [bV]
     rw [e0, show T6 es j (gUp s es j).toNat = O8 s es j from rfl]
     have hbd : ∀ y : Int, (y = j \/ y ∈ bD es j) -> 0 <= y /\ y < es.length := fun y hy => by
       rcases hy with z | z
       . omega
       . have := bA ht (m := (j : Int)) Q.a Q.a z
         omega
     have Vi := hbd _ xx.1
     have hb := hbd _ xx.2
     have dx : ∀ y : Int, 0 <= y -> y < es.length -> (BV es Q.l).getD y.toNat 0 = ((bD es y).length : Int) := fun y a c => by
       have := OS es (n := j + 1) (i := y.toNat) Q.a
       rw [this, show ((y.toNat : Nat) : Int) = y by omega]
     refine C6 (fun δ => δ = [some Q.ah, some (.sh (.int n)), some (.sh (.int (mL s))), some (.lst ((es.map .int).map T.sh)), some (.lst (((BV es Q.l).map .int).map T.sh)), o5, some (.sh (.int ((j : Int) + 1))), some (.sh (.int (Vj s es j))), o8]) (Ga (bz (vL E.nQ.1) (aA E.fL) Q.ag) Q.c).1 (fun hp => ?_) (fun hp => ?_) ?_
     . have hp : 11 < ((bD es (O8 s es j)).length : Int) := by rw [← dx _ Vi.1 Vi.2]; exact ar0 hp
       rw [show Vj s es j = es.getD (O8 s es j).toNat 0 by unfold Vj; rw [arU hp]]
       exact aG E.g E.fL (cj (bz (vL E.bB.1) (aA E.fL) Q.ag) rfl) (au rfl)
     . have hp : ¬ 11 < ((bD es (O8 s es j)).length : Int) := by rw [← dx _ Vi.1 Vi.2]; exact asq hp
       rw [show Vj s es j = O8 s es j by unfold Vj; rw [arS hp]]
       exact au rfl
     rintro δ rfl
     generalize Vj s es j = x at hb ⊢
     refine iA E.bB.1 rfl (v_ E.fL.1) rfl Q.z ?_
     refine iA E.nQ.1 rfl (aP (dM (bz (vL E.nQ.1) (aA E.fL) Q.ag) Q.c) (congrArg (fun z => T.sh (.int (z + 1))) (dx x hb.1 hb.2))) rfl Q.z (au ?_)
     have e1 : ((es.map L3.D.int).map T.sh) ++ [T.sh (.int x)] = ((es ++ [x]).map L3.D.int).map T.sh := by simp
     have e2 : (((BV es Q.l).map L3.D.int).map T.sh) ++ [T.sh (.int (((bD es x).length : Int) + 1))] = ((BV (es ++ [x]) (j + 1 + 1)).map L3.D.int).map T.sh := by
       rw [show j + 1 = es.length by omega, WR ht hb.1 hb.2]
       simp
     rw [e1, e2]
     exact ⟨_, _, _, rfl⟩
 case fin =>
   rintro δ ⟨o6, o7, o8, rfl⟩
   refine aY (vM E.bB.1) ?_
   have e : (bV ((lK.length : Nat) : Int) ((n : Int) - ((lK.length : Nat) : Int)).toNat).length = n - lK.length := by simp [bV] <;> omega
   rw [e]
theorem fD : jf (ak yF) ([("script", ao), ("many", ao), ("style", ao), ("elders", ao), ("depths", ao), ("elder", ao), ("k", ao), ("at", ao), ("step", ao), ("_law_cell", av), ("range", av), ("len", av)]) = true := Q.j
theorem Uq : aH ["script", "many", "style", "elders", "depths", "elder", "k", "at", "step"] ["script", "many"] (ak yF) := aM
def kE0 (s : Q.b) (k : Nat) : Str := if 0 < mL s then (["one", "all"] : List Str).getD (if (k : Int) = mL s - 1 then 1 else 0) Str.empty else (["all", "one", "one"] : List Str).getD ((az s k / 13 + k) % 3).toNat Str.empty
def kE (s es : Q.b) (k : Nat) : Str := if (k : Int) ∈ es then kE0 s k else "leaf"
def zY (s es : Q.b) (n : Nat) : List Str := (List.range n).map (kE s es)
theorem Ii (s es : Q.b) (n : Nat) : (zY s es n).length = n := by simp [zY]
theorem Xv (s es : Q.b) {k : Nat} (h : k < n) : (zY s es n).getD k Str.empty = kE s es k := by
 unfold zY
 rw [arM, asA, as8 h]
 rfl
theorem agH (s : Q.b) (k : Nat) : kE0 s k = "all" \/ kE0 s k = "one" := by
 unfold kE0
 split
 . split
   . exact .inl rfl
   . exact .inr rfl
 . have a := asd (az s k / 13 + k) (b := 3) Q.i
   have b := ar3 (az s k / 13 + k) (b := 3) Q.i
   have : ((az s k / 13 + k) % 3).toNat = 0 \/ ((az s k / 13 + k) % 3).toNat = 1 \/ ((az s k / 13 + k) % 3).toNat = 2 := by omega
   rcases this with e | e | e
   . rw [e]; exact .inl rfl
   . rw [e]; exact .inr rfl
   . rw [e]; exact .inr rfl
theorem aeG (s es : Q.b) (k : Nat) : ((k : Int) ∈ es /\ (kE s es k = "all" \/ kE s es k = "one")) \/ ((k : Int) ∉ es /\ kE s es k = "leaf") := by
 unfold kE
 split
 . rename_i h
   exact .inl ⟨h, agH s k⟩
 . rename_i h
   exact .inr ⟨h, rfl⟩
theorem RX (s es : Q.b) : WT Q.aM es := fun k hk e => by
 rw [Xv s es hk] at e
 rcases aeG s es k with ⟨h, _⟩ | ⟨_, e2⟩
 . exact agu h
 . rw [e2] at e
   exact absurd e Q.d
theorem Xw (s es : Q.b) : ∀ k : Nat, k < es.length -> (aR Q.aM k = true /\ aZ Q.aM k = false /\ aq Q.aM k = false /\ gf es k = []) \/ (aR Q.aM k = false /\ aZ Q.aM k = true /\ aq Q.aM k = false) \/ (aR Q.aM k = false /\ aZ Q.aM k = false /\ aq Q.aM k = true) := fun k hk => by
 unfold aR aZ aq
 rw [arT, Xv s es hk]
 rcases aeG s es k with ⟨_, e | e⟩ | ⟨hni, e⟩
 . rw [e]; exact .inr (.inr ⟨by decide +kernel, by decide +kernel, by decide +kernel⟩)
 . rw [e]; exact .inr (.inl ⟨by decide +kernel, by decide +kernel, by decide +kernel⟩)
 . rw [e]
   refine .inl ⟨by decide +kernel, by decide +kernel, by decide +kernel, ?_⟩
   refine atQ.mpr fun x hx => hni ?_
   have hb := kY hx
   rw [← hb.2.2, arM, arZ Q.a]
   exact atn _
abbrev B8 : Stmt := top 55
abbrev B9 : Type := List Int × List Int
def u9 : B9 -> List L3.D := fun (s, es) => [.lst (s.map .int), .lst Q.P]
def qA : B9 -> Prop := fun (s, es) => es.length <= 900 /\ s.length <= 1000
def vd : B9 -> T := fun (s, es) => (.lst (((zY s es es.length).map .str).map T.sh) : T)
structure ab4 (X : Cx) (CL : Q.e) : Prop extends bP X where
 aF : Ln X 0 "script"
 bB : Ln X 1 "elders"
 u6 : Ln X 2 "style"
 gC : Ln X 3 "kinds"
 k7 : Ln X 4 "k"
 tS : Ln X 5 "kind"
 aV : Gl X "_law_cell"
 b6 : Gl X "range"
 c7 : Gl X "len"
 GJ : Gl X "int"
 c5 : Fc X CL "_law_cell" 1 2 gO bE fZ
 b7 : X.mg "range" = none
 c9 : X.mg "len" = none
 GK : X.mg "int" = none
theorem ab5 (E : ab4 X CL) {aW : B9} (h : qA aW) :
   ay X CL b B8 ["script", "elders", "style", "kinds", "k", "kind"] (u9 aW) (vd aW) := by
 obtain ⟨s, es⟩ := aW
 dsimp only [ay, qA, u9, vd] at h ⊢
 obtain ⟨hl, hs⟩ := h
 refine aG E.g E.u6 (aP Q.ce (t2 := .sh (.int (mL s))) rfl) ?_
 refine aG E.g E.gC Q.al ?_
 refine eO E.g E.k7 (fun j δ => ∃ o4 o5, δ = [some Q.ah, some (.sh (.lst Q.P)), some (.sh (.int (mL s))), some (.lst (((zY s es j).map .str).map T.sh)), o4, o5])
   (d9 E.b7 (ah (dY (arL ..) E.c9 (aA E.bB) E.c7)) Q.a E.b6) ⟨_, _, rfl⟩ Q.aA ?turn ?fin
 case turn =>
   rintro j d δ hj ⟨o4, o5, rfl⟩
   obtain ⟨rfl, qR⟩ := gK hj
   rw [as3]
   have yw := Ii s es j
   have eK : ∀ x : Str, x = kE s es j -> ((zY s es j).map L3.D.str).map T.sh ++ [T.sh (.str x)] = ((zY s es Q.l).map L3.D.str).map T.sh := fun x e => by
     subst e
     simp [zY, atg]
   refine aG E.g E.tS (cj (bz (ck (gu (aJ aX (aJ aX (aJ aX dh))) Q.r)) (ah (bW (ah (dM (ah (cW (ah (c_ ((s, (j : Int))) E.c5 E.aV (ai Q.H (ai Q.G aB)) (by dsimp only [bE]; exact (⟨by omega, by omega, by omega⟩)) rfl)) Q.c ⟨by decide, by decide⟩)) Q.G)) Q.c Q.i)) (dP (f := L3.D.str) (l := ["all", "one", "one"]) Str.empty (Int.emod_nonneg _ Q.i) (Int.emod_lt_of_pos _ Q.i))) rfl) ?_
   refine C6 (fun δ => δ = [some Q.ah, some (.sh (.lst Q.P)), some (.sh (.int (mL s))), some (.lst (((zY s es j).map .str).map T.sh)), some (.sh (.int j)), some (.sh (.str (kE0 s j)))]) (Ga (aA E.u6) Q.c).1 (fun hp => ?_) (fun hp => ?_) ?_
   . have hp := ar0 hp
     refine aG E.g E.tS (aP (cj (bz (ds := (["one", "all"] : List Str).map .str) (ck (gu (aJ aX (aJ aX dh)) Q.r)) (ah (aa6 E.GK (ah ((eU Q.G (ah (tD (aA E.u6) Q.c))).2)) E.GJ)) (dP (f := L3.D.str) Str.empty (by split <;> omega) (by show (if _ then (1 : Int) else 0) < ((2 : Nat) : Int); split <;> omega))) rfl) (t2 := .sh (.str (kE0 s j))) ?_) (au rfl)
     unfold kE0
     rw [arU hp]
     by_cases e : (j : Int) = mL s - 1
     . rw [arU e, arU (asK e)]; rfl
     . rw [if_neg e, if_neg (by simpa using e)]; rfl
   . have hp := asq hp
     refine au ?_
     unfold kE0
     rw [arS hp]
     rfl
   rintro δ rfl
   refine C6 (fun δ => δ = [some Q.ah, some (.sh (.lst Q.P)), some (.sh (.int (mL s))), some (.lst (((zY s es j).map .str).map T.sh)), some (.sh (.int j)), some (.sh (.str (kE s es j)))]) (BL (l := es) Q.G (aA E.bB) rfl rfl).1 (fun hp => ?_) (fun hp => ?_) ?_
   . have e : ¬ (j : Int) ∈ es := by
       rw [as1] at hp
       exact asq hp
     rw [show kE s es j = "leaf" by unfold kE; rw [arS e]]
     exact aG E.g E.tS aX (au rfl)
   . have e : (j : Int) ∈ es := by
       rw [Bool.not_eq_false'] at hp
       exact ar0 hp
     rw [show kE s es j = kE0 s j by unfold kE; rw [arU e]]
     exact au rfl
   rintro δ rfl
   refine iA E.gC.1 rfl (v_ E.tS.1) rfl Q.z (au ?_)
   rw [eK _ rfl]
   exact ⟨_, _, rfl⟩
 case fin =>
   rintro δ ⟨o4, o5, rfl⟩
   have e : (bV 0 (es.length : Int).toNat).length = es.length := by simp [bV]
   rw [e]
   exact aY (vM E.gC.1) rfl
theorem jh : jf (ak B8) ([("script", ao), ("elders", ao), ("style", ao), ("kinds", ao), ("k", ao), ("kind", ao), ("_law_cell", av), ("range", av), ("len", av), ("int", av)]) = true := Q.j
theorem Xx : aH ["script", "elders", "style", "kinds", "k", "kind"] ["script", "elders"] (ak B8) := aM
abbrev rL : Stmt := top 56
abbrev rM : Type := List Int × Int
def iR : rM -> List L3.D := fun (es, m) => [.lst Q.P, .int m]
def eW : rM -> Prop := fun (es, m) => es.length <= 1000
def gD : rM -> T := fun (es, m) => (.lst (((gf es m).map .int).map T.sh) : T)
structure O9 (X : Cx) (CL : Q.e) : Prop extends bP X where
 bB : Ln X 0 "elders"
 DJ : X.env.kindOf "elders" = some .cell
 b4 : Ln X 1 "mood"
 Pa : X.env.kindOf "mood" = some .cell
 b6 : Gl X "range"
 c7 : Gl X "len"
 b7 : X.mg "range" = none
 c9 : X.mg "len" = none
theorem Pb (E : O9 X CL) {aW : rM} (h : eW aW) :
   ay X CL b rL ["elders", "mood"] (iR aW) (gD aW) := by
 obtain ⟨es, m⟩ := aW
 dsimp only [ay, eW, iR, gD] at h ⊢
 refine aY (mK (p := fun d => decide (es.getD d.AV.toNat 0 = m)) (g := fun d => T.sh d) (cL (.cons E.bB.1 (.inl E.DJ) (.cons E.b4.1 (.inl E.Pa) .nil)) Q.d) E.g.calm
   (d9 E.b7 (ah (dY (arL ..) E.c9 (aA E.bB) E.c7)) Q.a E.b6) (.inr rfl) (fun C s0 H0 f0 b' d hd => ?Br) Q.bk) ?eq
 case Br =>
   obtain ⟨i, hi, rfl⟩ := ase.mp hd
   have NR : i < es.length := by simpa using hi
   exact ⟨(eU (bz Q.aO (ah (v_ Q.am)) (cY (show (0 : Int) <= 0 + (i : Int) by omega) (show 0 + (i : Int) < es.length by omega))) Q.bN).1, fun _ => v_ Q.am⟩
 case eq =>
   refine congrArg T.lst ?_
   unfold bV gf
   rw [atf, asn, asn, asn, arT]
   have e1 : ((fun d : L3.D => decide (es.getD d.AV.toNat 0 = m)) ∘ fun i : Nat => L3.D.int Q.av) = fun i : Nat => decide (es.getD i 0 = m) := by
     funext i
     show decide (es.getD (0 + (i : Int)).toNat 0 = m) = _
     rw [as3, arT]
   rw [e1]
   congr 1
   funext i
   show T.sh (.int Q.av) = T.sh (.int i)
   rw [as3]
theorem jN : jf (ak rL) ([("elders", .cell), ("mood", .cell), ("range", av), ("len", av)]) = true := Q.j
theorem LX : aH ["elders", "mood"] ["elders", "mood"] (ak rL) := aM
def Ur (s es : Q.b) (ks : Q.h) (base : Int) (k : Nat) : Int := if ks.getD k Str.empty = "one" then (gf es k).getD (az s (base + k) % ((gf es k).length : Nat)).toNat 0 else -1
def NZ (s es : Q.b) (ks : Q.h) (base : Int) (n : Nat) : List Int := (List.range n).map (Ur s es ks base)
theorem RZ (s es : Q.b) (ks : Q.h) (base : Int) (n : Nat) : (NZ s es ks base n).length = n := by simp [NZ]
theorem agI (s es : Q.b) (ks : Q.h) (base : Int) {k : Nat} (h : k < n) : (NZ s es ks base n).getD k 0 = Ur s es ks base k := by
 unfold NZ
 rw [arM, asA, as8 h]
 rfl
theorem ab6 {s : Q.b} {base : Int} {k : Nat} (ho : WT ks es) (hk : k < es.length) (e : ks.getD k Str.empty = "one") : (NZ s es ks base es.length).getD k 0 ∈ gf es k := by
 rw [agI s es ks base hk]
 unfold Ur
 rw [arU e]
 have anm : 0 < (gf es (k : Int)).length := List.length_pos_iff.mpr (ho k hk e)
 have c1 := asd (az s (base + (k : Int))) (b := ((gf es (k : Int)).length : Nat)) Q.a
 have c2 := ar3 (az s (base + (k : Int))) (b := ((gf es (k : Int)).length : Nat)) Q.a
 rw [arM, arZ Q.a]
 exact atn _
abbrev yH : Stmt := top 57
abbrev yI : Type := List Int × List Int × List Str × Int
def rN : yI -> List L3.D := fun (s, es, ks, base) => [.lst (s.map .int), .lst Q.P, .lst (ks.map .str), .int base]
def nR : yI -> Prop := fun (s, es, ks, base) => es.length <= 900 /\ s.length <= 1000 /\ ks.length = es.length /\ WT ks es /\ 0 <= base /\ base <= 5000
def rO : yI -> T := fun (s, es, ks, base) => (.lst (((NZ s es ks base es.length).map .int).map T.sh) : T)
structure Xy (X : Cx) (CL : Q.e) : Prop extends bP X where
 aF : Ln X 0 "script"
 bB : Ln X 1 "elders"
 gC : Ln X 2 "kinds"
 agJ : Ln X 3 "base"
 f6 : Ln X 4 "chosen"
 k7 : Ln X 5 "k"
 iE : Ln X 6 "near"
 b6 : Gl X "range"
 c7 : Gl X "len"
 j0 : Gl X "_law_inner"
 aV : Gl X "_law_cell"
 b7 : X.mg "range" = none
 c9 : X.mg "len" = none
 nS : Fc X CL "_law_inner" 1 2 iR eW gD
 c5 : Fc X CL "_law_cell" 1 2 gO bE fZ
theorem Xz (E : Xy X CL) {aW : yI} (h : nR aW) :
   ay X CL b yH ["script", "elders", "kinds", "base", "chosen", "k", "near"] (rN aW) (rO aW) := by
 obtain ⟨s, es, ks, base⟩ := aW
 dsimp only [ay, nR, rN, rO] at h ⊢
 obtain ⟨hl, hs, hk, ho, b0, b1⟩ := h
 refine aG E.g E.f6 Q.al ?_
 refine eO E.g E.k7 (fun j δ => ∃ o o', δ = [some Q.ah, some (.sh (.lst Q.P)), some (.sh (.lst (ks.map .str))), some (.sh (.int base)), some (.lst (((NZ s es ks base j).map .int).map T.sh)), o, o'])
   (d9 E.b7 (ah (dY (arL ..) E.c9 (aA E.bB) E.c7)) Q.a E.b6) ⟨_, _, rfl⟩ Q.aA ?turn ?fin
 case turn =>
   rintro j d δ hj ⟨o, o', rfl⟩
   obtain ⟨rfl, qR⟩ := gK hj
   rw [as3]
   have pR := RZ s es ks base j
   have Bo : ((gf es (j : Int)).map L3.D.int).length = (gf es (j : Int)).length := by simp
   have eK : ∀ x : Int, x = Ur s es ks base j -> ((NZ s es ks base j).map L3.D.int).map T.sh ++ [T.sh (.int x)] = ((NZ s es ks base Q.l).map L3.D.int).map T.sh := fun x e => by
     subst e
     simp [NZ, atg]
   refine aG E.g E.iE (c_ ((es, (j : Int))) E.nS E.j0 (ai (aA E.bB) (ai Q.G aB)) ((by dsimp only [eW]; omega)) (aU _)) ?_
   rw [show gD (es, (j : Int)) = T.lst (((gf es (j : Int)).map .int).map T.sh) from rfl]
   refine cT (d7 (bz (aA E.gC) Q.G (dP Str.empty Q.a Q.a)) (ah aX)).1 (fun hp => ?_) (fun hp => ?_)
   . have e : ks.getD j Str.empty = "one" := ar0 hp
     have anm : 0 < (gf es (j : Int)).length := List.length_pos_iff.mpr (ho j Q.a e)
     have c1 := asd (az s (base + (j : Int))) (b := ((gf es (j : Int)).length : Nat)) Q.a
     have c2 := ar3 (az s (base + (j : Int))) (b := ((gf es (j : Int)).length : Nat)) Q.a
     refine iA E.f6.1 rfl (cj (bz (vL E.iE.1) (ah (bW (ah (c_ ((s, base + (j : Int))) E.c5 E.aV (ai Q.H (ai (ah (dM (aA E.agJ) Q.G)) aB)) (by dsimp only [bE]; exact (⟨by omega, by omega, by omega⟩)) rfl)) (ah (dY (Bo) E.c9 (vL E.iE.1) E.c7)) Q.a)) (cY c1 c2)) rfl) rfl Q.z (au (au ?_))
     rw [eK _ (by unfold Ur; rw [arU e])]
     exact ⟨_, _, rfl⟩
   . have e : ¬ ks.getD j Str.empty = "one" := asq hp
     refine iA E.f6.1 rfl (fW Q.c) rfl Q.z (au (au ?_))
     rw [eK _ (by unfold Ur; rw [arS e])]
     exact ⟨_, _, rfl⟩
 case fin =>
   rintro δ ⟨o, o', rfl⟩
   have e : (bV 0 (es.length : Int).toNat).length = es.length := by simp [bV]
   rw [e]
   exact aY (vM E.f6.1) rfl
theorem f7 : jf (ak yH) ([("script", ao), ("elders", ao), ("kinds", ao), ("base", ao), ("chosen", ao), ("k", ao), ("near", ao), ("range", av), ("len", av), ("_law_inner", av), ("_law_cell", av)]) = true := Q.j
theorem Us : aH ["script", "elders", "kinds", "base", "chosen", "k", "near"] ["script", "elders", "kinds", "base"] (ak yH) := aM
def XA : List Nat := (List.range 26).map (· + 97)
theorem LY : ("abcdefghijklmnopqrstuvwxyz" : Str).cps.toList = XA := Q.j
def wH (k : Int) : Str := ⟨#[XA.getD k.toNat 0]⟩
def sI (k : Int) : Str := toString k
def nmE (s : Q.b) (k : Int) : Str := ([wH (az s 60 / 3 % 26) ++ sI k, wH (az s 60 / 3 % 26) ++ sI k ++ wH (az s 60 / 78 % 26), wH (az s 60 / 3 % 26) ++ wH (az s 60 / 78 % 26) ++ sI k] : List Str).getD (az s 60 % 3).toNat Str.empty
abbrev Ij : Stmt := top 60
abbrev Ik : Type := List Int × Int
def tT : Ik -> List L3.D := fun (s, k) => [.lst (s.map .int), .int k]
def nT : Ik -> Prop := fun (s, k) => s.length <= 1000 /\ 0 <= k /\ k <= 8
def tU : Ik -> T := fun (s, k) => (.sh (.str (nmE s k)) : T)
structure agK (X : Cx) (CL : Q.e) : Prop extends bP X where
 aF : Ln X 0 "script"
 k7 : Ln X 1 "k"
 b5 : Ln X 2 "cell"
 As : Ln X 3 "letters"
 GL : Ln X 4 "one"
 XC : Ln X 5 "two"
 aV : Gl X "_law_cell"
 yJ : Gl X "str"
 c5 : Fc X CL "_law_cell" 1 2 gO bE fZ
 qB : X.mg "str" = none
theorem agL (E : agK X CL) {aW : Ik} (h : nT aW) :
   ay X CL b Ij ["script", "k", "cell", "letters", "one", "two"] (tT aW) (tU aW) := by
 obtain ⟨s, k⟩ := aW
 dsimp only [ay, nT, tT, tU] at h ⊢
 obtain ⟨hs, hk0, hk⟩ := h
 refine aG E.g E.b5 (c_ ((s, 60)) E.c5 E.aV Q.br Q.an rfl) ?_
 rw [show fZ (s, 60) = T.sh (.int (az s 60)) from rfl]
 have c0 := qz s (k := 60) Q.a
 show ic X CL b _ _ { nx := _, rt := fun T4 _ => T4 = T.sh (.str (nmE s k)), bk := _, ct := _ }
 unfold nmE
 generalize az s 60 = c at c0 ⊢
 refine aG E.g E.As aX ?_
 have hl : XA.length = 26 := Q.j
 have m26 := fun m : Int => asd m (show (26 : Int) ≠ 0 by decide)
 have l26 := fun m : Int => ar3 m (show (0 : Int) < 26 by decide)
 have KL : ∀ m : Int, (wH m).length = 1 := fun _ => rfl
 have hkk : (sI k).length = 1 /\ k.natAbs.log2 < 1920 := by
   have : k = 0 \/ k = 1 \/ k = 2 \/ k = 3 \/ k = 4 \/ k = 5 \/ k = 6 \/ k = 7 \/ k = 8 := by omega
   rcases this with rfl | rfl | rfl | rfl | rfl | rfl | rfl | rfl | rfl <;> exact ⟨by decide +kernel, by decide +kernel⟩
 refine aG E.g E.GL (aP (V4 (aA E.As) Q.bD (by rw [as5]; decide +kernel) (by rw [LY]; exact Wh 0 (m26 _) (by have := l26 (c / 3); rw [hl]; omega))) (t2 := .sh (.str (wH (c / 3 % 26)))) rfl) ?_
 refine aG E.g E.XC (aP (V4 (aA E.As) Q.bD (by rw [as5]; decide +kernel) (by rw [LY]; exact Wh 0 (m26 _) (by have := l26 (c / 78); rw [hl]; omega))) (t2 := .sh (.str (wH (c / 78 % 26)))) rfl) ?_
 have h1 := KL (c / 3 % 26)
 have h2 := KL (c / 78 % 26)
 generalize wH (c / 3 % 26) = one at h1 ⊢
 generalize wH (c / 78 % 26) = two at h2 ⊢
 have l1 : (one ++ sI k).length = 2 := by rw [str_len, h1, hkk.1]
 have l2 : (one ++ two).length = 2 := by rw [str_len, h1, h2]
 refine aY (cj (bz (ck (gu (aJ (xg (aA E.GL) (ah (yh E.qB E.yJ Q.G (hkk.2))) ((by rw [as5]; show one.length + (sI k).length <= _; omega))) (aJ (xg (ah (xg (aA E.GL) (ah (yh E.qB E.yJ Q.G (hkk.2))) ((by rw [as5]; show one.length + (sI k).length <= _; omega)))) (aA E.XC) ((by rw [as5]; show (one ++ sI k).length + two.length <= _; omega))) (aJ (xg (ah (xg (aA E.GL) (aA E.XC) ((by rw [as5]; omega)))) (ah (yh E.qB E.yJ Q.G (hkk.2))) ((by rw [as5]; show (one ++ two).length + (sI k).length <= _; omega))) dh))) Q.r)) Q.bs (dP (f := L3.D.str) (l := [one ++ sI k, one ++ sI k ++ two, one ++ two ++ sI k]) Str.empty (asd _ Q.i) (ar3 _ Q.i))) rfl) rfl
theorem oM : jf (ak Ij) ([("script", ao), ("k", ao), ("cell", ao), ("letters", ao), ("one", ao), ("two", ao), ("_law_cell", av), ("str", av)]) = true := Q.j
theorem ab7 : aH ["script", "k", "cell", "letters", "one", "two"] ["script", "k"] (ak Ij) := aM
def E1 (c : Int) : Int := if c % 4 = 1 then c / 4 % (2 * 10 ^ (30 : Int).toNat - 1) - (10 ^ (30 : Int).toNat - 1) else c / 4 % 7 - 3
abbrev yK : Stmt := top 61
abbrev DK : Type := Int
def nU : DK -> List L3.D := fun a => [.int a]
def nV : DK -> Prop := fun a => True
def nW : DK -> T := fun a => (.sh (.int (E1 a)) : T)
structure XD (X : Cx) (CL : Q.e) : Prop extends bP X where
 b5 : Ln X 0 "cell"
theorem XE (E : XD X CL) {a} (h : nV a) :
   ay X CL b yK ["cell"] (nU a) (nW a) := by
 dsimp only [ay, nV, nU, nW] at h ⊢
 refine cT (eU Q.bs Q.c).1 (fun hp => ?_) (fun hp => au ?_)
 . refine aY (tD (ah (bW Q.az (ah (tD (ah (C3 Q.c (ah (Ol Q.c Q.c ⟨by decide, by decide, by decide⟩)) (.inl ⟨by decide, by decide⟩))) Q.c)) Q.i)) (ah (tD (ah (Ol Q.c Q.c ⟨by decide, by decide, by decide⟩)) Q.c))) ?_
   show T.sh _ = T.sh (.int (E1 a))
   unfold E1
   rw [arU (ar0 hp)]
 . refine aY (tD Q.bD Q.c) ?_
   show T.sh _ = T.sh (.int (E1 a))
   unfold E1
   rw [arS (asq hp)]
theorem Ut : jf (ak yK) ([("cell", ao)]) = true := Q.j
theorem Uu : aH ["cell"] ["cell"] (ak yK) := aM
def A4 (c : Int) (n : Nat) : L3.D := .tup [.int (c % ((n : Int) + 1) - 1), .int (E1 (c / 4))]
abbrev Il : Stmt := top 62
abbrev Im : Type := Int × Nat
def tV : Im -> List L3.D := fun (c, n) => [.int c, .int n]
def tW : Im -> Prop := fun (c, n) => n <= 1000
def tX : Im -> T := fun (c, n) => (.sh (.tup [.int (c % ((n : Int) + 1) - 1), .int (E1 (c / 4))]) : T)
structure agM (X : Cx) (CL : Q.e) : Prop extends bP X where
 b5 : Ln X 0 "cell"
 bU : Ln X 1 "boxes"
 E2 : Gl X "_law_number"
 DL : Fc X CL "_law_number" 1 1 nU nV nW
theorem agN (E : agM X CL) {aW : Im} (h : tW aW) :
   ay X CL b Il ["cell", "boxes"] (tV aW) (tX aW) := by
 obtain ⟨c, n⟩ := aW
 dsimp only [ay, tW, tV, tX] at h ⊢
 exact aY (fS (aJ (tD (ah (bW (aA E.b5) (ah (dM (aA E.bU) Q.c)) Q.a)) Q.c) (aJ (c_ (c / 4) E.DL E.E2 (ai Q.az aB) (trivial) rfl) dh)) Q.r) rfl
theorem Io : jf (ak Il) ([("cell", ao), ("boxes", ao), ("_law_number", av)]) = true := Q.j
theorem ab8 : aH ["cell", "boxes"] ["cell", "boxes"] (ak Il) := aM
def Uv (n m : Nat) (c : Int) : L3.D :=
 if c % 3 = 1 then .tup [.str ((["open", "shut"] : List Str).getD (c / 3 % 2).toNat Str.empty), .int (c / 6 % (m : Int))]
 else .tup [.str ((["<", "<=", "=", "!="] : List Str).getD (c / 3 % 4).toNat Str.empty), A4 (c / 12) n, A4 (c / 48) n]
def Uw (s : Q.b) (q : Int) (m n k : Nat) : L3.D := Uv n m (az s (q + 1 + (k : Int)))
def GN (s : Q.b) (q : Int) (m n : Nat) : List L3.D := (List.range (az s q % 3).toNat).map (Uw s q m n)
theorem LZ (n m : Nat) (c : Int) : (Uv n m c).pM = true := by
 unfold Uv
 split <;> rfl
theorem xG (s : Q.b) (q : Int) (m n : Nat) : D.bQ (GN s q m n) = true := iB (fun k => LZ _ _ _) _
abbrev Ip : Stmt := top 64
abbrev Iq : Type := List Int × Int × Nat × Nat
def yL : Iq -> List L3.D := fun (s, q, m, n) => [.lst (s.map .int), .int q, .int m, .int n]
def tY : Iq -> Prop := fun (s, q, m, n) => s.length <= 1000 /\ 0 <= q /\ q <= 90000 /\ n <= 1000 /\ 1 <= m
def yM : Iq -> T := fun (s, q, m, n) => (.sh (.tup (GN s q m n)) : T)
structure agO (X : Cx) (CL : Q.e) : Prop extends bP X where
 aF : Ln X 0 "script"
 fL : Ln X 1 "at"
 gZ : Ln X 2 "many"
 bU : Ln X 3 "boxes"
 rP : Ln X 4 "asks"
 k7 : Ln X 5 "k"
 b5 : Ln X 6 "cell"
 XF : Ln X 7 "mark"
 b6 : Gl X "range"
 aV : Gl X "_law_cell"
 lM : Gl X "_law_term"
 oN : Gl X "tuple"
 b7 : X.mg "range" = none
 c5 : Fc X CL "_law_cell" 1 2 gO bE fZ
 DM : Fc X CL "_law_term" 2 2 tV tW tX
 oO : X.mg "tuple" = none
theorem agP (E : agO X CL) {aW : Iq} (h : tY aW) :
   ay X CL b Ip ["script", "at", "many", "boxes", "asks", "k", "cell", "mark"] (yL aW) (yM aW) := by
 obtain ⟨s, q, m, n⟩ := aW
 dsimp only [ay, tY, yL, yM] at h ⊢
 obtain ⟨hs, q0, q1, hn, hm⟩ := h
 refine aG E.g E.rP Q.al ?_
 have c0 := asd (az s q) (show (3 : Int) ≠ 0 by decide)
 have c1 := ar3 (az s q) (show (0 : Int) < 3 by decide)
 refine eO E.g E.k7 (fun j δ => ∃ o5 o6 o7, δ = [some Q.ah, some (.sh (.int q)), some (.sh (.int m)), some (.sh (.int n)), some (.lst (((List.range j).map (Uw s q m n)).map T.sh)), o5, o6, o7])
   (d9 E.b7 Q.co ((show -(2 ^ 62) <= az s q % 3 /\ az s q % 3 < 2 ^ 62 by omega)) E.b6) ⟨_, _, _, rfl⟩ (fun j δ ⟨_, _, _, e⟩ => by subst e; exact Nat.le_of_ble_eq_true rfl) ?turn ?fin
 case turn =>
   rintro j d δ hj ⟨o5, o6, o7, rfl⟩
   obtain ⟨rfl, qR⟩ := gK hj
   have hj3 : j < 3 := by have qR : j < (az s q % 3).toNat := qR; omega
   rw [as3]
   have d0 := qz s (k := q + 1 + (j : Int)) Q.a
   refine aG E.g E.b5 Q.cn ?_
   have eK : ∀ x : L3.D, x = Uw s q m n j -> ((List.range j).map (Uw s q m n)).map T.sh ++ [T.sh x] = ((List.range Q.l).map (Uw s q m n)).map T.sh := fun x e => by
     subst e
     simp [atg]
   have hd : Uw s q m n j = Uv n m (az s (q + 1 + (j : Int))) := rfl
   generalize az s (q + 1 + (j : Int)) = c at d0 hd ⊢
   refine cT (eU Q.bs Q.c).1 (fun hp => ?_) (fun hp => ?_)
   . refine iA E.rP.1 rfl (fS (aJ (cj (bz (ck (gu (aJ aX (aJ aX dh)) Q.r)) Q.bD (dP (f := L3.D.str) (l := ["open", "shut"]) Str.empty (asd _ Q.i) (ar3 _ Q.i))) rfl) (aJ (bW Q.az (aA E.gZ) Q.a) dh)) Q.r) rfl Q.z (au (au ?_))
     rw [eK _ (by rw [hd]; unfold Uv; rw [arU (ar0 hp)])]
     exact ⟨_, _, _, rfl⟩
   . have hp := asq hp
     refine aG E.g E.XF (cj (bz (ck (gu (aJ aX (aJ aX (aJ aX (aJ aX dh)))) Q.r)) Q.bD (dP (f := L3.D.str) (l := ["<", "<=", "=", "!="]) Str.empty (asd _ Q.i) (ar3 _ Q.i))) rfl) ?_
     refine iA E.rP.1 rfl (fS (aJ (v_ E.XF.1) (aJ (aP (c_ ((c / 12, n)) E.DM E.lM (ai Q.az Q.aE) (hn) rfl) (t2 := .sh (A4 (c / 12) n)) rfl) (aJ (aP (c_ ((c / 48, n)) E.DM E.lM (ai Q.az Q.aE) (hn) rfl) (t2 := .sh (A4 (c / 48) n)) rfl) dh))) Q.r) rfl Q.z (au (au ?_))
     rw [eK _ (by rw [hd]; unfold Uv; rw [arS hp])]
     exact ⟨_, _, _, rfl⟩
 case fin =>
   rintro δ ⟨o5, o6, o7, rfl⟩
   refine aY (Ge E.oO (vL E.rP.1) (iB (fun k => LZ _ _ _) _) E.oN) ?_
   have e : (bV 0 (az s q % 3).toNat).length = (az s q % 3).toNat := by simp [bV]
   rw [show (bV 0 (az (s, q).1 (s, q).2 % 3).toNat).length = (az s q % 3).toNat from e]
   rfl
theorem jw : jf (ak Ip) ([("script", ao), ("at", ao), ("many", ao), ("boxes", ao), ("asks", ao), ("k", ao), ("cell", ao), ("mark", ao), ("range", av), ("_law_cell", av), ("_law_term", av), ("tuple", av)]) = true := Q.j
theorem ab9 : aH ["script", "at", "many", "boxes", "asks", "k", "cell", "mark"] ["script", "at", "many", "boxes"] (ak Ip) := aM
def yN (s : Q.b) (n : Nat) (c : Int) : L3.D :=
 if c % 4 = 1 then .tup [.str "call", .str (nmE s (c / 4 % 4))]
 else if c % 4 = 2 \/ n = 0 then .tup [.str "say", .str (nmE s (c / 4 % 4)), A4 (c / 16) n]
 else .tup [.str "put", .int (c / 4 % (n : Int)), A4 (c / 16) n]
def GO (s : Q.b) (q : Int) (n k : Nat) : L3.D := yN s n (az s (q + 1 + (k : Int)))
def gE (s : Q.b) (q : Int) (n : Nat) : List L3.D := (List.range (az s q % 3).toNat).map (GO s q n)
theorem GP (s : Q.b) (n : Nat) (c : Int) : (yN s n c).pM = true := by
 unfold yN
 split
 . rfl
 . split <;> rfl
theorem jO (s : Q.b) (q : Int) (n : Nat) : D.bQ (gE s q n) = true := iB (fun k => GP _ _ _) _
theorem DN (s : Q.b) (q : Int) (n : Nat) : (gE s q n).length <= 2 := by
 have c1 := ar3 (az s q) (show (0 : Int) < 3 by decide)
 unfold gE
 rw [arL, atB]
 omega
abbrev Ca : Stmt := top 63
abbrev Cb : Type := List Int × Int × Nat
def qC : Cb -> List L3.D := fun (s, q, n) => [.lst (s.map .int), .int q, .int n]
def jP : Cb -> Prop := fun (s, q, n) => s.length <= 1000 /\ 0 <= q /\ q <= 90000 /\ n <= 1000
def qD : Cb -> T := fun (s, q, n) => (.sh (.tup (gE s q n)) : T)
structure acd (X : Cx) (CL : Q.e) : Prop extends bP X where
 aF : Ln X 0 "script"
 fL : Ln X 1 "at"
 bU : Ln X 2 "boxes"
 iS : Ln X 3 "deeds"
 k7 : Ln X 4 "k"
 b5 : Ln X 5 "cell"
 tZ : Ln X 6 "name"
 b6 : Gl X "range"
 aV : Gl X "_law_cell"
 t6 : Gl X "_law_name"
 lM : Gl X "_law_term"
 oN : Gl X "tuple"
 b7 : X.mg "range" = none
 c5 : Fc X CL "_law_cell" 1 2 gO bE fZ
 Pg : Fc X CL "_law_name" 2 2 tT nT tU
 DM : Fc X CL "_law_term" 2 2 tV tW tX
 oO : X.mg "tuple" = none
theorem ace (E : acd X CL) {aW : Cb} (h : jP aW) :
   ay X CL b Ca ["script", "at", "boxes", "deeds", "k", "cell", "name"] (qC aW) (qD aW) := by
 obtain ⟨s, q, n⟩ := aW
 dsimp only [ay, jP, qC, qD] at h ⊢
 obtain ⟨hs, q0, q1, hn⟩ := h
 refine aG E.g E.iS Q.al ?_
 have c0 := asd (az s q) (show (3 : Int) ≠ 0 by decide)
 have c1 := ar3 (az s q) (show (0 : Int) < 3 by decide)
 refine eO E.g E.k7 (fun j δ => ∃ o4 o5 o6, δ = [some Q.ah, some (.sh (.int q)), some (.sh (.int n)), some (.lst (((List.range j).map (GO s q n)).map T.sh)), o4, o5, o6])
   (d9 E.b7 Q.co ((show -(2 ^ 62) <= az s q % 3 /\ az s q % 3 < 2 ^ 62 by omega)) E.b6) ⟨_, _, _, rfl⟩ (fun j δ ⟨_, _, _, e⟩ => by subst e; exact Nat.le_of_ble_eq_true rfl) ?turn ?fin
 case turn =>
   rintro j d δ hj ⟨o4, o5, o6, rfl⟩
   obtain ⟨rfl, qR⟩ := gK hj
   have hj3 : j < 3 := by have qR : j < (az s q % 3).toNat := qR; omega
   rw [as3]
   have d0 := qz s (k := q + 1 + (j : Int)) Q.a
   refine aG E.g E.b5 Q.cn ?_
   have eK : ∀ x : L3.D, x = GO s q n j -> ((List.range j).map (GO s q n)).map T.sh ++ [T.sh x] = ((List.range Q.l).map (GO s q n)).map T.sh := fun x e => by
     subst e
     simp [atg]
   have hd : GO s q n j = yN s n (az s (q + 1 + (j : Int))) := rfl
   generalize az s (q + 1 + (j : Int)) = c at d0 hd ⊢
   have m0 := asd (c / 4) (show (4 : Int) ≠ 0 by decide)
   have m1 := ar3 (c / 4) (show (0 : Int) < 4 by decide)
   refine aG E.g E.tZ (aP (c_ ((s, c / 4 % 4)) E.Pg E.t6 (ai Q.H (ai Q.bD aB)) (by dsimp only [nT]; exact (⟨hs, m0, by omega⟩)) rfl) (t2 := .sh (.str (nmE s (c / 4 % 4)))) rfl) ?_
   refine cT (eU Q.bs Q.c).1 (fun hp => ?_) (fun hp => ?_)
   . refine iA E.iS.1 rfl (fS (aJ aX (aJ (v_ E.tZ.1) dh)) Q.r) rfl Q.z (au (au ?_))
     rw [eK _ (by rw [hd]; unfold yN; rw [arU (ar0 hp)])]
     exact ⟨_, _, _, rfl⟩
   . have hp := asq hp
     refine cT (pO (tF (eU Q.bs Q.c).1 (fun hb => (pP (eU (aA E.bU) Q.c).1)))) (fun hq => ?_) (fun hq => ?_)
     . have Vd : c % 4 = 2 \/ n = 0 := by
         simp only [aua, asI] at hq
         omega
       refine iA E.iS.1 rfl (fS (aJ aX (aJ (v_ E.tZ.1) (aJ (aP (c_ ((c / 16, n)) E.DM E.lM (ai Q.az Q.aE) (hn) rfl) (t2 := .sh (A4 (c / 16) n)) rfl) dh))) Q.r) rfl Q.z (au (au (au ?_)))
       rw [eK _ (by rw [hd]; unfold yN; rw [arS hp, arU Vd])]
       exact ⟨_, _, _, rfl⟩
     . have Vd : ¬ (c % 4 = 2 \/ n = 0) := by
         simp only [atF, asM] at hq
         omega
       refine iA E.iS.1 rfl (fS (aJ aX (aJ (bW Q.az (aA E.bU) Q.a) (aJ (aP (c_ ((c / 16, n)) E.DM E.lM (ai Q.az Q.aE) (hn) rfl) (t2 := .sh (A4 (c / 16) n)) rfl) dh))) Q.r) rfl Q.z (au (au (au ?_)))
       rw [eK _ (by rw [hd]; unfold yN; rw [arS hp, arS Vd])]
       exact ⟨_, _, _, rfl⟩
 case fin =>
   rintro δ ⟨o4, o5, o6, rfl⟩
   refine aY (Ge E.oO (vL E.iS.1) (iB (fun k => GP _ _ _) _) E.oN) ?_
   have e : (bV 0 (az s q % 3).toNat).length = (az s q % 3).toNat := by simp [bV]
   rw [show (bV 0 (az (s, q).1 (s, q).2 % 3).toNat).length = (az s q % 3).toNat from e]
   rfl
theorem gP : jf (ak Ca) ([("script", ao), ("at", ao), ("boxes", ao), ("deeds", ao), ("k", ao), ("cell", ao), ("name", ao), ("range", av), ("_law_cell", av), ("_law_name", av), ("_law_term", av), ("tuple", av)]) = true := Q.j
theorem XG : aH ["script", "at", "boxes", "deeds", "k", "cell", "name"] ["script", "at", "boxes"] (ak Ca) := aM
def DP (s : Q.b) : Int := az s 36 % 9
def lN (s : Q.b) (m : Nat) : List Int := sortI ((List.range (DP s).toNat).map fun (k : Nat) => az s (37 + (k : Int)) % (m : Int))
def DQ (es : Q.b) (src c : Int) : Int := if 1 < c % 4 then (gf es Q.ao).getD (c / 4 % ((gf es Q.ao).length : Nat)).toNat 0 else c / 4 % (es.length : Nat)
def E3 (s : Q.b) (c : Int) : Prop := c % 4 = 1 \/ az s 36 / 9 % 5 = 1
instance (s : Q.b) (c : Int) : Decidable (E3 s c) := by unfold E3; infer_instance
def GQ (c : Int) : Str := (["new", "near", "far"] : List Str).getD (c % 3).toNat Str.empty
def E4 (s es : Q.b) (n k : Nat) (src : Int) : cU where
 src := src
 sign := nmE s (az s (200 + 12 * (k : Int)) % (1 + az s 62 % 3))
 asks := GN s (200 + 12 * (k : Int) + 1) es.length n
 jM := gE s (200 + 12 * (k : Int) + 4) n
 tgt := if E3 s (az s Q.bp) then -1 else DQ es src (az s Q.bp)
 mode := if E3 s (az s Q.bp) then "new" else GQ (az s (200 + 12 * (k : Int) + 8))
def yO (s es : Q.b) (n : Nat) : List cU := (List.range (lN s es.length).length).map fun k => E4 s es n k ((lN s es.length).getD k 0)
theorem GR {s : Q.b} {m : Nat} (hm : 1 <= m) (h : x ∈ lN s m) : 0 <= x /\ x < m := by
 obtain ⟨k, _, rfl⟩ := ase.mp (iP.mp h)
 exact ⟨asd _ Q.a, ar3 _ Q.a⟩
theorem GU (s : Q.b) (m : Nat) : (lN s m).length <= 8 := by
 unfold lN
 rw [jJ, arL, atB]
 have := ar3 (az s 36) (show (0 : Int) < 9 by decide)
 unfold DP
 omega
theorem XH (s es : Q.b) (n k : Nat) (src : Int) : (cR (E4 s es n k src)).pM = true := by
 show (true && (true && (D.bQ (GN _ _ _ _) && (D.bQ (gE _ _ _) && (true && (true && true)))))) = true
 rw [xG, jO]
 rfl
theorem Ph (s es : Q.b) (n : Nat) : D.bQ ((yO s es n).map cR) = true := mJ fun d hd => by
 obtain ⟨w, hw, rfl⟩ := ase.mp hd
 obtain ⟨k, _, rfl⟩ := ase.mp hw
 exact XH _ _ _ _ _
abbrev Ir : Stmt := top 65
abbrev Iu : Type := List Int × List Int × Nat
def yP : Iu -> List L3.D := fun (s, es, n) => [.lst (s.map .int), .lst Q.P, .int n]
def t7 : Iu -> Prop := fun (s, es, n) => s.length <= 1000 /\ 1 <= es.length /\ es.length <= 900 /\ n <= 1000
def yQ : Iu -> T := fun (s, es, n) => (.lst (((yO s es n).map cR).map T.sh) : T)
structure agQ (X : Cx) (CL : Q.e) : Prop extends bP X where
 aF : Ln X 0 "script"
 t8 : X.env.kindOf "script" = some .cell
 bB : Ln X 1 "elders"
 bU : Ln X 2 "boxes"
 gZ : Ln X 3 "many"
 agR : X.env.kindOf "many" = some .cell
 jx : Ln X 4 "count"
 rQ : Ln X 5 "names"
 kJ : Ln X 6 "ways"
 DR : Ln X 7 "source"
 fL : Ln X 8 "at"
 tZ : Ln X 9 "name"
 rP : Ln X 10 "asks"
 iS : Ln X 11 "deeds"
 b5 : Ln X 12 "cell"
 nX : Ln X 13 "target"
 iE : Ln X 14 "near"
 pV : Ln X 15 "mode"
 c7 : Gl X "len"
 aV : Gl X "_law_cell"
 f9 : Gl X "sorted"
 b6 : Gl X "range"
 t6 : Gl X "_law_name"
 L0 : Gl X "_law_asks"
 Iv : Gl X "_law_deeds"
 j0 : Gl X "_law_inner"
 c9 : X.mg "len" = none
 c5 : Fc X CL "_law_cell" 1 2 gO bE fZ
 gb : X.mg "sorted" = none
 b7 : X.mg "range" = none
 Pg : Fc X CL "_law_name" 2 2 tT nT tU
 agS : Fc X CL "_law_asks" 3 4 yL tY yM
 Cd : Fc X CL "_law_deeds" 3 3 qC jP qD
 nS : Fc X CL "_law_inner" 1 2 iR eW gD
theorem agT (E : agQ X CL) {aW : Iu} (h : t7 aW) :
   ay X CL b Ir ["script", "elders", "boxes", "many", "count", "names", "ways", "source", "at", "name", "asks", "deeds", "cell", "target", "near", "mode"] (yP aW) (yQ aW) := by
 obtain ⟨s, es, n⟩ := aW
 dsimp only [ay, t7, yP, yQ] at h ⊢
 obtain ⟨hs, e0, e1, hn⟩ := h
 refine aG E.g E.gZ (aP (dY (arL ..) E.c9 (aA E.bB) E.c7) (t2 := .sh (.int (es.length : Nat))) rfl) ?_
 refine aG E.g E.jx (aP (bW (ah (c_ ((s, 36)) E.c5 E.aV Q.br Q.an rfl)) Q.c Q.i) (t2 := .sh (.int (DP s))) rfl) ?_
 have c62 := qz s (k := 62) Q.a
 refine aG E.g E.rQ (aP (dM Q.c (ah (bW (ah (c_ ((s, 62)) E.c5 E.aV Q.br Q.an rfl)) Q.c Q.i))) (t2 := .sh (.int (1 + az s 62 % 3))) rfl) ?_
 have n0 := asd (az s 62) (show (3 : Int) ≠ 0 by decide)
 have n1 := ar3 (az s 62) (show (0 : Int) < 3 by decide)
 have k0 : 0 <= DP s := asd (az s 36) (show (9 : Int) ≠ 0 by decide)
 have k1 : DP s < 9 := ar3 (az s 36) (show (0 : Int) < 9 by decide)
 have hsl := GU s es.length
 have hsm : ∀ {x : Int}, x ∈ lN s es.length -> 0 <= x /\ x < es.length := fun h => GR e0 h
 refine aG E.g E.kJ Q.al ?_
 have hit : (((bV 0 (DP s).toNat).filter fun _ => true).map fun d => T.sh (.int (az s (37 + d.AV) % (es.length : Nat)))) = ((((List.range (DP s).toNat).map fun (k : Nat) => az s (37 + (k : Int)) % (es.length : Nat)).map L3.D.int).map T.sh) := by
   rw [iz]
   unfold bV
   rw [asn, asn, asn]
   refine ate fun k _ => ?_
   show T.sh (.int (az s (37 + (0 + (k : Int))) % _)) = _
   rw [as3]
   rfl
 refine eO E.g E.DR (fun j δ => ∃ o7 o8 o9 o10 o11 o12 o13 o14 o15, δ = [some Q.ah, some (.sh (.lst Q.P)), some (.sh (.int n)), some (.sh (.int (es.length : Nat))), some (.sh (.int (DP s))), some (.sh (.int (1 + az s 62 % 3))), some Q.bY, o7, o8, o9, o10, o11, o12, o13, o14, o15])
   (dN (iO (ds := (lN s es.length).map .int) (kH E.gb (ck (aP (mK (p := fun _ => true) (g := fun d => T.sh (.int (az s (37 + d.AV) % (es.length : Nat)))) (cL (.cons E.gZ.1 (.inl E.agR) (.cons E.aF.1 (.inl E.t8) .nil)) Q.d) E.g.calm (d9 E.b7 (aA E.jx) (Q.a) E.b6) (.inr rfl) (fun C s0 H0 f0 b' d hd => ?Br) Q.bk) (congrArg T.lst hit))) Q.z E.f9))) ⟨_, _, _, _, _, _, _, _, _, rfl⟩ (fun j δ ⟨_, _, _, _, _, _, _, _, _, e⟩ => by subst e; exact arN rfl) ?turn ?fin
 case Br =>
   obtain ⟨i, hi, rfl⟩ := ase.mp hd
   have NR : i < (DP s).toNat := by simpa using hi
   exact ⟨rfl, fun _ => (bW (ah (c_ ((s, 37 + Q.av)) (oE E.c5) (jS Q.d) (ai Q.bN (ai (ah (dM Q.c Q.aF)) aB)) Q.an rfl)) Q.aO Q.a)⟩
 case turn =>
   rintro j d δ hj ⟨o7, o8, o9, o10, o11, o12, o13, o14, o15, rfl⟩
   obtain ⟨src, rfl, NV, Ab, qR, _, _⟩ := iC hj
   obtain ⟨x0, x1⟩ := hsm Ab
   have ans : (lN s es.length).getD j 0 = src := by rw [arM, NV]; rfl
   have aks : ((((List.range j).map fun k => E4 s es n k ((lN s es.length).getD k 0)).map cR)).length = j := by simp
   have eK : ∀ x : L3.D, x = cR (E4 s es n j src) -> ((((List.range j).map fun k => E4 s es n k ((lN s es.length).getD k 0)).map cR).map T.sh) ++ [T.sh x] = ((((List.range Q.l).map fun k => E4 s es n k ((lN s es.length).getD k 0)).map cR).map T.sh) := fun x e => by
     subst e
     rw [← ans]
     simp [atg]
   refine aG E.g E.fL (aP (dM Q.c (ah (C3 Q.c (ah (dY (aks) E.c9 (vL E.kJ.1) E.c7)) (.inl ⟨by decide, by decide⟩)))) (t2 := .sh (.int (200 + 12 * (j : Int)))) rfl) ?_
   generalize hw : E4 s es n j src = w at eK
   have hsg : nmE s (az s (200 + 12 * (j : Int)) % (1 + az s 62 % 3)) = w.sign := by rw [← hw]; rfl
   have m0 := asd (az s (200 + 12 * (j : Int))) (show (1 + az s 62 % 3 : Int) ≠ 0 by omega)
   have m1 := ar3 (az s (200 + 12 * (j : Int))) (show (0 : Int) < 1 + az s 62 % 3 by omega)
   refine aG E.g E.tZ (aP (c_ ((s, az s (200 + 12 * (j : Int)) % (1 + az s 62 % 3))) E.Pg E.t6 (ai Q.H (ai (ah (bW (ah (c_ ((s, 200 + 12 * (j : Int))) E.c5 E.aV (ai Q.H (ai (aA E.fL) aB)) Q.an rfl)) (aA E.rQ) Q.a)) aB)) (by dsimp only [nT]; exact (⟨hs, m0, by omega⟩)) rfl) (t2 := .sh (.str w.sign)) (congrArg (fun z => T.sh (.str z)) hsg)) ?_
   have has : GN s (200 + 12 * (j : Int) + 1) es.length n = w.asks := by rw [← hw]; rfl
   have hde : gE s (200 + 12 * (j : Int) + 4) n = w.jM := by rw [← hw]; rfl
   refine aG E.g E.rP (aP (c_ (s, 200 + 12 * (j : Int) + 1, es.length, n) E.agS E.L0 (ai Q.H (ai (ah (dM (aA E.fL) Q.c)) (ai (aA E.gZ) Q.aE))) (by dsimp only [tY]; exact ⟨hs, by omega, by omega, hn, e0⟩) (show T.clean (.sh (.tup (GN _ _ _ _))) = true from (xG _ _ _ _))) (t2 := .sh (.tup w.asks)) (congrArg (fun z => T.sh (.tup z)) has)) ?_
   refine aG E.g E.iS (aP (c_ (s, 200 + 12 * (j : Int) + 4, n) E.Cd E.Iv (ai Q.H (ai (ah (dM (aA E.fL) Q.c)) Q.aE)) (by dsimp only [jP]; exact ⟨hs, by omega, by omega, hn⟩) (show T.clean (.sh (.tup (gE _ _ _))) = true from (jO _ _ _))) (t2 := .sh (.tup w.jM)) (congrArg (fun z => T.sh (.tup z)) hde)) ?_
   have d0 := qz s (k := 200 + 12 * (j : Int) + 7) Q.a
   refine aG E.g E.b5 (aP (c_ ((s, 200 + 12 * (j : Int) + 7)) E.c5 E.aV (ai Q.H (ai (ah (dM (aA E.fL) Q.c)) aB)) Q.an rfl) (t2 := .sh (.int (az s (200 + 12 * (j : Int) + 7)))) rfl) ?_
   have htg : w.tgt = if E3 s (az s (200 + 12 * (j : Int) + 7)) then -1 else DQ es src (az s (200 + 12 * (j : Int) + 7)) := by rw [← hw]; rfl
   have hmd : w.mode = if E3 s (az s (200 + 12 * (j : Int) + 7)) then ("new" : Str) else GQ (az s (200 + 12 * (j : Int) + 8)) := by rw [← hw]; rfl
   have hsr : w.src = src := by rw [← hw]; rfl
   generalize az s (200 + 12 * (j : Int) + 7) = c at d0 htg hmd ⊢
   refine aG E.g E.nX (bW Q.az (aA E.gZ) Q.a) ?_
   refine C6 (fun δ => ∃ o14, δ = [some Q.ah, some (.sh (.lst Q.P)), some (.sh (.int n)), some (.sh (.int (es.length : Nat))), some (.sh (.int (DP s))), some (.sh (.int (1 + az s 62 % 3))), some Q.bY, some (.sh (.int src)), some (.sh (.int (200 + 12 * (j : Int)))), some (.sh (.str w.sign)), some (.sh (.tup w.asks)), some (.sh (.tup w.jM)), some (.sh (.int c)), some (.sh (.int (DQ es src c))), o14, o15]) (Ga Q.bs Q.c).1 (fun hp => ?_) (fun hp => ?_) ?_
   . have hp := ar0 hp
     have qm : 0 < (gf es Q.ao).length := List.length_pos_of_mem (rg x0 x1 rfl)
     refine aG E.g E.iE (aP (c_ ((es, es.getD src.toNat 0)) E.nS E.j0 (ai (aA E.bB) (ai (bz (aA E.bB) (aA E.DR) (cY x0 x1)) aB)) ((by dsimp only [eW]; omega)) (aU _)) (t2 := T.lst (((gf es Q.ao).map .int).map T.sh)) rfl) ?_
     have Bo : ((gf es Q.ao).map L3.D.int).length = (gf es Q.ao).length := by simp
     have c1 := asd (c / 4) (b := ((gf es Q.ao).length : Nat)) Q.a
     have c2 := ar3 (c / 4) (b := ((gf es Q.ao).length : Nat)) Q.a
     refine aG E.g E.nX (aP (cj (bz (vL E.iE.1) (ah (bW Q.az (ah (dY (Bo) E.c9 (vL E.iE.1) E.c7)) Q.a)) (cY c1 c2)) rfl) (t2 := .sh (.int (DQ es src c))) (by unfold DQ; rw [arU hp])) (au ⟨_, rfl⟩)
   . have hp := asq hp
     refine au ⟨o14, ?_⟩
     rw [show DQ es src c = c / 4 % (es.length : Nat) by unfold DQ; rw [arS hp]]
     rfl
   rintro δ ⟨o14, rfl⟩
   refine aG E.g E.pV (aP (cj (bz (ck (gu (aJ aX (aJ aX (aJ aX dh))) Q.r)) (ah (bW (ah (c_ ((s, 200 + 12 * (j : Int) + 8)) E.c5 E.aV (ai Q.H (ai (ah (dM (aA E.fL) Q.c)) aB)) Q.an rfl)) Q.c Q.i)) (dP (f := L3.D.str) (l := ["new", "near", "far"]) Str.empty (Int.emod_nonneg _ Q.i) (Int.emod_lt_of_pos _ Q.i))) rfl) (t2 := .sh (.str (GQ (az s (200 + 12 * (j : Int) + 8))))) rfl) ?_
   refine C6 (fun δ => δ = [some Q.ah, some (.sh (.lst Q.P)), some (.sh (.int n)), some (.sh (.int (es.length : Nat))), some (.sh (.int (DP s))), some (.sh (.int (1 + az s 62 % 3))), some Q.bY, some (.sh (.int src)), some (.sh (.int (200 + 12 * (j : Int)))), some (.sh (.str w.sign)), some (.sh (.tup w.asks)), some (.sh (.tup w.jM)), some (.sh (.int c)), some (.sh (.int w.tgt)), o14, some (.sh (.str w.mode))]) (pO (tF (eU Q.bs Q.c).1 (fun hb => (pP (eU (ah (bW (ah (cW (ah (c_ ((s, 36)) E.c5 E.aV Q.br Q.an rfl)) Q.c ⟨by decide, by decide⟩)) Q.c Q.i)) Q.c).1)))) (fun hp => ?_) (fun hp => ?_) ?_
   . have hp : E3 s c := by
       unfold E3
       have hp : (decide (c % 4 = 1) || decide (az s 36 / 9 % 5 = 1)) = true := hp
       simpa using hp
     rw [arU hp] at htg hmd
     rw [htg, hmd]
     exact aG E.g E.nX (fW Q.c) (aG E.g E.pV aX (au rfl))
   . have hp : ¬ E3 s c := by
       unfold E3
       have hp : (decide (c % 4 = 1) || decide (az s 36 / 9 % 5 = 1)) = false := hp
       simpa using hp
     rw [arS hp] at htg hmd
     rw [htg, hmd]
     exact au rfl
   rintro δ rfl
   refine iA E.kJ.1 rfl (fS (aJ (v_ E.DR.1) (aJ (v_ E.tZ.1) (aJ (v_ E.rP.1) (aJ (v_ E.iS.1) (aJ (v_ E.nX.1) (aJ (v_ E.pV.1) dh)))))) Q.r) rfl (by rw [arL, aks]; omega) (au ?_)
   rw [eK _ (by unfold cR; rw [hsr])]
   exact ⟨_, _, _, _, _, _, _, _, _, rfl⟩
 case fin =>
   rintro δ ⟨o7, o8, o9, o10, o11, o12, o13, o14, o15, rfl⟩
   rw [arL]
   exact aY (vM E.kJ.1) rfl
theorem cM : jf (ak Ir) ([("script", .cell), ("elders", ao), ("boxes", ao), ("many", .cell), ("count", ao), ("names", ao), ("ways", ao), ("source", ao), ("at", ao), ("name", ao), ("asks", ao), ("deeds", ao), ("cell", ao), ("target", ao), ("near", ao), ("mode", ao), ("len", av), ("_law_cell", av), ("sorted", av), ("range", av), ("_law_name", av), ("_law_asks", av), ("_law_deeds", av), ("_law_inner", av)]) = true := Q.j
theorem acf : aH ["script", "elders", "boxes", "many", "count", "names", "ways", "source", "at", "name", "asks", "deeds", "cell", "target", "near", "mode"] ["script", "elders", "boxes"] (ak Ir) := aM
def bxE (s : Q.b) (k : Nat) : Str × Int := (("b" : Str) ++ sI (k : Int), E1 (az s (33 + (k : Int))))
def Iw (s : Q.b) : List (Str × Int) := (List.range (az s 32 % 4).toNat).map (bxE s)
def t9 (s : Q.b) : Nat := (az s 32 % 4).toNat
def Pj (s : Q.b) (q : Int) (n : Nat) : List L3.D := (List.range n).map fun (k : Nat) => .tup (gE s (q + 6 * (k : Int)) (t9 s))
def fP (s : Q.b) (most : Nat) : Nat := (if 0 < mL s then max (1 + az s 0 % (most : Int)) ((most : Int) - 1) else 1 + az s 0 % (most : Int)).toNat
theorem R0 (s : Q.b) {most : Nat} (h : 1 <= most) : 1 <= fP s most /\ fP s most <= most /\ ((fP s most : Nat) : Int) = if 0 < mL s then max (1 + az s 0 % (most : Int)) ((most : Int) - 1) else 1 + az s 0 % (most : Int) := by
 have a := asd (az s 0) (b := (most : Int)) Q.a
 have b := ar3 (az s 0) (b := (most : Int)) Q.a
 unfold fP
 split <;> omega
def gF (bs : Q.k) (es : Q.b) (ks : Q.h) (ss : Q.b) (is os ws : Q.k) : L3.D := .tup [.lst bs, .lst Q.P, .lst (ks.map .str), .lst (ss.map .int), .lst is, .lst os, .lst ws]
theorem Ux (s : Q.b) : D.bQ ((Iw s).map EV) = true := iB (fun _ => rfl) _
theorem XI (s : Q.b) : (Iw s).length <= 3 := by
 have := ar3 (az s 32) (show (0 : Int) < 4 by decide)
 unfold Iw
 rw [arL, atB]
 omega
abbrev Ce : Stmt := top 66
abbrev Cg : Type := List Int × Nat
def ve : Cg -> List L3.D := fun (s, most) => [.lst (s.map .int), .int most]
def vf : Cg -> Prop := fun (s, most) => s.length <= 1000 /\ 1 <= most /\ most <= 30
def vg : Cg -> T := fun (s, most) => (.sh (gF ((Iw s).map EV) (rH s (fP s most)) (zY s (rH s (fP s most)) (fP s most)) (NZ s (rH s (fP s most)) (zY s (rH s (fP s most)) (fP s most)) 16 (fP s most)) (Pj s 100 (fP s most)) (Pj s 103 (fP s most)) ((yO s (rH s (fP s most)) (t9 s)).map cR)) : T)
structure ach (X : Cx) (CL : Q.e) : Prop extends bP X where
 aF : Ln X 0 "script"
 t8 : X.env.kindOf "script" = some .cell
 Iz : Ln X 1 "most"
 gZ : Ln X 2 "many"
 bB : Ln X 3 "elders"
 gC : Ln X 4 "kinds"
 yR : Ln X 5 "starts"
 jx : Ln X 6 "count"
 R1 : X.env.kindOf "count" = some .cell
 bU : Ln X 7 "boxes"
 R3 : Ln X 8 "ins"
 IA : Ln X 9 "outs"
 aV : Gl X "_law_cell"
 aku : Gl X "max"
 E5 : Gl X "_law_elders"
 IB : Gl X "_law_kinds"
 E6 : Gl X "_law_chosen"
 b6 : Gl X "range"
 L4 : Gl X "_law_ways"
 c5 : Fc X CL "_law_cell" 1 2 gO bE fZ
 akv : X.mg "max" = none
 XJ : Fc X CL "_law_elders" 2 2 rJ nP rK
 aci : Fc X CL "_law_kinds" 2 2 u9 qA vd
 XM : Fc X CL "_law_chosen" 2 4 rN nR rO
 b7 : X.mg "range" = none
 agU : Fc X CL "_law_ways" 4 3 yP t7 yQ
 qB : X.mg "str" = none
 DL : Fc X CL "_law_number" 1 1 nU nV nW
 Cd : Fc X CL "_law_deeds" 3 3 qC jP qD
theorem acj (E : ach X CL) {aW : Cg} (h : vf aW) :
   ay X CL b Ce ["script", "most", "many", "elders", "kinds", "starts", "count", "boxes", "ins", "outs"] (ve aW) (vg aW) := by
 obtain ⟨s, most⟩ := aW
 dsimp only [ay, vf, ve, vg] at h ⊢
 obtain ⟨hs, m1, m2⟩ := h
 obtain ⟨n1, n2, n3⟩ := R0 s m1
 refine aG E.g E.gZ (dM Q.c (ah (bW (ah (c_ ((s, 0)) E.c5 E.aV Q.br Q.an rfl)) (aA E.Iz) Q.a))) ?_
 refine C6 (fun δ => δ = [some Q.ah, some (.sh (.int most)), some (.sh (.int (fP s most : Nat))), none, none, none, none, none, none, none]) (Ga (ah Q.ce) Q.c).1 (fun hp => ?_) (fun hp => ?_) ?_
 . have hp : 0 < mL s := ar0 hp
   rw [arU hp] at n3
   refine aG E.g E.gZ (aP (abd E.g E.akv E.aku (ai (aA E.gZ) (ai (ah (tD (aA E.Iz) Q.c)) aB))) (t2 := .sh (.int (fP s most : Nat))) ?_) (au rfl)
   rw [n3]
   show T.sh (.int (if (most : Int) - 1 > 1 + az s 0 % (most : Int) then (most : Int) - 1 else 1 + az s 0 % (most : Int))) = _
   congr 2
   split <;> omega
 . have hp : ¬ 0 < mL s := asq hp
   rw [arS hp] at n3
   refine au ?_
   rw [n3]
   rfl
 rintro δ rfl
 obtain ⟨EG, Bm⟩ := RW s n1 Q.a
 generalize fP s most = n at n1 n2 n3 EG Bm ⊢
 refine aG E.g E.bB (aP (c_ ((s, n)) E.XJ E.E5 (ai Q.H (ai (aA E.gZ) aB)) (by dsimp only [nP]; exact (⟨n1, by omega, hs⟩)) (aU _)) (t2 := T.lst (((rH s n).map .int).map T.sh)) rfl) ?_
 generalize rH s n = es at EG Bm ⊢
 refine aG E.g E.gC (aP (c_ ((s, es)) E.aci E.IB (ai Q.H (ai (vL E.bB.1) aB)) (by dsimp only [qA]; exact (⟨by omega, hs⟩)) (Dh _)) (t2 := T.lst (((zY s es n).map .str).map T.sh)) (by rw [← EG]; rfl)) ?_
 have yw := Ii s es n
 have Ds := RX s es
 rw [EG] at Ds
 generalize zY s es n = ks at yw Ds ⊢
 refine aG E.g E.yR (aP (c_ ((s, es, ks, 16)) E.XM E.E6 (ai Q.H (ai (vL E.bB.1) (ai (vL E.gC.1) (ai Q.c aB)))) (by dsimp only [nR]; exact (⟨by omega, hs, by omega, Ds, by omega, by omega⟩)) (aU _)) (t2 := T.lst (((NZ s es ks 16 n).map .int).map T.sh)) (by rw [← EG]; rfl)) ?_
 generalize NZ s es ks 16 n = ss
 have b0 := asd (az s 32) (show (4 : Int) ≠ 0 by decide)
 have b1 := ar3 (az s 32) (show (0 : Int) < 4 by decide)
 have hnb : az s 32 % 4 = ((t9 s : Nat) : Int) := by unfold t9; omega
 have ant : t9 s < 4 := by unfold t9; omega
 refine aG E.g E.jx (aP (bW (ah (c_ ((s, 32)) E.c5 E.aV Q.br Q.an rfl)) Q.c Q.i) (t2 := .sh (.int (t9 s : Nat))) (congrArg (fun z => T.sh (.int z)) hnb)) ?_
 have hbx : Iw s = (List.range (t9 s)).map (bxE s) := rfl
 rw [hbx]
 generalize anu : t9 s = nb at ant hbx ⊢
 refine xo (p := fun _ => true) (gg := fun d => T.sh (EV (bxE s d.AV.toNat))) E.g E.bU (cL (.cons E.aF.1 (.inl E.t8) .nil) Q.d) (d9 E.b7 (aA E.jx) Q.a E.b6) (.inr rfl) (fun C s0 H0 f0 b' d hd => ?Br) Q.bk ?rest (by exact arN rfl) (nF ⟨_, rfl⟩)
 case Br =>
   obtain ⟨i, hi, rfl⟩ := ase.mp hd
   have NR : i < nb := by simpa using hi
   have F0 : (i : Int).natAbs.log2 < 1920 /\ (toString (i : Int) : Str).length <= 50 := by
     have : i = 0 \/ i = 1 \/ i = 2 := by omega
     rcases this with rfl | rfl | rfl <;> exact ⟨by decide +kernel, by decide +kernel⟩
   have ei : Q.av = (i : Int) := as3 _
   have et : (L3.D.int Q.av).AV.toNat = i := by show (0 + (i : Int)).toNat = i; omega
   refine ⟨rfl, fun _ => aP (fS (aJ (xg (ah aX) (ah (yh E.qB (jS Q.d) Q.aF ((by rw [ei]; exact F0.1)))) ((by rw [ei, sizeLine_eq]; show 1 + (toString (i : Int) : Str).length <= _; omega))) (aJ (c_ (az s (33 + Q.av)) (oE E.DL) (jS Q.d) (ai (ah (c_ ((s, 33 + Q.av)) (oE E.c5) (jS Q.d) (ai Q.aO (ai (ah (dM Q.c Q.aF)) aB)) Q.an rfl)) aB) (trivial) rfl) dh)) Q.r) ?_⟩
   show T.sh _ = T.sh (EV (bxE s (L3.D.int Q.av).AV.toNat))
   rw [et]
   unfold bxE EV
   rw [ei]
   rfl
 case rest =>
 have em : ((bV 0 (nb : Int).toNat).filter fun _ => true).map (fun d => T.sh (EV (bxE s d.AV.toNat))) = (((List.range nb).map (bxE s)).map EV).map T.sh := by
   rw [iz]
   unfold bV
   rw [asn, asn, asn, arT]
   refine ate fun k _ => ?_
   show T.sh (EV (bxE s (0 + (k : Int)).toNat)) = _
   rw [show (0 + (k : Int)).toNat = k by omega]
   rfl
 rw [em]
 generalize hB : (List.range nb).map (bxE s) = bs
 have akw : ∀ q : Int, ((bV 0 (n : Int).toNat).filter fun _ => true).map (fun d => T.sh (.tup (gE s (q + 6 * d.AV) nb))) = (((List.range n).map fun (k : Nat) => L3.D.tup (gE s (q + 6 * (k : Int)) nb)).map T.sh) := fun q => by
   rw [iz]
   unfold bV
   rw [asn, asn, arT]
   refine ate fun k _ => ?_
   show T.sh (.tup (gE s (q + 6 * (0 + (k : Int))) nb)) = _
   rw [as3]
   rfl
 refine xo (p := fun _ => true) (gg := fun d => T.sh (.tup (gE s (100 + 6 * d.AV) nb))) E.g E.R3 (cL (.cons E.jx.1 (.inl E.R1) (.cons E.aF.1 (.inl E.t8) .nil)) Q.d) (d9 E.b7 (aA E.gZ) Q.a E.b6) (.inr rfl) (fun C s0 H0 f0 b' d hd => ?agV) Q.bk ?akx (by exact arN rfl) (nF ⟨_, rfl⟩)
 case agV =>
   obtain ⟨i, hi, rfl⟩ := ase.mp hd
   have NR : i < n := by simpa using hi
   exact ⟨rfl, fun _ => c_ (s, 100 + 6 * Q.av, nb) (oE E.Cd) (jS Q.d) Q.cp (by dsimp only [jP]; exact ⟨hs, by omega, by omega, by omega⟩) (show T.clean (.sh (.tup (gE _ _ _))) = true from (jO _ _ _))⟩
 case akx =>
 rw [akw 100]
 refine xo (p := fun _ => true) (gg := fun d => T.sh (.tup (gE s (103 + 6 * d.AV) nb))) E.g E.IA (cL (.cons E.jx.1 (.inl E.R1) (.cons E.aF.1 (.inl E.t8) .nil)) Q.d) (d9 E.b7 (aA E.gZ) Q.a E.b6) (.inr rfl) (fun C s0 H0 f0 b' d hd => ?agW) Q.bk ?aky (by exact arN rfl) (nF ⟨_, rfl⟩)
 case agW =>
   obtain ⟨i, hi, rfl⟩ := ase.mp hd
   have NR : i < n := by simpa using hi
   exact ⟨rfl, fun _ => c_ (s, 103 + 6 * Q.av, nb) (oE E.Cd) (jS Q.d) Q.cp (by dsimp only [jP]; exact ⟨hs, by omega, by omega, by omega⟩) (show T.clean (.sh (.tup (gE _ _ _))) = true from (jO _ _ _))⟩
 case aky =>
 rw [akw 103]
 refine aY (oG (mw (aN (vM E.bU.1) (aN (vFL E.bB.1 rfl) (aN (vM E.gC.1) (aN (vM E.yR.1) (aN (vM E.R3.1) (aN (vM E.IA.1) (aN (aP (c_ (s, es, nb) E.agU E.L4 (ai Q.H (ai (aA E.bB) (ai (aA E.jx) aB))) (by dsimp only [t7]; exact ⟨hs, by omega, by omega, by omega⟩) (cH (Ph s es nb))) (t2 := .lst (((yO s es nb).map cR).map T.sh)) rfl) b8))))))) Q.r) ?_) rfl
 rw [T.dJ, T.ez, T.ez, T.ez, T.ez, T.ez, T.ez, T.ez, T.ez, fJ, fJ, fJ, fJ, fJ, fJ, T.dJ]
 unfold gF Pj
 rw [anu]
theorem dm : jf (ak Ce) ([("script", .cell), ("most", ao), ("many", ao), ("elders", ao), ("kinds", ao), ("starts", ao), ("count", .cell), ("boxes", ao), ("ins", ao), ("outs", ao), ("_law_cell", av), ("max", av), ("_law_elders", av), ("_law_kinds", av), ("_law_chosen", av), ("range", av), ("_law_ways", av)]) = true := Q.j
theorem XO : aH ["script", "most", "many", "elders", "kinds", "starts", "count", "boxes", "ins", "outs"] ["script", "most"] (ak Ce) := aM
def jQ (s : Q.b) : Nat := if az s 63 % 8 = 3 then 30 else 9
theorem ack (s : Q.b) : 1 <= jQ s /\ jQ s <= 30 := by unfold jQ; split <;> omega
abbrev IC : Stmt := top 74
abbrev Pk : Type := List Int
def yS : Pk -> List L3.D := fun s => [.lst (s.map .int)]
def yT : Pk -> Prop := fun s => s.length <= 1000
def yU : Pk -> T := fun s => (.sh (.int (jQ s : Nat)) : T)
structure agX (X : Cx) (CL : Q.e) : Prop extends bP X where
 aF : Ln X 0 "script"
 aV : Gl X "_law_cell"
 c5 : Fc X CL "_law_cell" 1 2 gO bE fZ
theorem agY (E : agX X CL) {s} (h : yT s) :
   ay X CL b IC ["script"] (yS s) (yU s) := by
 dsimp only [ay, yT, yS, yU] at h ⊢
 refine cT (eU (ah (bW (ah (c_ ((s, 63)) E.c5 E.aV Q.br (by dsimp only [bE]; exact (⟨by omega, by omega, h⟩)) rfl)) Q.c Q.i)) Q.c).1 (fun hp => ?_) (fun hp => au ?_)
 . have hp : az s 63 % 8 = 3 := ar0 hp
   refine aY aj ?_
   unfold jQ
   rw [arU hp]
   rfl
 . have hp : ¬ az s 63 % 8 = 3 := asq hp
   refine aY aj ?_
   unfold jQ
   rw [arS hp]
   rfl
theorem R4 : jf (ak IC) ([("script", ao), ("_law_cell", av)]) = true := Q.j
theorem acm : aH ["script"] ["script"] (ak IC) := aM
abbrev oQ : Stmt := inClass (top 7) 0
abbrev ua : Type := List Str × List Int × List Int
def wI : ua -> List L3.D := fun (ks, es, ss) => [.lst (ks.map .str), .lst Q.P, .lst (ss.map .int)]
def wJ : ua -> Prop := fun (ks, es, ss) => True
def wK : ua -> List Q.A := fun (ks, es, ss) => (tL ks es ss : List Q.A)
structure L5 (X : Cx) (CL : Q.e) : Prop extends bP X where
 pW : Ln X 0 "self"
 gC : Ln X 1 "kinds"
 bB : Ln X 2 "elders"
 yR : Ln X 3 "starts"
 bH : Gl X "list"
 bI : X.mg "list" = none
 fC : wB X.K Q.X
 dw : bG X.K Q.X "kinds"
 eX : bG X.K Q.X "elders"
 pX : bG X.K Q.X "starts"
theorem L6 (E : L5 X CL) (ks : Q.h) (es ss : Q.b) (y : Addr) (h : True) :
   ic X CL b (g5 oQ) (Wm ["self", "kinds", "elders", "starts"] y "Tree" [.lst (ks.map .str), .lst Q.P, .lst (ss.map .int)]) { nx := fun δ => δ[0]? = some (some (.pin y (.ins "Tree" (tL ks es ss)))), rt := fun _ _ => False } := by
 have hi : D.bQ (ks.map L3.D.str) = true := iB (fun _ => rfl) _
 refine yg E.fC E.dw E.pW.1 (cG E.bI (aA E.gC) hi E.bH aT) rfl (arN rfl) ?_
 rw [jU]
 refine yg E.fC E.eX E.pW.1 (cG E.bI (aA E.bB) (bJ _) E.bH aT) rfl (arN rfl) ?_
 rw [cP Q.d, jU]
 refine yg E.fC E.pX E.pW.1 (cG E.bI (aA E.yR) (bJ _) E.bH aT) rfl (arN rfl) ?_
 rw [cP Q.d, cP Q.d, jU]
 exact au rfl
theorem j3 : jf (ak oQ) ([("self", ao), ("kinds", ao), ("elders", ao), ("starts", ao), ("list", av)]) = true := Q.j
theorem yV : aH ["self", "kinds", "elders", "starts"] ["self", "kinds", "elders", "starts"] (ak oQ) := aM
abbrev mO : Stmt := inClass (top 5) 0
abbrev rR : Type := List L3.D × List L3.D × V × List L3.D × List L3.D × List L3.D
def uc : rR -> List L3.D := fun (bs, nm, tv, is, os, ws) => [.lst bs, .lst nm, .val tv, .lst is, .lst os, .lst ws]
def ud : rR -> Prop := fun (bs, nm, tv, is, os, ws) => D.bQ bs = true /\ D.bQ nm = true /\ D.bQ is = true /\ D.bQ os = true /\ D.bQ ws = true
def uf : rR -> List Q.A := fun (bs, nm, tv, is, os, ws) => (nM bs nm (.sh (.val tv)) is os ws : List Q.A)
structure IE (X : Cx) (CL : Q.e) : Prop extends bP X where
 pW : Ln X 0 "self"
 bU : Ln X 1 "boxes"
 rQ : Ln X 2 "names"
 cI : Ln X 3 "tree"
 R3 : Ln X 4 "ins"
 IA : Ln X 5 "outs"
 kJ : Ln X 6 "ways"
 bH : Gl X "list"
 bI : X.mg "list" = none
 bX : wB X.K Q.E
 E7 : bG X.K Q.E "boxes"
 pY : bG X.K Q.E "names"
 cB : bG X.K Q.E "tree"
 ug : bG X.K Q.E "ins"
 rS : bG X.K Q.E "outs"
 dz : bG X.K Q.E "ways"
theorem IG (E : IE X CL) (bs nm : Q.k) (tv : V) (is os ws : Q.k) (y : Addr) (h : D.bQ bs = true /\ D.bQ nm = true /\ D.bQ is = true /\ D.bQ os = true /\ D.bQ ws = true) :
   ic X CL b (g5 mO) (Wm ["self", "boxes", "names", "tree", "ins", "outs", "ways"] y "Chart" [.lst bs, .lst nm, .val tv, .lst is, .lst os, .lst ws]) { nx := fun δ => δ[0]? = some (some (.pin y (.ins "Chart" (nM bs nm (.sh (.val tv)) is os ws)))), rt := fun _ _ => False } := by
 obtain ⟨h1, h2, h3, h4, h5⟩ := h
 refine yg E.bX E.E7 E.pW.1 (cG E.bI (aA E.bU) h1 E.bH aT) rfl (arN rfl) ?_
 rw [jU]
 refine yg E.bX E.pY E.pW.1 (cG E.bI (aA E.rQ) h2 E.bH aT) rfl (arN rfl) ?_
 rw [cP Q.d, jU]
 refine yg E.bX E.cB E.pW.1 (v_ E.cI.1) rfl (arN rfl) ?_
 rw [cP Q.d, cP Q.d, jU]
 refine yg E.bX E.ug E.pW.1 (cG E.bI (aA E.R3) h3 E.bH aT) rfl (arN rfl) ?_
 rw [cP Q.d, cP Q.d, cP Q.d, jU]
 refine yg E.bX E.rS E.pW.1 (cG E.bI (aA E.IA) h4 E.bH aT) rfl (arN rfl) ?_
 rw [cP Q.d, cP Q.d, cP Q.d, cP Q.d, jU]
 refine yg E.bX E.dz E.pW.1 (cG E.bI (aA E.kJ) h5 E.bH aT) rfl (arN rfl) ?_
 rw [cP Q.d, cP Q.d, cP Q.d, cP Q.d, cP Q.d, jU]
 exact au rfl
theorem eY : jf (ak mO) ([("self", ao), ("boxes", ao), ("names", ao), ("tree", ao), ("ins", ao), ("outs", ao), ("ways", ao), ("list", av)]) = true := Q.j
theorem wL : aH ["self", "boxes", "names", "tree", "ins", "outs", "ways"] ["self", "boxes", "names", "tree", "ins", "outs", "ways"] (ak mO) := aM
def nmM (k : Nat) : Str := ("m" : Str) ++ sI (k : Int)
def Bt (n : Nat) : List Str := (List.range n).map nmM
theorem XQ (k : Nat) (h : k <= 40) : (k : Int).natAbs.log2 < 1920 /\ (toString (k : Int) : Str).length <= 50 /\ PyData.strOk (toString (k : Int) : Str) = true := by
 have h2 : ((List.range 41).all fun k => decide ((k : Int).natAbs.log2 < 1920) && decide ((toString (k : Int) : Str).length <= 50) && PyData.strOk (toString (k : Int) : Str)) = true := Q.j
 have := atd.mp h2 k (atv.mpr Q.a)
 simpa [Bool.and_eq_true, and_assoc] using this
abbrev Ci : Stmt := top 67
abbrev Cj : Type := List L3.D × List Int × List Str × List Int × List L3.D × List L3.D × List L3.D
def vh : Cj -> List L3.D := fun (bs, es, ks, ss, is, os, ws) => [gF bs es ks ss is os ws]
def vm : Cj -> Prop := fun (bs, es, ks, ss, is, os, ws) => D.bQ bs = true /\ D.bQ is = true /\ D.bQ os = true /\ D.bQ ws = true /\ es.length <= 40
def vn : Cj -> T := fun (bs, es, ks, ss, is, os, ws) => (.ins "Chart" (nM bs ((Bt es.length).map .str) (.ins "Tree" (tL ks es ss)) is os ws) : T)
structure acn (X : Cx) (CL : Q.e) : Prop extends bP X where
 bf : Ln X 0 "parts"
 rQ : Ln X 1 "names"
 cI : Ln X 2 "tree"
 b6 : Gl X "range"
 c7 : Gl X "len"
 agZ : Gl X "Tree"
 bH : Gl X "list"
 aco : Gl X "Chart"
 b7 : X.mg "range" = none
 c9 : X.mg "len" = none
 ag0 : Fm X CL "Tree" 1 4 wI wJ wK
 bI : X.mg "list" = none
 acp : Fm X CL "Chart" 1 7 uc ud uf
 qB : X.mg "str" = none
theorem acq (E : acn X CL) {aW : Cj} (h : vm aW) :
   ay X CL b Ci ["parts", "names", "tree"] (vh aW) (vn aW) := by
 obtain ⟨bs, es, ks, ss, is, os, ws⟩ := aW
 dsimp only [ay, vm, vh, vn] at h ⊢
 obtain ⟨ib, ii, io, iw, hl⟩ := h
 refine xo (p := fun _ => true) (gg := fun d => T.sh (.str (nmM d.AV.toNat))) E.g E.rQ (cL .nil Q.d) (d9 E.b7 (ah (dY (arL ..) E.c9 Q.M E.c7)) Q.a E.b6) (.inr rfl) (fun C s0 H0 f0 b' d hd => ?Br) Q.bk ?rest (by exact arN rfl) (nF ⟨_, rfl⟩)
 case Br =>
   obtain ⟨i, hi, rfl⟩ := ase.mp hd
   have NR : i < es.length := by simpa using hi
   obtain ⟨q1, q2, _⟩ := XQ i Q.a
   have ei : Q.av = (i : Int) := as3 _
   have et : (L3.D.int Q.av).AV.toNat = i := by show (0 + (i : Int)).toNat = i; omega
   refine ⟨rfl, fun _ => aP (xg (ah aX) (ah (yh E.qB (jS Q.d) Q.aF ((by rw [ei]; exact q1)))) ((by rw [ei, as5]; show 1 + (toString (i : Int) : Str).length <= _; omega))) ?_⟩
   show T.sh _ = T.sh (.str (nmM (L3.D.int Q.av).AV.toNat))
   rw [et]
   unfold nmM
   rw [ei]
   rfl
 case rest =>
 have em : ((bV 0 (es.length : Int).toNat).filter fun _ => true).map (fun d => T.sh (.str (nmM d.AV.toNat))) = ((Bt es.length).map L3.D.str).map T.sh := by
   rw [iz]
   unfold bV Bt
   rw [asn, asn, asn, arT]
   refine ate fun k _ => ?_
   show T.sh (.str (nmM (0 + (k : Int)).toNat)) = _
   rw [show (0 + (k : Int)).toNat = k by omega]
   rfl
 rw [em]
 refine aG E.g E.cI (aP (mk_ (ks, es, ss) E.ag0 E.agZ (ai (ck (cG E.bI Q.M (ym _) E.bH aT)) (ai (ck (cG E.bI Q.M (bJ _) E.bH aT)) (ai (ck (cG E.bI Q.M (bJ _) E.bH aT)) aB))) trivial (A1 ks es ss)) (t2 := .ins "Tree" (tL ks es ss)) rfl) ?_
 exact aY (mkP (f := "tree") (Ld := Ah bs ((Bt es.length).map .str)) (Vh := Ai is os ws) (fun v => (bs, (Bt es.length).map .str, v, is, os, ws)) E.acp E.aco
   (Le (ck (cG E.bI Q.M ib E.bH aT)) (Le (vL E.rQ.1)
     (Wy (vM E.cI.1)
       (ai (ck (cG E.bI Q.M ii E.bH aT)) (ai (ck (cG E.bI Q.M io E.bH aT)) (ai (ck (cG E.bI Q.M iw E.bH aT)) aB))))))
   (fun v => rfl) (fun v => ⟨ib, ym _, ii, io, iw⟩) (fun v => rfl) (HR ib (ym _)) (HS ii io iw)) rfl
theorem lO : jf (ak Ci) ([("parts", ao), ("names", ao), ("tree", ao), ("range", av), ("len", av), ("Tree", av), ("list", av), ("Chart", av)]) = true := Q.j
theorem XR : aH ["parts", "names", "tree"] ["parts"] (ak Ci) := aM
abbrev Ck : Stmt := top 15
abbrev Cm : Type := Int × Int × List Int
def vo : Cm -> List L3.D := fun (bx, mo, bs) => [.tup [.int bx, .int mo], .lst (bs.map .int)]
def vp : Cm -> Prop := fun (bx, mo, bs) => bx = -1 \/ (0 <= bx /\ bx < bs.length)
def vq : Cm -> T := fun (bx, mo, bs) => (.sh (.int (rD bx mo bs)) : T)
structure acr (X : Cx) (CL : Q.e) : Prop extends bP X where
 II : Ln X 0 "term"
 bU : Ln X 1 "boxes"
 XS : Ln X 2 "box"
 Pn : Ln X 3 "more"
theorem acs (E : acr X CL) {aW : Cm} (h : vp aW) :
   ay X CL b Ck ["term", "boxes", "box", "more"] (vo aW) (vq aW) := by
 obtain ⟨bx, mo, bs⟩ := aW
 dsimp only [ay, vp, vo, vq] at h ⊢
 refine aG E.g E.XS (cj (aE (aA E.II) Q.c rfl) rfl) ?_
 refine aG E.g E.Pn (cj (aE (aA E.II) Q.c rfl) rfl) ?_
 refine cT (eU (aA E.XS) Q.ar).1 (fun hp => ?_) (fun hp => ?_)
 . refine aY (v_ E.Pn.1) ?_
   have e : bx = -1 := ar0 hp
   show T.sh _ = T.sh (.int (rD bx mo bs))
   rw [rD, arU e]
 . refine au ?_
   have e : ¬ bx = -1 := asq hp
   refine aY (dM (bz (aA E.bU) (aA E.XS) Q.ag) (aA E.Pn)) ?_
   show T.sh _ = T.sh (.int (rD bx mo bs))
   rw [rD, arS e]
theorem yW : jf (ak Ck) ([("term", ao), ("boxes", ao), ("box", ao), ("more", ao)]) = true := Q.j
theorem XT : aH ["term", "boxes", "box", "more"] ["term", "boxes"] (ak Ck) := aM
abbrev k8 : Stmt := top 40
abbrev k9 : Type := J × Bool × List Int
def gQ : k9 -> List L3.D := fun (r, back, bs) => [r.d, .int (if back then 2 else 3), .lst (bs.map .int)]
def gR : k9 -> Prop := fun (r, back, bs) => ∃ o m, r.ok (o, m, bs)
def gS : k9 -> T := fun (r, back, bs) => (.lst (((xD back r bs).map .int).map T.sh) : T)
structure E8 (X : Cx) (CL : Q.e) : Prop extends bP X where
 eZ : Ln X 0 "row"
 lq : Ln X 1 "place"
 bU : Ln X 2 "boxes"
 bC : Ln X 3 "behind"
 bH : Gl X "list"
 bI : X.mg "list" = none
theorem E9 (E : E8 X CL) {aW : k9} (h : gR aW) :
   ay X CL b k8 ["row", "place", "boxes", "behind"] (gQ aW) (gS aW) := by
 obtain ⟨r, back, bs⟩ := aW
 dsimp only [ay, gR, gQ, gS] at h ⊢
 obtain ⟨o, m, h⟩ := h
 refine aG E.g E.bC (nB E.bI (v_ E.bU.1) E.bH aT) ?_
 refine cT (d7 (aE (aA E.eZ) Q.c (W5 r)) (ah aX)).1 (fun hp => ?_) (fun hp => au ?_)
 . rw [show decide (r.w = Str.ofString "put") = r.W3 from akm h] at hp
   cases r with
   | put x p q =>
     have h : 0 <= x /\ x < bs.length := h
     have hlen : ((bs.map L3.D.int).map T.sh).length = bs.length := by simp
     have NV : AJ [L3.D.str "put", .int x, .int p, .int q] (if back then 2 else 3) = some (.int (if back then p else q)) := by cases back <;> rfl
     refine La E.bC.1 (cj (aE (aA E.eZ) (aA E.lq) NV) rfl) (aE (aA E.eZ) Q.c rfl) rfl (C7 h.1 (by rw [hlen]; exact h.2)) (au ?_)
     refine aY (vM E.bC.1) ?_
     show T.lst _ = T.lst _
     rw [xD, ats, ats]
   | _ => cases hp
 . rw [show decide (r.w = Str.ofString "put") = r.W3 from akm h] at hp
   have e : xD back r bs = bs := by cases r <;> first | rfl | cases hp
   refine aY (vM E.bC.1) ?_
   show T.lst _ = T.lst (((xD back r bs).map .int).map T.sh)
   rw [e]
theorem iF : jf (ak k8) ([("row", ao), ("place", ao), ("boxes", ao), ("behind", ao), ("list", av)]) = true := Q.j
theorem DS : aH ["row", "place", "boxes", "behind"] ["row", "place", "boxes"] (ak k8) := aM
abbrev yX : Stmt := top 39
abbrev yZ : Type := J × List Int
def nY : yZ -> List L3.D := fun (r, bs) => [r.d, .lst (bs.map .int)]
def n5 : yZ -> Prop := fun (r, bs) => ∃ o m, r.ok (o, m, bs)
def n6 : yZ -> T := fun (r, bs) => (.lst (((xD false r bs).map .int).map T.sh) : T)
structure XU (X : Cx) (CL : Q.e) : Prop extends bP X where
 eZ : Ln X 0 "row"
 bU : Ln X 1 "boxes"
 ji : Gl X "with_number"
 IJ : Gl X "AFTER"
 pZ : Fc X CL "with_number" 1 3 gQ gR gS
 IK : ∃ u, X.mg "AFTER" = some (.int 3 u)
theorem XW (E : XU X CL) {aW : yZ} (h : n5 aW) :
   ay X CL b yX ["row", "boxes"] (nY aW) (n6 aW) := by
 obtain ⟨r, bs⟩ := aW
 dsimp only [ay, n5, nY, n6] at h ⊢
 exact aY (c_ (r, false, bs) E.pZ E.ji (ai (aA E.eZ) (ai (ah (fH E.IK E.IJ)) Q.aE)) h (aU _)) rfl
theorem vt : jf (ak yX) ([("row", ao), ("boxes", ao), ("with_number", av), ("AFTER", av)]) = true := Q.j
theorem Uy : aH ["row", "boxes"] ["row", "boxes"] (ak yX) := aM
abbrev IL : Stmt := top 37
abbrev IQ : Type := eS × List Int
def y9 : IQ -> List L3.D := fun (q, bs) => [q.d, .lst (bs.map .int)]
def za : IQ -> Prop := fun (q, bs) => q.ok bs
def zb : IQ -> T := fun (q, bs) => (.tup [.lst (((xD false (q.row bs) bs).map .int).map T.sh), .sh (q.row bs).d] : T)
structure ag1 (X : Cx) (CL : Q.e) : Prop extends bP X where
 jc : Ln X 0 "deed"
 bU : Ln X 1 "boxes"
 uh : Ln X 2 "word"
 eZ : Ln X 3 "row"
 Cp : Gl X "value"
 um : Gl X "redone"
 R5 : Fc X CL "value" 1 2 vo vp vq
 DT : Fc X CL "redone" 2 2 nY n5 n6
theorem ag2 (E : ag1 X CL) {aW : IQ} (h : za aW) :
   ay X CL b IL ["deed", "boxes", "word", "row"] (y9 aW) (zb aW) := by
 obtain ⟨q, bs⟩ := aW
 dsimp only [ay, za, y9, zb] at h ⊢
 have pR : (T.lst (((xD false (q.row bs) bs).map L3.D.int).map T.sh)).clean = true := by
   rw [fV]
   exact jI _
 have fin : ∀ (w1 : Str) (p1 p2 p3 p4 p5 p6 p7 p8 : Pos) (n1 : Nat), ic X CL b [.Return (some (.Tuple [.Call (.Name "redone" p1) [.Name "row" p2, .Name "boxes" p3] [] p4, .Name "row" p5] n1 p6)) p7] [some (.sh q.d), some Q.bq, some (.sh (.str w1)), some (.sh (q.row bs).d)] { nx := fun _ => (T.tup [.lst (((xD false (q.row bs) bs).map .int).map T.sh), .sh (q.row bs).d]) = .sh .non, rt := fun t _ => t = .tup [.lst (((xD false (q.row bs) bs).map .int).map T.sh), .sh (q.row bs).d] } := by
   intro w1 p1 p2 p3 p4 p5 p6 p7 p8 n1
   exact aY (mw (aN (c_ (q.row bs, bs) E.DT E.um (ai (aA E.eZ) Q.aE) (agB h) pR) (aN (v_ E.eZ.1) b8)) Q.r) rfl
 cases q with
 | put x bb m =>
   have h : (0 <= x /\ x < bs.length) /\ Xa bs bb := h
   refine aG E.g E.uh (cj Q.aP rfl) ?_
   refine cT (d7 (aA E.uh) (ah aX)).1 (fun hp => ?_) (fun hp => absurd rfl (asq hp))
   refine aG E.g E.eZ (fS (ds := [.str "put", .int x, .int (bs.getD x.toNat 0), .int (rD bb m bs)]) (aN aX (aN (i9 (v_ E.jc.1) Q.c rfl) (aN (cj (bz (aA E.bU) Q.aP (cY h.1.1 h.1.2)) rfl) (aN (c_ (bb, m, bs) E.R5 E.Cp (ai Q.aP Q.aE) h.2 rfl) b8)))) Q.r) (au ?_)
   exact fin _ _ _ _ _ _ _ _ ⟨0, 0, 0, 0⟩ _
 | call s =>
   refine aG E.g E.uh (cj Q.aP rfl) ?_
   refine cT (d7 (aA E.uh) (ah aX)).1 (fun hp => absurd (show ("call" : Str) = "put" from ar0 hp) Q.d) (fun hp => ?_)
   refine cT (d7 (aA E.uh) (ah aX)).1 (fun hp => absurd (show ("call" : Str) = "say" from ar0 hp) Q.d) (fun hp => ?_)
   refine aG E.g E.eZ (fS (ds := [.str "call", .str s]) (aN aX (aN (i9 (v_ E.jc.1) Q.c rfl) b8)) Q.r) (au (au ?_))
   exact fin _ _ _ _ _ _ _ _ ⟨0, 0, 0, 0⟩ _
 | say s bb m =>
   refine aG E.g E.uh (cj Q.aP rfl) ?_
   refine cT (d7 (aA E.uh) (ah aX)).1 (fun hp => absurd (show ("say" : Str) = "put" from ar0 hp) Q.d) (fun hp => ?_)
   refine cT (d7 (aA E.uh) (ah aX)).1 (fun hp => ?_) (fun hp => absurd rfl (asq hp))
   refine aG E.g E.eZ (fS (ds := [.str "say", .str s, .int (rD bb m bs)]) (aN aX (aN (i9 (v_ E.jc.1) Q.c rfl) (aN (c_ (bb, m, bs) E.R5 E.Cp (ai Q.aP Q.aE) h rfl) b8))) Q.r) (au (au ?_))
   exact fin _ _ _ _ _ _ _ _ ⟨0, 0, 0, 0⟩ _
theorem vv : jf (ak IL) ([("deed", ao), ("boxes", ao), ("word", ao), ("row", ao), ("value", av), ("redone", av)]) = true := Q.j
theorem acu : aH ["deed", "boxes", "word", "row"] ["deed", "boxes"] (ak IL) := aM
abbrev rT : Stmt := top 41
abbrev rV : Type := Bool × List eS × List Int
def mP : rV -> List L3.D := fun (l, qs, bs) => [qX l (qs.map eS.d), .lst (bs.map .int)]
def j4 : rV -> Prop := fun (l, qs, bs) => qs.length <= 1000 /\ ∀ q ∈ qs, q.ok bs
def j5 : rV -> T := fun (l, qs, bs) => (.tup [.lst (((qs.foldl RV bs).map .int).map T.sh), .lst (((qy qs bs).map J.d).map T.sh), .lst (((pT qs).map .str).map T.sh)] : T)
structure Pp (X : Cx) (CL : Q.e) : Prop extends bP X where
 iS : Ln X 0 "deeds"
 bU : Ln X 1 "boxes"
 bC : Ln X 2 "behind"
 c6 : Ln X 3 "rows"
 n8 : Ln X 4 "called"
 jc : Ln X 5 "deed"
 jb : Ln X 6 "step"
 bH : Gl X "list"
 Pq : Gl X "done"
 bI : X.mg "list" = none
 ag3 : Fc X CL "done" 3 2 y9 za zb
theorem Pr (E : Pp X CL) {aW : rV} (h : j4 aW) :
   ay X CL b rT ["deeds", "boxes", "behind", "rows", "called", "deed", "step"] (mP aW) (j5 aW) := by
 obtain ⟨l, qs, bs⟩ := aW
 dsimp only [ay, j4, mP, j5] at h ⊢
 refine aG E.g E.bC (nB E.bI (v_ E.bU.1) E.bH aT) ?_
 refine aG E.g E.c6 (d8 (tl := []) b8 Q.r) ?_
 refine aG E.g E.n8 (d8 (tl := []) b8 Q.r) ?_
 have hti : ∀ (p p' : Pos) (o2 o3 o4 o5 o6 : Q.L), K7 X CL b (.Name "deed" p) (.Name "deeds" p') [some (.sh (qX l (qs.map eS.d))), some Q.bq, o2, o3, o4, o5, o6] (qs.map eS.d) [some (.sh (qX l (qs.map eS.d))), some Q.bq, o2, o3, o4, o5, o6] := by
   intro p p' o2 o3 o4 o5 o6
   cases l
   . exact Oq (v_ E.iS.1)
   . exact dN (v_ E.iS.1)
 refine eO E.g E.jc (fun j δ => ∃ o5 o6, δ = [some (.sh (qX l (qs.map eS.d))), some Q.bq, some (.lst ((((qs.take j).foldl RV bs).map .int).map T.sh)), some (.lst (((qy (qs.take j) bs).map J.d).map T.sh)), some (.lst (((pT (qs.take j)).map .str).map T.sh)), o5, o6]) (hti _ _ _ _ _ _ _) ⟨_, _, rfl⟩ Q.aA ?turn ?fin
 case turn =>
   rintro j d δ hj ⟨o5, o6, rfl⟩
   rw [asA] at hj
   obtain ⟨q, hq, rfl⟩ := Option.map_eq_some_iff.mp hj
   have hm : q ∈ qs := asT hq
   have hl : (qy (qs.take j) bs).length <= 1000 := by rw [Xd, atm]; omega
   have hl' : (pT (qs.take j)).length <= 1000 := asD (atJ _ _) (by rw [atm]; omega)
   have ec : pT (qs.take Q.l) = pT (qs.take j) ++ (GC q).toList := by
     rw [kI hq]; unfold pT; rw [List.filterMap_append]; cases q <;> rfl
   rw [kI hq, Xc, ati, ← kI hq, ec]
   have pR := DE (qs.take j) bs
   have gX := HZ pR q (h.2 q hm)
   generalize (qs.take j).foldl RV bs = cur at pR gX ⊢
   generalize qy (qs.take j) bs = rs at hl ⊢
   generalize pT (qs.take j) = cs at hl' ⊢
   refine aG E.g E.jb (c_ (q, cur) E.ag3 E.Pq (ai (aA E.jc) (ai (vL E.bC.1) aB)) gX (O5 _ _ _)) ?_
   refine aG E.g E.bC (BK (tt := [.lst (((RV cur q).map .int).map T.sh), .sh (q.row cur).d]) 0 E.jb.1 rfl rfl) ?_
   refine iA E.c6.1 rfl (cj (d := (q.row cur).d) (aE (vE (t := .tup [.sh .any, .sh (q.row cur).d]) E.jb.1 rfl rfl) Q.c rfl) (B4 cur q)) rfl Q.z ?_
   have er : (rs.map J.d).map T.sh ++ [T.sh (q.row cur).d] = ((rs ++ [q.row cur]).map J.d).map T.sh := by rw [ash, ash]; rfl
   rw [er]
   cases q with
   | put x bb m =>
     refine cT (d7 Q.aP (ah aX)).1 (fun hp => absurd (show ("put" : Str) = "call" from ar0 hp) Q.d) (fun hp => au (au ⟨some (.sh (eS.put x bb m).d), some (.tup [.sh .any, .sh ((eS.put x bb m).row cur).d]), ?_⟩))
     rw [show (GC (eS.put x bb m)).toList = [] from rfl, asj]
     rfl
   | say s bb m =>
     refine cT (d7 Q.aP (ah aX)).1 (fun hp => absurd (show ("say" : Str) = "call" from ar0 hp) Q.d) (fun hp => au (au ⟨some (.sh (eS.say s bb m).d), some (.tup [.sh .any, .sh ((eS.say s bb m).row cur).d]), ?_⟩))
     rw [show (GC (eS.say s bb m)).toList = [] from rfl, asj]
     rfl
   | call s =>
     refine cT (d7 Q.aP (ah aX)).1 (fun hp => ?_) (fun hp => absurd rfl (asq hp))
     refine iA E.n8.1 rfl (cj Q.aP rfl) rfl Q.z (au (au ⟨some (.sh (eS.call s).d), some (.tup [.sh .any, .sh ((eS.call s).row cur).d]), ?_⟩))
     have es : (cs.map L3.D.str).map T.sh ++ [T.sh (.str s)] = ((cs ++ (GC (eS.call s)).toList).map L3.D.str).map T.sh := by rw [ash, ash]; rfl
     rw [← es]
     rfl
 case fin =>
   rintro δ ⟨o5, o6, rfl⟩
   rw [arL, asN]
   exact aY (mw (aN (vM E.bC.1) (aN (vM E.c6.1) (aN (vM E.n8.1) b8))) Q.r) rfl
theorem fM : jf (ak rT) ([("deeds", ao), ("boxes", ao), ("behind", ao), ("rows", ao), ("called", ao), ("deed", ao), ("step", ao), ("list", av), ("done", av)]) = true := Q.j
theorem L7 : aH ["deeds", "boxes", "behind", "rows", "called", "deed", "step"] ["deeds", "boxes"] (ak rT) := aM
abbrev oR : Stmt := top 44
abbrev oS : Type := Bool × List It × List Int
def lu : oS -> List L3.D := fun (l, xs, bs) => [qX l (xs.map It.d), .lst (bs.map .int)]
def gY : oS -> Prop := fun (l, xs, bs) => xs.length <= 1000 /\ ∀ x ∈ xs, x.ok bs
def ly : oS -> T := fun (l, xs, bs) => (.tup [.lst (((xs.foldl It.af bs).map .int).map T.sh), .lst (((wu xs bs).map J.d).map T.sh), .lst (((iD xs).map .str).map T.sh)] : T)
structure L8 (X : Cx) (CL : Q.e) : Prop extends bP X where
 aF : Ln X 0 "script"
 bU : Ln X 1 "boxes"
 bC : Ln X 2 "behind"
 c6 : Ln X 3 "rows"
 n8 : Ln X 4 "called"
 DU : Ln X 5 "part"
 jb : Ln X 6 "step"
 bH : Gl X "list"
 R6 : Gl X "MARKS"
 xH : Gl X "all_done"
 bI : X.mg "list" = none
 vz : GT X "MARKS" ["out", "keep", "way", "in"]
 Pu : Fc X CL "all_done" 4 2 mP j4 j5
theorem Ma (E : L8 X CL) {aW : oS} (h : gY aW) :
   ay X CL b oR ["script", "boxes", "behind", "rows", "called", "part", "step"] (lu aW) (ly aW) := by
 obtain ⟨l, xs, bs⟩ := aW
 dsimp only [ay, gY, lu, ly] at h ⊢
 refine aG E.g E.bC (cG E.bI (aA E.bU) (bJ _) E.bH aT) ?_
 refine aG E.g E.c6 (d8 (tl := []) b8 Q.r) ?_
 refine aG E.g E.n8 (d8 (tl := []) b8 Q.r) ?_
 have hti : ∀ (p p' : Pos) (o2 o3 o4 o5 o6 : Q.L), K7 X CL b (.Name "part" p) (.Name "script" p') [some (.sh (qX l (xs.map It.d))), some Q.bq, o2, o3, o4, o5, o6] (xs.map It.d) [some (.sh (qX l (xs.map It.d))), some Q.bq, o2, o3, o4, o5, o6] := by
   intro p p' o2 o3 o4 o5 o6
   cases l
   . exact Oq (v_ E.aF.1)
   . exact dN (v_ E.aF.1)
 refine eO E.g E.DU (fun j δ => ∃ o5 o6, δ = [some (.sh (qX l (xs.map It.d))), some Q.bq, some (.lst ((((xs.take j).foldl It.af bs).map .int).map T.sh)), some (.lst (((wu (xs.take j) bs).map J.d).map T.sh)), some (.lst (((iD (xs.take j)).map .str).map T.sh)), o5, o6]) (hti _ _ _ _ _ _ _) ⟨_, _, rfl⟩ Q.aA ?turn ?fin
 case turn =>
   rintro j d δ hj ⟨o5, o6, rfl⟩
   rw [asA] at hj
   obtain ⟨x, hq, rfl⟩ := Option.map_eq_some_iff.mp hj
   have hm : x ∈ xs := asT hq
   have hl : (wu (xs.take j) bs).length <= 1000 := by rw [B5, atm]; omega
   have hl' : (iD (xs.take j)).length <= 1000 := asD (atJ _ _) (by rw [atm]; omega)
   have pR := DF (xs.take j) bs
   have gX := abV pR x (h.2 x hm)
   have e1 : (xs.take Q.l).foldl It.af bs = ((xs.take j).foldl It.af bs |> fun c => x.af c) := by rw [kI hq, ati]; rfl
   have e2 : wu (xs.take Q.l) bs = wu (xs.take j) bs ++ [x.j ((xs.take j).foldl It.af bs)] := by rw [kI hq, abU]; rfl
   have e3 : iD (xs.take Q.l) = iD (xs.take j) ++ x.call.toList := by rw [kI hq, LK]
   rw [e1, e2, e3]
   clear e1 e2 e3
   generalize (xs.take j).foldl It.af bs = cur at pR gX ⊢
   generalize wu (xs.take j) bs = rs at hl ⊢
   generalize iD (xs.take j) = cs at hl' ⊢
   have hmk := abT x
   by_cases ht : x.told = true
   . obtain ⟨q, rfl⟩ : ∃ q, x = .jZ q := by cases x <;> first | exact ⟨_, rfl⟩ | cases ht
     have gX : q.ok cur := gX
     refine cT (Ru (l := mz) (aE (ah (v_ (d := .tup (.str q.w :: q.ds)) E.DU.1)) Q.c Xg) (ah (De E.vz E.R6)) rfl rfl).1 (fun hp => by rw [show decide (q.w ∈ mz) = false from hmk] at hp; cases hp) (fun hp => ?_)
     refine aG E.g E.jb (c_ (true, [q], cur) E.Pu E.xH (ai (ck (ds := [q.d]) (d8 (aN (v_ (d := q.d) E.DU.1) b8) Q.r)) (ai (vL E.bC.1) aB)) (by dsimp only [j4]; exact ⟨by simp, fun y hy => by rw [List.mem_singleton.mp hy]; exact gX⟩) (DG (bJ _) (Uj _ _) (iB (fun _ => rfl) _))) ?_
     rw [show j5 (true, [q], cur) = T.tup [.lst (((RV cur q).map .int).map T.sh), .lst ([(q.row cur).d].map T.sh), .lst (((pT [q]).map .str).map T.sh)] from rfl]
     refine aG E.g E.bC (BK 0 E.jb.1 rfl rfl) ?_
     have hcq : (pT [q]).length <= 1 := atJ _ _
     refine Gk E.c6.1 rfl (BK 1 E.jb.1 rfl rfl) rfl Q.z ?_
     refine Gk E.n8.1 rfl (BK 2 E.jb.1 rfl rfl) rfl Q.z (au (au ⟨some (.sh q.d), some (.tup [.sh .any, .sh .any, .sh .any]), ?_⟩))
     have ec : pT [q] = (It.jZ q).call.toList := by cases q <;> rfl
     rw [← ec, ash, ash, ash, ash]
     rfl
   . have ht : x.told = false := by simpa using ht
     have hj : x.j cur = x.sj := by cases x <;> first | rfl | cases ht
     have ha : x.af cur = cur := by cases x <;> first | rfl | cases ht
     have hc : x.call = none := by cases x <;> first | rfl | cases ht
     rw [ht] at hmk
     refine cT (Ru (l := mz) (aE (ah (v_ (d := .tup (.str x.sj.w :: x.sj.ds)) E.DU.1)) Q.c Xg) (ah (De E.vz E.R6)) rfl rfl).1 (fun hp => ?_) (fun hp => by rw [show decide (x.sj.w ∈ mz) = true from hmk] at hp; cases hp)
     refine iA E.c6.1 rfl (cj (d := x.d) (aA E.DU) (Xe x)) rfl Q.z (au (au ⟨some (.sh x.d), o6, ?_⟩))
     rw [hj, hc, show (fun c => x.af c) cur = cur from ha, show (none : Option Str).toList = [] from rfl, asj, ash, ash]
     rfl
 case fin =>
   rintro δ ⟨o5, o6, rfl⟩
   rw [arL, asN]
   exact aY (mw (aN (vM E.bC.1) (aN (vM E.c6.1) (aN (vM E.n8.1) b8))) Q.r) rfl
theorem dZ : jf (ak oR) ([("script", ao), ("boxes", ao), ("behind", ao), ("rows", ao), ("called", ao), ("part", ao), ("step", ao), ("list", av), ("MARKS", av), ("all_done", av)]) = true := Q.j
theorem IU : aH ["script", "boxes", "behind", "rows", "called", "part", "step"] ["script", "boxes"] (ak oR) := aM
def Sm : Nat -> L3.D -> Prop
 | _, .int _ => True
 | _, .str _ => True
 | n + 1, .lst ds => ds.length <= 1000 /\ ∀ d ∈ ds, Sm n d
 | n + 1, .tup ds => ds.length <= 1000 /\ ∀ d ∈ ds, Sm n d
 | _, _ => False
theorem IV {ds : Q.k} (h : j < ds.length) : AJ ds (j : Int) = some ds[j] := cV (arZ h)
abbrev s_same : Stmt := top 53
abbrev Pw : Type := L3.D
def n9 : Pw -> List L3.D := fun d => [d, d]
def fj (dd : Nat) : Pw -> Prop := fun d => Sm dd d
def oh : Pw -> T := fun d => (.sh (.bl true) : T)
structure ag4 (X : Cx) (CL : Q.e) (dd : Nat) : Prop extends bP X where
 bL : Ln X 0 "found"
 j6 : Ln X 1 "due"
 k7 : Ln X 2 "k"
 bN : Gl X "isinstance"
 yJ : Gl X "str"
 GJ : Gl X "int"
 g_bool : Gl X "bool"
 bH : Gl X "list"
 oN : Gl X "tuple"
 c7 : Gl X "len"
 b6 : Gl X "range"
 eo : Gl X "_law_same"
 bO : X.mg "isinstance" = none
 qB : X.mg "str" = none
 GK : X.mg "int" = none
 ag5 : X.mg "bool" = none
 bI : X.mg "list" = none
 oO : X.mg "tuple" = none
 c9 : X.mg "len" = none
 b7 : X.mg "range" = none
 oi : ∀ d', d' < dd -> Fc X CL "_law_same" (1 + d') 2 n9 (fj d') oh
theorem ag6 {dd : Nat} (E : ag4 X CL dd) {d} (h : fj dd d) :
   ay X CL b s_same ["found", "due", "k"] (n9 d) (oh d) := by
 dsimp only [ay, fj, n9, oh] at h ⊢
 cases d with
 | int i =>
   refine cT (g6 (isS E.bO E.qB E.bN E.yJ (aA E.j6))) Q.bt (fun _ => au ?_)
   refine cT (g6 (isI E.bO E.GK E.bN E.GJ (aA E.j6))) (fun hp => ?_) Q.bt
   refine aY (Hu (isI E.bO E.GK E.bN E.GJ (aA E.bL)) (fun hb => (Hu (afP (isB E.bO E.ag5 E.bN E.g_bool (aA E.bL))) (fun Uc => (Ht (eU (aA E.bL) (aA E.j6)).2))))) ?_
   simp
 | str x =>
   refine cT (g6 (isS E.bO E.qB E.bN E.yJ (aA E.j6))) (fun hp => ?_) Q.bt
   refine aY (Hu (isS E.bO E.qB E.bN E.yJ (aA E.bL)) (fun hb => (Ht (d7 (aA E.bL) (aA E.j6)).2))) ?_
   simp
 | lst ds =>
   obtain ⟨n, rfl⟩ : ∃ n, dd = n + 1 := by
     cases dd with
     | zero => exact absurd h (by intro z; cases z)
     | succ n => exact ⟨n, rfl⟩
   obtain ⟨hl, hd⟩ : ds.length <= 1000 /\ ∀ d ∈ ds, Sm n d := h
   refine cT (g6 (isS E.bO E.qB E.bN E.yJ (aA E.j6))) Q.bt (fun _ => au ?_)
   refine cT (g6 (isI E.bO E.GK E.bN E.GJ (aA E.j6))) Q.bt (fun _ => au ?_)
   refine cT Q.ci (fun hp => absurd hp Q.i) (fun _ => au ?_)
   refine cT (pN (ah (BG E.c9 (aA E.bL) E.c7)) (ah (BG E.c9 (aA E.j6) E.c7))).1 (fun hp => by simp at hp) (fun _ => au ?_)
   refine eO E.g E.k7 (fun j δ => ∃ o, δ = [some (.sh (.lst ds)), some (.sh (.lst ds)), o])
     (d9 E.b7 (ah (BG E.c9 (aA E.j6) E.c7)) Q.a E.b6) ⟨_, rfl⟩ Q.aG ?turn ?fin
   case turn =>
     rintro j d δ hj ⟨o, rfl⟩
     obtain ⟨rfl, qR⟩ := gK hj
     have qR : j < ds.length := by omega
     rw [as3]
     refine cT (tE (g6 (c_ ds[j] (E.oi n Q.a) E.eo (ai (bz (aA E.bL) Q.G (IV qR)) (ai (bz (aA E.j6) Q.G (IV qR)) aB)) (by dsimp only [fj]; exact hd _ (List.getElem_mem _)) rfl))) (fun hp => by cases hp) (fun _ => au (au ⟨_, rfl⟩))
   case fin =>
     rintro δ ⟨o, rfl⟩
     exact aY tu rfl
 | tup ds =>
   obtain ⟨n, rfl⟩ : ∃ n, dd = n + 1 := by
     cases dd with
     | zero => exact absurd h (by intro z; cases z)
     | succ n => exact ⟨n, rfl⟩
   obtain ⟨hl, hd⟩ : ds.length <= 1000 /\ ∀ d ∈ ds, Sm n d := h
   refine cT (g6 (isS E.bO E.qB E.bN E.yJ (aA E.j6))) Q.bt (fun _ => au ?_)
   refine cT (g6 (isI E.bO E.GK E.bN E.GJ (aA E.j6))) Q.bt (fun _ => au ?_)
   refine cT Q.ci (fun hp => absurd hp Q.i) (fun _ => au ?_)
   refine cT (pN (ah (Hv E.c9 (aA E.bL) E.c7)) (ah (Hv E.c9 (aA E.j6) E.c7))).1 (fun hp => by simp at hp) (fun _ => au ?_)
   refine eO E.g E.k7 (fun j δ => ∃ o, δ = [some (.sh (.tup ds)), some (.sh (.tup ds)), o])
     (d9 E.b7 (ah (Hv E.c9 (aA E.j6) E.c7)) Q.a E.b6) ⟨_, rfl⟩ Q.aG ?turn ?fin
   case turn =>
     rintro j d δ hj ⟨o, rfl⟩
     obtain ⟨rfl, qR⟩ := gK hj
     have qR : j < ds.length := by omega
     rw [as3]
     refine cT (tE (g6 (c_ ds[j] (E.oi n Q.a) E.eo (ai (aE (aA E.bL) Q.G (IV qR)) (ai (aE (aA E.j6) Q.G (IV qR)) aB)) (by dsimp only [fj]; exact hd _ (List.getElem_mem _)) rfl))) (fun hp => by cases hp) (fun _ => au (au ⟨_, rfl⟩))
   case fin =>
     rintro δ ⟨o, rfl⟩
     exact aY tu rfl
 | non => exact absurd h Q.bj
 | bl _ => exact absurd h Q.bj
 | ins _ _ => exact absurd h Q.bj
 | any => exact absurd h Q.bj
 | BE _ => exact absurd h Q.bj
 | dct _ => exact absurd h Q.bj
 | val _ => exact absurd h Q.bj
theorem jy : jf (ak s_same) ([("found", ao), ("due", ao), ("k", ao), ("isinstance", av), ("str", av), ("int", av), ("bool", av), ("list", av), ("tuple", av), ("len", av), ("range", av), ("_law_same", av)]) = true := Q.j
theorem R7 : aH ["found", "due", "k"] ["found", "due"] (ak s_same) := aM
abbrev oU : Stmt := top 47
abbrev oV : Type := J × Bool × List Int
def jj : oV -> List L3.D := fun (r, back, ops) => [r.d, .lst (ops.map .int), .str (if back then "out" else "in"), .str (if back then "in" else "out")]
def jk : oV -> Prop := fun (r, back, ops) => ops.length < 60 /\ ∃ m b, r.ok (ops, m, b)
def jl : oV -> T := fun (r, back, ops) => (.sh (.lst ((A2 back r ops).map .int)) : T)
structure Mb (X : Cx) (CL : Q.e) : Prop extends bP X where
 eZ : Ln X 0 "row"
 akz : X.env.kindOf "row" = some .cell
 cN : Ln X 1 "opens"
 XY : Ln X 2 "coming"
 j7 : Ln X 3 "going"
 f9 : Gl X "sorted"
 gb : X.mg "sorted" = none
theorem Mf (E : Mb X CL) {aW : oV} (h : jk aW) :
   ay X CL b oU ["row", "opens", "coming", "going"] (jj aW) (jl aW) := by
 obtain ⟨r, back, ops⟩ := aW
 dsimp only [ay, jk, jj, jl] at h ⊢
 obtain ⟨hl, _, _, h⟩ := h
 have h2 : decide (r.w = (if back then "in" else "out" : Str)) = r.comes (!back) := by
   have := W4 h (!back)
   cases back <;> exact this
 refine cT (d7 (aE (aA E.eZ) Q.c (W5 r)) (aA E.XY)).1 (fun hp => ?_) (fun hp => au ?_)
 . rw [W4 h back] at hp
   obtain ⟨m, e1, e2⟩ := abQ hp ops
   have NV : AJ (L3.D.str r.w :: r.ds) 1 = some (.int m) := by rw [e1]; rfl
   refine aY (iO (kH (l := ops ++ [m]) E.gb (Rq (uW (ds := ops.map .int) (Wk := [.int m]) (aA E.cN) (ck (ds := [.int m]) (gu (ds := [.int m]) (aJ (cj (aE (aA E.eZ) Q.c NV) rfl) dh) Q.r)) (bJ _) rfl (asu (bS Q.z))) (by rw [ash]; rfl)) Q.z E.f9)) ?_
   rw [← e2]
 . rw [W4 h back] at hp
   refine cT (d7 (aE (aA E.eZ) Q.c (W5 r)) (aA E.j7)).1 (fun hq => ?_) (fun hq => au ?_)
   . rw [h2] at hq
     obtain ⟨m, e1, e2⟩ := akn hq ops
     have NV : AJ (L3.D.str r.w :: r.ds) 1 = some (.int m) := by rw [e1]; rfl
     refine aY (iO (ds := (ops.filter Q.V).map .int) (aP (mK (p := fun d => !decide (d.AV = m)) (g := fun d => T.sh d) (cL (.cons E.eZ.1 (.inl E.akz) .nil) Q.d) E.g.calm (dN (v_ E.cN.1)) (.inr rfl) (fun C s0 H0 f0 b' d hd => ?Br) (asu (bS Q.z))) ?eq)) ?fin
     case Br =>
       obtain ⟨x, hx, rfl⟩ := ase.mp hd
       exact ⟨(pN Q.aF (aE Q.aO Q.c NV)).1, fun _ => v_ Q.am⟩
     case eq =>
       refine congrArg T.lst ?_
       rw [atf]
       rfl
     case fin =>
       rw [← e2]
   . rw [h2] at hq
     refine aY (v_ E.cN.1) ?_
     show T.sh _ = T.sh (.lst ((A2 back r ops).map .int))
     rw [abR hp hq]
theorem iT : jf (ak oU) ([("row", .cell), ("opens", ao), ("coming", ao), ("going", ao), ("sorted", av)]) = true := Q.j
theorem IW : aH ["row", "opens", "coming", "going"] ["row", "opens", "coming", "going"] (ak oU) := aM
abbrev oW : Stmt := top 48
abbrev oX : Type := J × Bool × List Int
def jm : oX -> List L3.D := fun (r, back, ms) => [r.d, .lst (ms.map .int), .int (if back then 2 else 3)]
def jn : oX -> Prop := fun (r, back, ms) => ∃ o b, r.ok (o, ms, b)
def jo : oX -> T := fun (r, back, ms) => (.lst (((Lw back r ms).map .int).map T.sh) : T)
structure Mg (X : Cx) (CL : Q.e) : Prop extends bP X where
 eZ : Ln X 0 "row"
 cJ : Ln X 1 "memory"
 lq : Ln X 2 "place"
 bC : Ln X 3 "behind"
 bH : Gl X "list"
 bI : X.mg "list" = none
theorem Mh (E : Mg X CL) {aW : oX} (h : jn aW) :
   ay X CL b oW ["row", "memory", "place", "behind"] (jm aW) (jo aW) := by
 obtain ⟨r, back, ms⟩ := aW
 dsimp only [ay, jn, jm, jo] at h ⊢
 obtain ⟨o, m, h⟩ := h
 refine aG E.g E.bC (nB E.bI (v_ E.cJ.1) E.bH aT) ?_
 refine cT (d7 (aE (aA E.eZ) Q.c (W5 r)) (ah aX)).1 (fun hp => ?_) (fun hp => au ?_)
 . rw [show decide (r.w = Str.ofString "keep") = r.O1 from aeB h] at hp
   cases r with
   | keep x p q =>
     have h : 0 <= x /\ x < ms.length := h
     have hlen : ((ms.map L3.D.int).map T.sh).length = ms.length := by simp
     have NV : AJ [L3.D.str "keep", .int x, .int p, .int q] (if back then 2 else 3) = some (.int (if back then p else q)) := by cases back <;> rfl
     refine La E.bC.1 (cj (aE (aA E.eZ) (aA E.lq) NV) rfl) (aE (aA E.eZ) Q.c rfl) rfl (C7 h.1 (by rw [hlen]; exact h.2)) (au ?_)
     refine aY (vM E.bC.1) ?_
     show T.lst _ = T.lst _
     rw [Lw, ats, ats]
   | _ => cases hp
 . rw [show decide (r.w = Str.ofString "keep") = r.O1 from aeB h] at hp
   have e : Lw back r ms = ms := by cases r <;> first | rfl | cases hp
   refine aY (vM E.bC.1) ?_
   show T.lst _ = T.lst (((Lw back r ms).map .int).map T.sh)
   rw [e]
theorem j8 : jf (ak oW) ([("row", ao), ("memory", ao), ("place", ao), ("behind", ao), ("list", av)]) = true := Q.j
theorem IX : aH ["row", "memory", "place", "behind"] ["row", "memory", "place"] (ak oW) := aM
abbrev zc : Stmt := top 49
abbrev DV : Type := k6
def oj : DV -> List L3.D := fun s => [xC s]
def om : DV -> Prop := fun s => True
def oq : DV -> T := fun s => (Lv s : T)
structure XZ (X : Cx) (CL : Q.e) : Prop extends bP X where
 dB : Ln X 0 "state"
 bH : Gl X "list"
 bI : X.mg "list" = none
theorem X3 (E : XZ X CL) {s} (h : om s) :
   ay X CL b zc ["state"] (oj s) (oq s) := by
 dsimp only [ay, om, oj, oq] at h ⊢
 exact aY (mw (aN (nB E.bI (i9 (v_ E.dB.1) Q.c rfl) E.bH aT) (aN (nB E.bI (i9 (v_ E.dB.1) Q.c rfl) E.bH aT) (aN (nB E.bI (i9 (v_ E.dB.1) Q.c rfl) E.bH aT) b8))) Q.r) rfl
theorem GV : jf (ak zc) ([("state", ao), ("list", av)]) = true := Q.j
theorem Uz : aH ["state"] ["state"] (ak zc) := aM
abbrev zf : Stmt := top 45
abbrev zg : Type := Bool × List J × k6
def ou : zg -> List L3.D := fun (l, rs, s) => [qX l (rs.map J.d), xC s]
def jE : zg -> Prop := fun (l, rs, s) => rs.length <= 100000 /\ Fits false rs s
def ow : zg -> T := fun (l, rs, s) => (Lv (rs.foldl (dU false) s) : T)
structure X4 (X : Cx) (CL : Q.e) : Prop extends bP X where
 c6 : Ln X 0 "rows"
 dB : Ln X 1 "state"
 iU : Ln X 2 "stand"
 eZ : Ln X 3 "row"
 lP : Gl X "with_mood"
 lQ : Gl X "with_keep"
 IJ : Gl X "AFTER"
 um : Gl X "redone"
 uo : Gl X "copied"
 uq : Fc X CL "with_mood" 1 4 jj jk jl
 ur : Fc X CL "with_keep" 1 3 jm jn jo
 IK : ∃ u, X.mg "AFTER" = some (.int 3 u)
 DT : Fc X CL "redone" 2 2 nY n5 n6
 DW : Fc X CL "copied" 1 1 oj om oq
theorem X5 (E : X4 X CL) {aW : zg} (h : jE aW) :
   ay X CL b zf ["rows", "state", "stand", "row"] (ou aW) (ow aW) := by
 obtain ⟨l, rs, s⟩ := aW
 dsimp only [ay, jE, ou, ow] at h ⊢
 obtain ⟨hl, hf⟩ := h
 refine aG E.g E.iU (v_ E.dB.1) ?_
 show ic X CL b _ _ { nx := _, rt := fun T4 _ => T4 = Lv (rs.foldl (dU false) s), bk := _, ct := _ }
 have hti : ∀ (p p2 p3 p4 : Pos) (o2 o3 : Q.L), K7 X CL b (.Name "row" p) (.Name "rows" p2) [some (.sh (qX l (rs.map J.d))), some (.sh (xC s)), o2, o3] (rs.map J.d) [some (.sh (qX l (rs.map J.d))), some (.sh (xC s)), o2, o3] := by
   intro p p2 p3 p4 o2 o3
   exact WC (v_ E.c6.1)
 refine eO E.g E.eZ (fun j δ => ∃ st o3, Fits false (rs.drop j) st /\ (rs.drop j).foldl (dU false) st = rs.foldl (dU false) s /\ δ = [some (.sh (qX l (rs.map J.d))), some (.sh (xC s)), some (.sh (xC st)), o3])
   (hti _ _ default default _ _) ⟨s, none, hf, rfl, rfl⟩ (fun j δ ⟨_, _, _, _, e⟩ => by subst e; exact arN rfl) ?turn ?fin
 case turn =>
   rintro j d δ hj ⟨st, o3, h1, h2, rfl⟩
   obtain ⟨r, rfl, _, _, _, hd, _⟩ := iC hj
   rw [hd] at h1 h2
   obtain ⟨k1, k2, k3⟩ := h1
   refine aG E.g E.iU (oG (d := xC (dU false st r)) (mw (aN (cF (r, false, st.1) E.uq E.lP (aJ (v_ E.eZ.1) (aJ (i9 (v_ E.iU.1) Q.c rfl) (aJ aX (aJ aX dh)))) (show st.1.length < 60 /\ ∃ m b, r.ok (st.1, m, b) from ⟨k1, _, _, k2⟩))
     (aN (c_ (r, false, st.2.1) E.ur E.lQ (ai (aA E.eZ) (ai (aE (aA E.iU) Q.c rfl) (ai (ah (fH E.IK E.IJ)) aB))) (show ∃ o b, r.ok (o, st.2.1, b) from ⟨_, _, k2⟩) (aU _))
     (aN (c_ (r, st.2.2) E.DT E.um (ai (aA E.eZ) (ai (aE (aA E.iU) Q.c rfl) aB)) (show ∃ o m, r.ok (o, m, st.2.2) from ⟨_, _, k2⟩) (aU _)) b8))) Q.r) ?dJ) ?_
   case dJ =>
     show T.dJ (.tup [.sh (.lst ((A2 false r st.1).map .int)), .lst (((Lw false r st.2.1).map .int).map T.sh), .lst (((xD false r st.2.2).map .int).map T.sh)]) = _
     rw [T.dJ, T.ez, T.ez, T.ez, T.ez, T.dJ, T.dJ, T.dJ, eV, eV]
     rfl
   exact au ⟨dU false st r, some (.sh r.d), k3, h2, rfl⟩
 case fin =>
   rintro δ ⟨st, o3, h1, h2, rfl⟩
   rw [arL, List.drop_length] at h2
   refine aY (c_ st E.DW E.uo (ai (aA E.iU) aB) trivial (ng _)) ?_
   have h2 : st = rs.foldl (dU false) s := h2
   rw [← h2]
   rfl
theorem iV : jf (ak zf) ([("rows", ao), ("state", ao), ("stand", ao), ("row", ao), ("with_mood", av), ("with_keep", av), ("AFTER", av), ("redone", av), ("copied", av)]) = true := Q.j
theorem UA : aH ["rows", "state", "stand", "row"] ["rows", "state"] (ak zf) := aM
abbrev zj : Stmt := top 38
abbrev zk : Type := J × List Int
def rW : zk -> List L3.D := fun (r, bs) => [r.d, .lst (bs.map .int)]
def rX : zk -> Prop := fun (r, bs) => ∃ o m, r.ok (o, m, bs)
def rY : zk -> T := fun (r, bs) => (.lst (((xD true r bs).map .int).map T.sh) : T)
structure X6 (X : Cx) (CL : Q.e) : Prop extends bP X where
 eZ : Ln X 0 "row"
 bU : Ln X 1 "boxes"
 ji : Gl X "with_number"
 DX : Gl X "BEFORE"
 pZ : Fc X CL "with_number" 1 3 gQ gR gS
 DY : ∃ u, X.mg "BEFORE" = some (.int 2 u)
theorem X7 (E : X6 X CL) {aW : zk} (h : rX aW) :
   ay X CL b zj ["row", "boxes"] (rW aW) (rY aW) := by
 obtain ⟨r, bs⟩ := aW
 dsimp only [ay, rX, rW, rY] at h ⊢
 exact aY (c_ (r, true, bs) E.pZ E.ji (ai (aA E.eZ) (ai (ah (fH E.DY E.DX)) Q.aE)) h (aU _)) rfl
theorem vA : jf (ak zj) ([("row", ao), ("boxes", ao), ("with_number", av), ("BEFORE", av)]) = true := Q.j
theorem UB : aH ["row", "boxes"] ["row", "boxes"] (ak zj) := aM
abbrev lz : Stmt := top 46
abbrev lA : Type := Bool × List J × k6
def gT : lA -> List L3.D := fun (l, rs, s) => [qX l (rs.map J.d), xC s]
def eH : lA -> Prop := fun (l, rs, s) => rs.length <= 100000 /\ Fits true rs.reverse s
def gU : lA -> T := fun (l, rs, s) => (Lv (rs.reverse.foldl (dU true) s) : T)
structure Fb (X : Cx) (CL : Q.e) : Prop extends bP X where
 c6 : Ln X 0 "rows"
 dB : Ln X 1 "state"
 iU : Ln X 2 "stand"
 eZ : Ln X 3 "row"
 kK : Gl X "reversed"
 lP : Gl X "with_mood"
 lQ : Gl X "with_keep"
 DX : Gl X "BEFORE"
 DZ : Gl X "undone"
 uo : Gl X "copied"
 kL : X.mg "reversed" = none
 uq : Fc X CL "with_mood" 1 4 jj jk jl
 ur : Fc X CL "with_keep" 1 3 jm jn jo
 DY : ∃ u, X.mg "BEFORE" = some (.int 2 u)
 X8 : Fc X CL "undone" 2 2 rW rX rY
 DW : Fc X CL "copied" 1 1 oj om oq
theorem Fd (E : Fb X CL) {aW : lA} (h : eH aW) :
   ay X CL b lz ["rows", "state", "stand", "row"] (gT aW) (gU aW) := by
 obtain ⟨l, rs, s⟩ := aW
 dsimp only [ay, eH, gT, gU] at h ⊢
 obtain ⟨hl, hf⟩ := h
 have exs : (rs.map J.d).reverse = rs.reverse.map J.d := by rw [List.map_reverse]
 refine aG E.g E.iU (v_ E.dB.1) ?_
 show ic X CL b _ _ { nx := _, rt := fun T4 _ => T4 = Lv (rs.reverse.foldl (dU true) s), bk := _, ct := _ }
 have hti : ∀ (p p2 p3 p4 : Pos) (o2 o3 : Q.L), K7 X CL b (.Name "row" p) (.Call (.Name "reversed" p2) [.Name "rows" p3] [] p4) [some (.sh (qX l (rs.map J.d))), some (.sh (xC s)), o2, o3] (rs.reverse.map J.d) [some (.sh (qX l (rs.map J.d))), some (.sh (xC s)), o2, o3] := by
   intro p p2 p3 p4 o2 o3
   rw [← exs]
   exact abw E.kL (v_ E.c6.1) E.kK
 generalize hxs : rs.reverse = xs at hf hti ⊢
 refine eO E.g E.eZ (fun j δ => ∃ st o3, Fits true (xs.drop j) st /\ (xs.drop j).foldl (dU true) st = xs.foldl (dU true) s /\ δ = [some (.sh (qX l (rs.map J.d))), some (.sh (xC s)), some (.sh (xC st)), o3])
   (hti _ _ _ _ _ _) ⟨s, none, hf, rfl, rfl⟩ (fun j δ ⟨_, _, _, _, e⟩ => by subst e; exact arN rfl) ?turn ?fin
 case turn =>
   rintro j d δ hj ⟨st, o3, h1, h2, rfl⟩
   obtain ⟨r, rfl, _, _, _, hd, _⟩ := iC hj
   rw [hd] at h1 h2
   obtain ⟨k1, k2, k3⟩ := h1
   refine aG E.g E.iU (oG (d := xC (dU true st r)) (mw (aN (cF (r, true, st.1) E.uq E.lP (aJ (v_ E.eZ.1) (aJ (i9 (v_ E.iU.1) Q.c rfl) (aJ aX (aJ aX dh)))) (show st.1.length < 60 /\ ∃ m b, r.ok (st.1, m, b) from ⟨k1, _, _, k2⟩))
     (aN (c_ (r, true, st.2.1) E.ur E.lQ (ai (aA E.eZ) (ai (aE (aA E.iU) Q.c rfl) (ai (ah (fH E.DY E.DX)) aB))) (show ∃ o b, r.ok (o, st.2.1, b) from ⟨_, _, k2⟩) (aU _))
     (aN (c_ (r, st.2.2) E.X8 E.DZ (ai (aA E.eZ) (ai (aE (aA E.iU) Q.c rfl) aB)) (show ∃ o m, r.ok (o, m, st.2.2) from ⟨_, _, k2⟩) (aU _)) b8))) Q.r) ?dJ) ?_
   case dJ =>
     show T.dJ (.tup [.sh (.lst ((A2 true r st.1).map .int)), .lst (((Lw true r st.2.1).map .int).map T.sh), .lst (((xD true r st.2.2).map .int).map T.sh)]) = _
     rw [T.dJ, T.ez, T.ez, T.ez, T.ez, T.dJ, T.dJ, T.dJ, eV, eV]
     rfl
   exact au ⟨dU true st r, some (.sh r.d), k3, h2, rfl⟩
 case fin =>
   rintro δ ⟨st, o3, h1, h2, rfl⟩
   rw [arL, List.drop_length] at h2
   refine aY (c_ st E.DW E.uo (ai (aA E.iU) aB) trivial (ng _)) ?_
   have h2 : st = xs.foldl (dU true) s := h2
   rw [← h2]
   rfl
theorem cQ : jf (ak lz) ([("rows", ao), ("state", ao), ("stand", ao), ("row", ao), ("reversed", av), ("with_mood", av), ("with_keep", av), ("BEFORE", av), ("undone", av), ("copied", av)]) = true := Q.j
theorem D0 : aH ["rows", "state", "stand", "row"] ["rows", "state"] (ak lz) := aM
abbrev IY : Stmt := top 50
abbrev IZ : Type := Bool × List J
def zl : IZ -> List L3.D := fun (l, rs) => [qX l (rs.map J.d)]
def qE : IZ -> Prop := fun (l, rs) => rs.length <= 1000
def zm : IZ -> T := fun (l, rs) => (.lst (((rs.filter J.told).map J.d).map T.sh) : T)
structure ag7 (X : Cx) (CL : Q.e) : Prop extends bP X where
 c6 : Ln X 0 "rows"
 vz : GT X "MARKS" ["out", "keep", "way", "in"]
theorem ag8 (E : ag7 X CL) {aW : IZ} (h : qE aW) :
   ay X CL b IY ["rows"] (zl aW) (zm aW) := by
 obtain ⟨l, rs⟩ := aW
 dsimp only [ay, qE, zl, zm] at h ⊢
 refine aY (aP (mK (p := fun d => !decide (d.at1.toS ∈ fK)) (g := fun d => T.sh d) (cL .nil Q.d) E.g.calm (WC (v_ E.c6.1)) (.inr rfl) (fun C s0 H0 f0 b' d hd => ?Br) (asu (bS Q.z))) ?eq) rfl
 case Br =>
   obtain ⟨r, hr, rfl⟩ := ase.mp hd
   exact ⟨(abe (l := fK) (aE Q.aF Q.c (W5 r)) (ah (De (by exact E.vz) (jS Q.d))) rfl rfl).1, fun _ => v_ Q.am⟩
 case eq =>
   refine congrArg T.lst ?_
   rw [atf]
   rfl
theorem acv : jf (ak IY) ([("rows", ao)]) = true := Q.j
theorem acw : aH ["rows"] ["rows"] (ak IY) := aM
abbrev Cq : Stmt := top 58
abbrev Cr : Type := List Int × List Str × List Int
def vC : Cr -> List L3.D := fun (es, ks, ch) => [.lst Q.P, .lst (ks.map .str), .lst (ch.map .int)]
def qF : Cr -> Prop := fun (es, ks, ch) => es.length <= 900 /\ 0 < es.length /\ ks.length = es.length /\ ch.length = es.length /\ dD es
def vD : Cr -> T := fun (es, ks, ch) => (.lst (((cu Q.g es ch Q.f).map .int).map T.sh) : T)
structure acy (X : Cx) (CL : Q.e) : Prop extends bP X where
 bB : Ln X 0 "elders"
 gC : Ln X 1 "kinds"
 f6 : Ln X 2 "chosen"
 cN : Ln X 3 "opens"
 k7 : Ln X 4 "k"
 dG : Ln X 5 "elder"
 b6 : Gl X "range"
 c7 : Gl X "len"
 b7 : X.mg "range" = none
 c9 : X.mg "len" = none
theorem acz (E : acy X CL) {aW : Cr} (h : qF aW) :
   ay X CL b Cq ["elders", "kinds", "chosen", "opens", "k", "elder"] (vC aW) (vD aW) := by
 obtain ⟨es, ks, ch⟩ := aW
 dsimp only [ay, qF, vC, vD] at h ⊢
 obtain ⟨hl, hl0, hk, hc, ht⟩ := h
 refine aG E.g E.cN (gu (aJ aj dh) Q.r) ?_
 refine eO E.g E.k7 (fun j δ => ∃ o o', δ = [some (.sh (.lst Q.P)), some (.sh (.lst (ks.map .str))), some (.sh (.lst (ch.map .int))), some (.lst (((cu Q.g es ch j).map .int).map T.sh)), o, o'])
   (Gb E.b7 Q.c (ah (dY (arL ..) E.c9 (aA E.bB) E.c7)) Q.a E.b6) ⟨_, _, rfl⟩ Q.aA ?turn ?fin
 case turn =>
   rintro j d δ hj ⟨o, o', rfl⟩
   obtain ⟨rfl, qR⟩ := gK hj
   have X9 := oJ (isAll := aq ks) (es := es) (ch := ch) j
   have ej : (1 + (j : Int)).toNat = j + 1 := by omega
   have ejI : (1 + (j : Int)) = ((j + 1 : Nat) : Int) := by omega
   refine aG E.g E.dG (aP (cj (bz (aA E.bB) Q.G Q.ag) rfl) (congrArg (fun z => T.sh (.int (es.getD z 0))) ej)) ?_
   have ha := ht Q.l Q.a
   show ic X CL b _ _ { nx := fun δ => ∃ o o', δ = [_, _, _, some (.lst (((cu Q.g es ch Q.l).map .int).map T.sh)), o, o'], rt := _, bk := _, ct := _ }
   rw [cu]
   generalize es.getD Q.l 0 = x at ha ⊢
   have hx0 : x ∈ cu Q.g es ch j -> 0 <= x := fun hx => (fz j hx).1
   refine cT (pO (nA (yk (aA E.dG) (vL E.cN.1) (rfl) rfl).1 (fun hb => (kW (pO (tF (d7 (bz (aA E.gC) (aA E.dG) (dP Str.empty (hx0 (ar0 hb)) Q.a)) (ah aX)).1 (fun Uc => (pP (eU (bz (aA E.f6) (aA E.dG) (cY (hx0 (ar0 hb)) Q.a)) Q.G).1)))))))) (fun hp => ?_) (fun hp => au (au ?_))
   . simp only [asa, aua, asI] at hp
     refine iA E.cN.1 rfl (v_ E.k7.1) rfl Q.z (au (au ?_))
     rw [arU ⟨hp.1, hp.2.elim (fun z => .inl (asK z)) (fun z => .inr (by rw [z, ejI]))⟩]
     have e1 : ((cu Q.g es ch j).map L3.D.int).map T.sh ++ [T.sh (.int (1 + (j : Int)))] = ((cu Q.g es ch j ++ [((j + 1 : Nat) : Int)]).map L3.D.int).map T.sh := by
       rw [ejI]; simp
     rw [e1]
     exact ⟨_, _, rfl⟩
   . rw [arS (fun z => by
       have : (decide (x ∈ cu Q.g es ch j) && (decide (ks.getD x.toNat Str.empty = "all") || decide (ch.getD x.toNat 0 = 1 + (j : Int)))) = true := by
         simp only [asa, aua, asI]
         exact ⟨z.1, z.2.elim (fun z => .inl (ar0 z)) (fun z => .inr (by rw [z, ejI]))⟩
       rw [this] at hp
       cases hp)]
     exact ⟨_, _, rfl⟩
 case fin =>
   rintro δ ⟨o, o', rfl⟩
   have e : (bV 1 ((es.length : Int) - 1).toNat).length = es.length - 1 := by simp [bV]
   rw [e]
   exact aY (vM E.cN.1) rfl
theorem lR : jf (ak Cq) ([("elders", ao), ("kinds", ao), ("chosen", ao), ("opens", ao), ("k", ao), ("elder", ao), ("range", av), ("len", av)]) = true := Q.j
theorem Yb : aH ["elders", "kinds", "chosen", "opens", "k", "elder"] ["elders", "kinds", "chosen"] (ak Cq) := aM
abbrev lB : Stmt := top 71
abbrev lC : Type := List L3.D × List Int × List Str × List Int × List L3.D × List L3.D × List L3.D × List Int
def jz : lC -> List L3.D := fun (bs, es, ks, ss, is, os, ws, ops) => [gF bs es ks ss is os ws, .lst (ops.map .int)]
def gV : lC -> Prop := fun (bs, es, ks, ss, is, os, ws, ops) => es.length <= 900 /\ 0 < es.length /\ ks.length = es.length /\ ss.length = es.length /\ ops.length <= 1000 /\ dD es /\ cu Q.g es (OU (aZ ks) es ss ops es.length) Q.f = ops
def jA : lC -> T := fun (bs, es, ks, ss, is, os, ws, ops) => (.sh (.bl true) : T)
structure Fe (X : Cx) (CL : Q.e) : Prop extends bP X where
 bf : Ln X 0 "parts"
 jd : Ln X 1 "some"
 ag9 : X.env.kindOf "some" = some .cell
 f6 : Ln X 2 "chosen"
 k7 : Ln X 3 "k"
 iE : Ln X 4 "near"
 bH : Gl X "list"
 b6 : Gl X "range"
 c7 : Gl X "len"
 j0 : Gl X "_law_inner"
 eo : Gl X "_law_same"
 I0 : Gl X "_law_opens"
 bI : X.mg "list" = none
 b7 : X.mg "range" = none
 c9 : X.mg "len" = none
 nS : Fc X CL "_law_inner" 1 2 iR eW gD
 oi : Fc X CL "_law_same" 9 2 n9 (fj 8) oh
 acA : Fc X CL "_law_opens" 1 3 vC qF vD
theorem Ff (E : Fe X CL) {aW : lC} (h : gV aW) :
   ay X CL b lB ["parts", "some", "chosen", "k", "near"] (jz aW) (jA aW) := by
 obtain ⟨bs, es, ks, ss, is, os, ws, ops⟩ := aW
 dsimp only [ay, gV, jz, jA] at h ⊢
 obtain ⟨hl, hl0, hk, hs, ho, ht, heq⟩ := h
 refine aG E.g E.f6 (cG E.bI Q.M (bJ ss) E.bH aT) ?_
 refine eO E.g E.k7 (fun j δ => ∃ ch o5 o6, (ch.length = es.length /\ ∀ i : Nat, i < es.length -> ch.getD i 0 = if i < j then Lk (aZ ks) es ss ops i else ss.getD i 0) /\ δ = [some (.sh (gF bs es ks ss is os ws)), some (.sh (.lst (ops.map .int))), some (.lst ((ch.map .int).map T.sh)), o5, o6])
   (d9 E.b7 (ah (dY (show (ss.map L3.D.int).length = es.length by rw [arL]; exact hs) E.c9 (vL E.f6.1) E.c7)) Q.a E.b6) ⟨ss, _, _, ⟨hs, fun i _ => by rw [arS Q.a]⟩, rfl⟩ (fun j δ ⟨_, _, _, _, e⟩ => by subst e; exact arN rfl) ?turn ?fin
 case turn =>
   rintro j d δ hj ⟨ch, o5, o6, ⟨pR, KL⟩, rfl⟩
   obtain ⟨rfl, qR⟩ := gK hj
   rw [as3]
   have qR : j < es.length := by omega
   have hil := HM es (j : Int)
   refine xo (p := fun d => decide (d.AV ∈ ops)) (gg := fun d => T.sh d) E.g E.iE (cL (.cons E.jd.1 (.inl E.ag9) .nil) Q.d)
     (dN (iO (c_ (es, (j : Int)) E.nS E.j0 (ai Q.M (ai Q.G aB)) (by dsimp only [eW]; omega) (aU _)))) (.inr rfl) (fun C s0 H0 f0 b' d hd => ?Br) (Nat.le_of_lt (bS Q.z)) ?rest (by exact Nat.le_of_ble_eq_true rfl) (nF ⟨_, rfl⟩)
   case Br =>
     obtain ⟨x, hx, rfl⟩ := ase.mp hd
     exact ⟨(yk (l := ops) Q.aF Q.aO rfl rfl).1, fun _ => v_ Q.am⟩
   have em : (((gf es (j : Int)).map L3.D.int).filter (fun d => decide (d.AV ∈ ops))).map (fun d => T.sh d) = ((oK es ops j).map L3.D.int).map T.sh := by
     rw [atf]
     rfl
   rw [em]
   have hnl : ((oK es ops (j : Int)).map L3.D.int).length = (oK es ops (j : Int)).length := arL ..
   have next : ∀ v : Int, v = Lk (aZ ks) es ss ops j -> ∀ i : Nat, i < es.length -> (ch.set j v).getD i 0 = if i < j + 1 then Lk (aZ ks) es ss ops i else ss.getD i 0 := fun v hv i hi => by
     by_cases e : i = j
     . subst e
       rw [arU Q.a, arM, as4 Q.a, hv]
       rfl
     . rw [arM, atr Q.a, ← arM, KL i hi]
       by_cases e2 : i < j
       . rw [arU e2, arU Q.a]
       . rw [arS e2, arS Q.a]
   refine cT (pO (nA (d7 (bz Q.M Q.G (dP Str.empty Q.a Q.a)) (ah aX)).1 (fun _ => kW (Ga (ah (dY hnl E.c9 (vL E.iE.1) E.c7)) Q.c).1))) (fun hp => ?_) (fun hp => au (au ?_))
   . simp only [asa, asI] at hp
     have ho1 : aZ ks j = true := asK hp.1
     have qm : oK es ops (j : Int) ≠ [] := fun z => by rw [z] at hp; simp at hp
     have aeI : ((ch.map L3.D.int).map T.sh).length = ch.length := by simp
     refine La E.f6.1 (cj (bz (vL E.iE.1) Q.c Q.ag) rfl) Q.G rfl (C7 Q.a (by rw [aeI]; omega)) (au (au ?_))
     rw [← ats, ← ats]
     refine ⟨_, _, _, ⟨by rw [asU]; exact pR, next _ ?_⟩, rfl⟩
     unfold Lk
     rw [arU ⟨ho1, qm⟩]
     rfl
   . refine ⟨ch, _, _, ⟨pR, fun i hi => ?_⟩, rfl⟩
     rw [KL i hi]
     by_cases e : i = j
     . subst e
       rw [arS Q.a, arU Q.a]
       unfold Lk
       rw [arS (fun z => by
         have h1 : ks.getD i Str.empty = "one" := ar0 z.1
         have h2 : 0 < (oK es ops (i : Int)).length := List.length_pos_iff.mpr z.2
         have : (decide (ks.getD i Str.empty = "one") && decide ((0 : Int) < ((oK es ops (i : Int)).length : Nat))) = true := by
           rw [asK h1, asK Q.a]; rfl
         rw [show (decide (ks.getD ((i : Int)).toNat Str.empty = "one") && decide ((0 : Int) < ((oK es ops (i : Int)).length : Nat))) = true from this] at hp
         cases hp)]
     . by_cases e2 : i < j
       . rw [arU e2, arU Q.a]
       . rw [arS e2, arS Q.a]
 case fin =>
   rintro δ ⟨ch, o5, o6, ⟨pR, KL⟩, rfl⟩
   have e : (bV 0 (es.length : Int).toNat).length = es.length := by simp [bV]
   rw [e] at KL
   have hcn : ch = OU (aZ ks) es ss ops es.length := by
     apply Dp
     . rw [pR]; simp [OU]
     . intro i hi
       rw [KL i Q.a, arU Q.a, RG _ _ _ _ Q.a]
   rw [← hcn] at heq
   refine aY (c_ (L3.D.lst (ops.map .int)) E.oi E.eo (ai (aA E.jd) (ai (Rq (c_ (es, ks, ch) E.acA E.I0 (ai Q.M (ai Q.M (ai (vL E.f6.1) aB))) (by dsimp only [qF]; exact ⟨hl, hl0, hk, pR, ht⟩) (aU _)) (congrArg (List.map L3.D.int) heq)) aB)) (by dsimp only [fj]; exact ⟨by rw [List.length_map]; exact ho, fun d hd => by obtain ⟨i, _, rfl⟩ := List.mem_map.mp hd; trivial⟩) rfl) rfl
theorem cy : jf (ak lB) ([("parts", ao), ("some", .cell), ("chosen", ao), ("k", ao), ("near", ao), ("list", av), ("range", av), ("len", av), ("_law_inner", av), ("_law_same", av), ("_law_opens", av)]) = true := Q.j
theorem D3 : aH ["parts", "some", "chosen", "k", "near"] ["parts", "some"] (ak lB) := aM
theorem Yc (n : Nat) (i : Int) : Sm n (.int i) := by cases n <;> trivial
theorem Yd (n : Nat) (x : Str) : Sm n (.str x) := by cases n <;> trivial
theorem Ct (n : Nat) (h : l.length <= 1000) : Sm (n + 1) (.lst (l.map .int)) := ⟨by rw [arL]; exact h, fun d hd => by
 obtain ⟨i, _, rfl⟩ := ase.mp hd
 exact Yc n i⟩
theorem Ye (n : Nat) (h1 : s.1.length <= 1000) (h2 : s.2.1.length <= 1000) (h3 : s.2.2.length <= 1000) : Sm (n + 2) (xC s) := ⟨arN rfl, fun d hd => by
 simp only [arP, asw, at3] at hd
 rcases hd with rfl | rfl | rfl
 . exact Ct n h1
 . exact Ct n h2
 . exact Ct n h3⟩
theorem acB (n : Nat) {d : L3.D} (h : RT d) : Sm n d := by
 rcases h with ⟨i, rfl⟩ | ⟨x, rfl⟩
 . exact Yc n i
 . exact Yd n x
theorem aha (n : Nat) (h : r.ok s) : Sm (n + 1) r.d := by
 obtain ⟨h1, h2⟩ := J.abN h
 refine ⟨by rw [ar8]; omega, fun d hd => ?_⟩
 rcases arP.mp hd with rfl | hd
 . exact Yd n _
 . exact acB n (h2 d hd)
theorem acC (n : Nat) {rs : List J} (hl : rs.length <= 1000) (h : ∀ r ∈ rs, r.ok s) : Sm (n + 2) (.lst (rs.map J.d)) := ⟨by rw [arL]; exact hl, fun d hd => by
 obtain ⟨r, hr, rfl⟩ := ase.mp hd
 exact aha n (h r hr)⟩
def Px (es : Q.b) (ks : Q.h) (ss : Q.b) (s : k6) (xs : List It) (o2 m2 : Q.b) (lg : List J) : Prop :=
 es.length <= 50 /\ 0 < es.length /\ ks.length = es.length /\ ss.length = es.length /\ o2.length <= 1000 /\ dD es /\ cu Q.g es (OU (aZ ks) es ss o2 es.length) Q.f = o2 /\ xs.length <= 1000 /\ (∀ x ∈ xs, x.ok s.2.2) /\ sS es.length s /\ s.2.2.length <= 100 /\ Go es.length xs s (o2, m2, xs.foldl It.af s.2.2) /\ lg.length <= 90000
abbrev Ja : Stmt := top 72
abbrev Jb : Type := List L3.D × List Int × List Str × List Int × List L3.D × List L3.D × List L3.D × k6 × List It × List Int × List Int × List J × Addr
def uv : Jb -> List T := fun (bs, es, ks, ss, is, os, ws, s, xs, o2, m2, lg, y) => [.sh (gF bs es ks ss is os ws), .sh (xC s), .sh Q.cc, .pin y (.lst ((lg.map J.d).map T.sh))]
def qG : Jb -> List T := fun (bs, es, ks, ss, is, os, ws, s, xs, o2, m2, lg, y) => [.sh (gF bs es ks ss is os ws), .sh (xC s), .sh Q.cc, .pin y (.lst (((lg ++ wu xs s.2.2).map J.d).map T.sh))]
def zo : Jb -> Prop := fun (bs, es, ks, ss, is, os, ws, s, xs, o2, m2, lg, y) => Px es ks ss s xs o2 m2 lg
def uw : Jb -> T := fun (bs, es, ks, ss, is, os, ws, s, xs, o2, m2, lg, y) => (.sh (xC (o2, m2, xs.foldl It.af s.2.2)) : T)
structure ahb (X : Cx) (CL : Q.e) : Prop extends bP X where
 bf : Ln X 0 "parts"
 dB : Ln X 1 "state"
 bL : Ln X 2 "found"
 D4 : Ln X 3 "log"
 ux : Ln X 4 "made"
 bC : Ln X 5 "behind"
 R8 : Ln X 6 "plain"
 oY : Gl X "performed"
 bH : Gl X "list"
 eo : Gl X "_law_same"
 uy : Gl X "walked"
 jq : Gl X "walked_back"
 Jc : Gl X "told"
 Bu : Gl X "_law_is_whole"
 A5 : Fc X CL "performed" 5 2 lu gY ly
 bI : X.mg "list" = none
 oi : Fc X CL "_law_same" 9 2 n9 (fj 8) oh
 D5 : Fc X CL "walked" 3 2 ou jE ow
 qa : Fc X CL "walked_back" 3 2 gT eH gU
 Yg : Fc X CL "told" 1 1 zl qE zm
 Fg : Fc X CL "_law_is_whole" 10 2 jz gV jA
theorem ahc (E : ahb X CL) (bs es ks ss is os ws s xs o2 m2 lg y) (h : zo (bs, es, ks, ss, is, os, ws, s, xs, o2, m2, lg, y)) :
   ic X CL b (g5 Ja) (OO ["parts", "state", "found", "log", "made", "behind", "plain"] (uv (bs, es, ks, ss, is, os, ws, s, xs, o2, m2, lg, y))) { nx := fun δ => uw (bs, es, ks, ss, is, os, ws, s, xs, o2, m2, lg, y) = .sh .non /\ Keeps δ (qG (bs, es, ks, ss, is, os, ws, s, xs, o2, m2, lg, y)), rt := fun T4 δ => T4 = uw (bs, es, ks, ss, is, os, ws, s, xs, o2, m2, lg, y) /\ Keeps δ (qG (bs, es, ks, ss, is, os, ws, s, xs, o2, m2, lg, y)) } := by
 dsimp only [zo, uv, uw, qG] at h ⊢
 obtain ⟨hl, hl0, hk, hss, X9, ht, heq, hxl, gX, hgs, hbl, Vg, hll⟩ := h
 obtain ⟨hR, hF, hB⟩ := Vg.is
 have R9 := tP Q.a hgs hR
 obtain ⟨Yh, Yi⟩ := tQ Q.a hgs hR
 have g2 := A3 hgs hR
 rw [hF] at Yh Yi g2
 have hlen : xs.foldl It.af s.2.2 = (xs.foldl It.af s.2.2) := rfl
 have ahd := DF xs s.2.2
 have qR := B5 xs s.2.2
 have hji := B6 xs s.2.2
 have hgl := hgs.len
 have Xl := hgs.mem
 have aqI := g2.len
 have anz := g2.mem
 have K1 := R9.all
 have smS : ∀ t : k6, t.1.length <= 1000 -> t.2.1.length <= 1000 -> t.2.2.length <= 1000 -> Sm 8 (xC t) := fun t h1 h2 h3 => Ye 6 h1 h2 h3
 have eT : (xs.map It.sj).map J.d = xs.map It.d := by rw [asn]; rfl
 have eF : ((xs.map It.sj).filter J.told).map J.d = (xs.filter It.told).map It.d := by
   rw [atf, asn]
   refine congrArg (List.map It.d) (auo fun x _ => Xh x)
 have htl : (xs.filter It.told).length <= xs.length := asZ ..
 have e1 := DH xs s.2.2
 have e2 := Ic xs s.2.2
 have e3 := xF xs
 have pR : (iD xs).length <= xs.length := atJ _ _
 have anA : ∀ x ∈ xs.filter It.told, x.ok s.2.2 := fun x hx => gX x (asf.mp hx).1
 have htj : D.bQ (((wu xs s.2.2).filter J.told).map J.d) = true := by rw [← e2]; exact B6 _ _
 have aqK : ((wu xs s.2.2).filter J.told).length <= (wu xs s.2.2).length := asZ ..
 have smT : Sm 7 (.lst (((wu xs s.2.2).filter J.told).map J.d)) := acC 5 Q.a (fun r hr => K1 r (asf.mp hr).1)
 have frP : (T.tup [.lst ((((xs.filter It.told).foldl It.af s.2.2).map L3.D.int).map T.sh), .lst (((wu (xs.filter It.told) s.2.2).map J.d).map T.sh), .lst (((iD (xs.filter It.told)).map L3.D.str).map T.sh)]).dJ = .tup [.lst ((xs.foldl It.af s.2.2).map .int), .lst (((wu xs s.2.2).filter J.told).map J.d), .lst ((iD xs).map .str)] := by
   rw [abW, e1, e2, e3]
 generalize hjs : wu xs s.2.2 = js at *
 generalize Uc : xs.foldl It.af s.2.2 = b2 at *
 generalize hcs : iD xs = cs at *
 have frM : (T.tup [.lst ((b2.map L3.D.int).map T.sh), .lst ((js.map J.d).map T.sh), .lst ((cs.map L3.D.str).map T.sh)]).dJ = .tup [.lst (b2.map .int), .lst (js.map J.d), .lst (cs.map .str)] := abW _ _ _
 refine aG E.g E.ux (oG (aP (c_ (true, xs, s.2.2) E.A5 E.oY (ai (aE (aA E.bL) Q.c rfl) (ai Q.bS aB)) (by dsimp only [gY]; exact ⟨hxl, gX⟩) (DG (bJ _) (B6 _ _) (iB (fun _ => rfl) _))) (t2 := .tup [.lst ((b2.map L3.D.int).map T.sh), .lst ((js.map J.d).map T.sh), .lst ((cs.map L3.D.str).map T.sh)]) (by rw [← Uc, ← hjs, ← hcs]; rfl)) frM) ?_
 refine aG E.g E.bC (fS (ds := [.lst (o2.map .int), .lst (m2.map .int), .lst (b2.map .int)]) (aN (i9 (v_ E.bL.1) Q.c rfl) (aN (i9 (v_ E.bL.1) Q.c rfl) (aN (i9 (v_ E.ux.1) Q.c rfl) b8))) Q.r) ?_
 have Xs : js.length <= 100000 := by omega
 refine cT (pO (tF (tE (g6 (c_ (xC (o2, m2, b2)) E.oi E.eo (ai (tK (AO (aP (c_ (true, js, s) E.D5 E.uy (ai (aE (aA E.ux) Q.c rfl) (ai (aA E.dB) aB)) (by dsimp only [jE]; exact ⟨Xs, R9⟩) (ng _)) (t2 := Lv (o2, m2, b2)) (by show Lv (js.foldl (dU false) s) = _; rw [hF]))) (yy (o2, m2, b2))) (ai (aA E.bC) aB)) (by dsimp only [fj]; exact smS (o2, m2, b2) (by show o2.length <= 1000; exact X9) (by show m2.length <= 1000; have : m2.length = es.length := anz; omega) (by show b2.length <= 1000; omega)) rfl)))
   (fun _ => pP (tE (g6 (c_ (xC s) E.oi E.eo (ai (tK (AO (aP (c_ (true, js, (o2, m2, b2)) E.qa E.jq (ai (aE (aA E.ux) Q.c rfl) (ai (aA E.bC) aB)) (by dsimp only [eH]; exact ⟨Xs, Yh⟩) (ng _)) (t2 := Lv s) (by show Lv (js.reverse.foldl (dU true) (o2, m2, b2)) = _; rw [Yi]))) (yy s)) (ai (aA E.dB) aB)) (by dsimp only [fj]; exact smS s Q.a Q.a Q.a) rfl)))))) (fun hp => by cases hp) (fun _ => au ?_)
 refine aG E.g E.R8 (oG (c_ (true, xs.filter It.told, s.2.2) E.A5 E.oY (ai (ck (aP (c_ (true, xs.map It.sj) E.Yg E.Jc (ai (tK (aE (aA E.bL) Q.c rfl) (congrArg L3.D.lst eT.symm)) aB) (by dsimp only [qE]; rw [List.length_map]; exact hxl) (by show (T.lst ((((xs.map It.sj).filter J.told).map J.d).map T.sh)).clean = true; rw [eF]; exact cH (mJ fun d hd => by obtain ⟨x, _, rfl⟩ := List.mem_map.mp hd; exact Xe x))) (t2 := .lst (((xs.filter It.told).map It.d).map T.sh)) (by show T.lst ((((xs.map It.sj).filter J.told).map J.d).map T.sh) = _; rw [eF]))) (ai Q.bS aB)) (by dsimp only [gY]; exact ⟨by omega, anA⟩) (DG (bJ _) (B6 _ _) (iB (fun _ => rfl) _))) frP) ?_
 have frQ : (T.tup [.sh (.lst (b2.map .int)), .lst (((js.filter J.told).map J.d).map T.sh), .sh (.lst (cs.map .str))]).dJ = .tup [.lst (b2.map .int), .lst ((js.filter J.told).map J.d), .lst (cs.map .str)] := by
   rw [T.dJ, T.ez, T.ez, T.ez, T.ez, T.dJ, T.dJ, T.dJ, eV]
 refine cT (pO (tF (tE (g6 (c_ (L3.D.tup [.lst (b2.map .int), .lst ((js.filter J.told).map J.d), .lst (cs.map .str)]) E.oi E.eo (ai (aA E.R8) (ai (tK (AO (mw (aN (i9 (v_ E.ux.1) Q.c rfl) (aN (aP (c_ (true, js) E.Yg E.Jc (ai (aE (aA E.ux) Q.c rfl) aB) (by dsimp only [qE]; omega) (cH htj)) (t2 := .lst (((js.filter J.told).map J.d).map T.sh)) rfl) (aN (i9 (v_ E.ux.1) Q.c rfl) b8))) Q.r)) frQ) aB)) (by
     dsimp only [fj]
     refine ⟨arN rfl, fun d hd => ?_⟩
     simp only [arP, asw, at3] at hd
     rcases hd with rfl | rfl | rfl
     . exact Ct 6 Q.a
     . exact smT
     . exact ⟨by rw [arL]; omega, fun d hd => by obtain ⟨i, _, rfl⟩ := ase.mp hd; trivial⟩) rfl)))
   (fun _ => pP (tE (g6 (c_ (bs, es, ks, ss, is, os, ws, o2) E.Fg E.Bu (ai Q.bb (ai (aE (aA E.bL) Q.c rfl) aB)) (by dsimp only [gV]; exact ⟨by omega, hl0, hk, hss, X9, ht, heq⟩) rfl)))))) (fun hp => by cases hp) (fun _ => au ?_)
 refine abD (ds := js.map J.d) E.D4.1 rfl (aE (aA E.ux) Q.c rfl) hji rfl (by simp only [arL]; omega) ?_
 refine aY (v_ E.bC.1) ⟨rfl, ?_⟩
 rw [ash, ash]
 exact ago
theorem g7 : jf (ak Ja) ([("parts", ao), ("state", ao), ("found", ao), ("log", ao), ("made", ao), ("behind", ao), ("plain", ao), ("performed", av), ("list", av), ("_law_same", av), ("walked", av), ("walked_back", av), ("told", av), ("_law_is_whole", av)]) = true := Q.j
theorem Sb : aH ["parts", "state", "found", "log", "made", "behind", "plain"] ["parts", "state", "found", "log"] (ak Ja) := aM
abbrev Cu : Stmt := top 10
abbrev Cv : Type := List Str × List Int × List Int × Int
def qH : Cv -> List L3.D := fun (ks, es, ss, m) => [ek ks es ss, .int m]
def kM : Cv -> Prop := fun (ks, es, ss, m) => es.length <= 1000
def qI : Cv -> T := fun (ks, es, ss, m) => (.lst (((gf es m).map .int).map T.sh) : T)
structure acD (X : Cx) (CL : Q.e) : Prop extends bP X where
 cI : Ln X 0 "tree"
 b4 : Ln X 1 "mood"
 Pa : X.env.kindOf "mood" = some .cell
 Mi : Gl X "enumerate"
 Mj : X.mg "enumerate" = none
 fC : wB X.K Q.X
 eX : bG X.K Q.X "elders"
theorem acE (E : acD X CL) {aW : Cv} (h : kM aW) :
   ay X CL b Cu ["tree", "mood"] (qH aW) (qI aW) := by
 obtain ⟨ks, es, ss, m⟩ := aW
 dsimp only [ay, kM, qH, qI] at h ⊢
 refine aY (C9 (parts := part2) (p := fun d => decide (d.at2.AV = m)) (g := fun d => T.sh d.at1) (abl (xs := ["place", "elder"]) (.cons E.b4.1 (.inl E.Pa) .nil) Q.d) E.g.calm
   (Wv (f := L3.D.int) (l := es) 0 E.Mj (HB E.fC E.eX (v_ E.cI.1) oH) E.Mi) (.inr rfl) (fun C s0 H0 f0 b' => ⟨abg (by show List.Nodup (["place", "elder", "mood"] : List Str); decide +kernel) E.g.calm (Ox rfl Q.d) (Ox rfl Q.d), fun d hd => ?Br⟩) (by rw [arL, atB]; exact asu (bS h))) (congrArg T.lst (WN es m))
 case Br =>
   obtain ⟨i, hi, rfl⟩ := ase.mp hd
   exact ⟨_, rfl, rfl, (eU (ah (v_ (dF (i := 1) rfl Q.d))) Q.bN).1, fun _ => v_ Q.am⟩
theorem zq : jf (ak Cu) ([("tree", ao), ("mood", .cell), ("enumerate", av)]) = true := Q.j
theorem Yj : aH ["tree", "mood"] ["tree", "mood"] (ak Cu) := aM
abbrev oZ : Stmt := top 21
abbrev pe : Type := List Str × List Int × List Int × List Int × Nat × Str
def lD : pe -> List L3.D := fun (ks, es, ss, mem, m, mode) => [ek ks es ss, .lst (mem.map .int), .int m, .str mode]
def lE : pe -> Prop := fun (ks, es, ss, mem, m, mode) => es.length <= 900 /\ ks.length = es.length /\ ss.length = es.length /\ mem.length = es.length /\ m < es.length /\ rm mode /\ ∀ k : Nat, k < es.length -> aR ks k = true \/ aq ks k = true \/ ks.getD k Str.empty = "one"
def lF : pe -> T := fun (ks, es, ss, mem, m, mode) => (.lst (((KJ (aR ks) Q.g es ss mem (cS mode || eG mode) m).map .int).map T.sh) : T)
structure Ml (X : Cx) (CL : Q.e) : Prop extends bP X where
 cI : Ln X 0 "tree"
 cJ : Ln X 1 "memory"
 b4 : Ln X 2 "mood"
 pV : Ln X 3 "mode"
 tS : Ln X 4 "kind"
 zu : Gl X "inner"
 Jd : Fc X CL "inner" 1 2 qH kM qI
 fC : wB X.K Q.X
 dw : bG X.K Q.X "kinds"
 pX : bG X.K Q.X "starts"
theorem Mm (E : Ml X CL) {aW : pe} (h : lE aW) :
   ay X CL b oZ ["tree", "memory", "mood", "mode", "kind"] (lD aW) (lF aW) := by
 obtain ⟨ks, es, ss, mem, m, mode⟩ := aW
 dsimp only [ay, lE, lD, lF] at h ⊢
 obtain ⟨hl, hk, hs, hm, Bo, hmo, hkd⟩ := h
 refine aG E.g E.tS (cj (bz (fN E.fC E.dw (aA E.cI) nI) (aA E.b4) (dP Str.empty Q.a Q.a)) rfl) ?_
 refine cT (d7 (aA E.tS) (ah aX)).1 (fun hp => ?_) (fun hp => au ?_)
 . refine aY Q.al ?_
   unfold KJ
   rw [arU (show aR ks m = true from hp)]
   rfl
 refine cT (d7 (aA E.tS) (ah aX)).1 (fun hq => ?_) (fun hq => au ?_)
 . refine aY (c_ ((ks, es, ss, (m : Int))) E.Jd E.zu (ai (aA E.cI) (ai (aA E.b4) aB)) ((by dsimp only [kM]; omega)) (aU _)) ?_
   unfold KJ
   rw [arS (show ¬ aR ks m = true from fun z => by rw [show aR ks m = false from hp] at z; cases z), arU (show aq ks m = true from hq)]
   rfl
 have key : KJ (aR ks) Q.g es ss mem (cS mode || eG mode) m = [jg ss mem (cS mode || eG mode) m] := by
   unfold KJ
   rw [arS (show ¬ aR ks m = true from fun z => by rw [show aR ks m = false from hp] at z; cases z), arS (show ¬ aq ks m = true from fun z => by rw [show aq ks m = false from hq] at z; cases z)]
 rw [key]
 have hu : (cS mode || eG mode) = !decide (mode = "new") := by
   unfold cS eG
   rcases hmo with e | e | e <;> rw [e] <;> decide +kernel
 refine cT (pO (tF (d7 (aA E.pV) (ah aX)).1 (fun hb => (pP (eU (bz (aA E.cJ) (aA E.b4) Q.ag) Q.ar).1)))) (fun hr => ?_) (fun hr => au ?_)
 . refine aY (gu (aJ (cj (bz (fN E.fC E.pX (aA E.cI) Lh) (aA E.b4) Q.ag) rfl) dh) Q.r) ?_
   have e : jg ss mem (cS mode || eG mode) m = ss.getD (m : Int).toNat 0 := by
     unfold jg
     rw [arS (fun z => by
       rw [hu] at z
       simp only [aua, asI] at hr
       rcases hr with w | w
       . rw [asK w] at z; cases z.1
       . exact z.2 w)]
   rw [e]
   rfl
 . refine aY (gu (aJ (cj (bz (aA E.cJ) (aA E.b4) Q.ag) rfl) dh) Q.r) ?_
   have e : jg ss mem (cS mode || eG mode) m = mem.getD (m : Int).toNat 0 := by
     unfold jg
     simp only [atF, asM] at hr
     rw [arU ⟨by rw [hu, asi hr.1]; rfl, hr.2⟩]
   rw [e]
   rfl
theorem iW : jf (ak oZ) ([("tree", ao), ("memory", ao), ("mood", ao), ("mode", ao), ("kind", ao), ("inner", av)]) = true := Q.j
theorem Je : aH ["tree", "memory", "mood", "mode", "kind"] ["tree", "memory", "mood", "mode"] (ak oZ) := aM
abbrev zv : Stmt := top 20
abbrev zx : Type := List Str × List Int × List Int × List Int × Nat × Str
def kN : zx -> List L3.D := fun (ks, es, ss, mem, m, mode) => [ek ks es ss, .lst (mem.map .int), .int m, .str mode]
def fO (dd : Nat) : zx -> Prop := fun (ks, es, ss, mem, m, mode) => (es.length <= 900 /\ ks.length = es.length /\ ss.length = es.length /\ mem.length = es.length /\ m < es.length /\ rm mode /\ ∀ k : Nat, k < es.length -> aR ks k = true \/ aq ks k = true \/ ks.getD k Str.empty = "one") /\ di (aR ks) Q.g es ss mem /\ es.length <= m + dd + 1
def kO : zx -> T := fun (ks, es, ss, mem, m, mode) => (.lst (((Ae ks es ss mem mode m).map .int).map T.sh) : T)
structure Yk (X : Cx) (CL : Q.e) (dd : Nat) : Prop extends bP X where
 cI : Ln X 0 "tree"
 cJ : Ln X 1 "memory"
 b4 : Ln X 2 "mood"
 pV : Ln X 3 "mode"
 bL : Ln X 4 "found"
 GX : Ln X 5 "further"
 lq : Ln X 6 "place"
 uz : Gl X "opened_in"
 j9 : Gl X "opened"
 Mp : Fc X CL "opened_in" 2 4 lD lE lF
 qJ : ∀ d', d' < dd -> Fc X CL "opened" (3 + d') 4 kN (fO d') kO
theorem Yl {dd : Nat} (E : Yk X CL dd) {aW : zx} (h : fO dd aW) :
   ay X CL b zv ["tree", "memory", "mood", "mode", "found", "further", "place"] (kN aW) (kO aW) := by
 obtain ⟨ks, es, ss, mem, m, mode⟩ := aW
 dsimp only [ay, fO, kN, kO] at h ⊢
 obtain ⟨xx, hT, hdd⟩ := h
 have anB := xx
 obtain ⟨hl, hk, hs, hm, Bo, hmo, hkd⟩ := xx
 have hop : Ae ks es ss mem mode m = (m : Int) :: (KJ (aR ks) Q.g es ss mem (cS mode || eG mode) m).flatMap Q.bM := by
   unfold Ae
   rw [Lp hT es.length (es.length + 1) Bo Q.a Q.a, ju]
 rw [hop]
 refine aG E.g E.bL (gu (aJ (v_ E.b4.1) dh) Q.r) ?_
 refine aG E.g E.GX (afQ (t := .sh (.str (if cS mode = true then "far" else "new"))) (d7 (aA E.pV) (ah aX)).1 (fun hq => aP aX (by rw [arU (show cS mode = true from hq)])) (fun hq => aP aX (by rw [arS (show ¬ cS mode = true from fun z => by rw [show cS mode = false from hq] at z; cases z)]))) ?_
 have hfm : rm (if cS mode = true then "far" else "new") := by
   split
   . exact .inr (.inr rfl)
   . exact .inl rfl
 have hff : cS (if cS mode = true then "far" else "new") = cS mode := by
   cases e : cS mode with
   | true => rw [arU rfl]; decide +kernel
   | false => rw [arS Q.i]; decide +kernel
 have hfn : eG (if cS mode = true then "far" else "new") = false := by
   cases e : cS mode with
   | true => rw [arU rfl]; decide +kernel
   | false => rw [arS Q.i]; decide +kernel
 generalize hfu : (if cS mode = true then ("far" : Str) else "new") = fu at hfm hff hfn ⊢
 have hoi : ∀ p ∈ KJ (aR ks) Q.g es ss mem (cS mode || eG mode) m, p ∈ gf es m := fun p hp => qx hT Bo hp
 have Vf := BZ hT (far := cS mode) (near := eG mode) (d := es.length + 1) Bo
 rw [ju] at Vf
 generalize anD : KJ (aR ks) Q.g es ss mem (cS mode || eG mode) m = ois at hoi Vf ⊢
 refine eO E.g E.lq (fun j δ => ∃ o, δ = [some (.sh Q.W), some Q.bn, some (.sh (.int m)), some (.sh (.str mode)), some (.lst ((((m : Int) :: (ois.take j).flatMap Q.bM).map .int).map T.sh)), some (.sh (.str fu)), o])
   (dN (iO (aP (t2 := T.lst ((ois.map L3.D.int).map T.sh)) (c_ ((ks, es, ss, mem, m, mode)) E.Mp E.uz (ai (aA E.cI) (ai (aA E.cJ) (ai (aA E.b4) (ai (aA E.pV) aB)))) (anB) (aU _)) (by rw [← anD]; rfl)))) ⟨_, rfl⟩ Q.aG ?turn ?fin
 case turn =>
   rintro j d δ hj ⟨o, rfl⟩
   obtain ⟨p, rfl, _, hpm, qR, _, BO⟩ := iC hj
   have hb := cg hT.pre (hoi p hpm)
   obtain ⟨q, rfl⟩ : ∃ q : Nat, p = q := ⟨p.toNat, by omega⟩
   have hql := BZ hT (far := cS mode) (near := false) (d := es.length) (k := q) Q.a
   have hpl : (((m : Int) :: (ois.take j).flatMap Q.bM).length) <= es.length := by
     refine asD ?_ Vf
     rw [ar8, ar8]
     refine Nat.succ_le_succ ?_
     have h2 := atY j ois
     conv => rhs; rw [← h2]
     rw [asX, arY]
     omega
   refine Gk E.bL.1 rfl (c_ (ks, es, ss, mem, q, fu) (E.qJ (dd - 1) Q.a) E.j9 (ai (aA E.cI) (ai (aA E.cJ) (ai (aA E.lq) (ai (aA E.GX) aB)))) (by dsimp only [fO]; exact ⟨⟨hl, hk, hs, hm, by omega, hfm, hkd⟩, hT, by omega⟩) (aU _)) rfl ?len (au ?_)
   case len =>
     rw [arL, arL, arL, arL]
     show _ + (ju (aR ks) Q.g es ss mem (cS fu) es.length (eG fu) q).length <= _
     rw [hff, hfn]
     omega
   have eh : (((m : Int) :: (ois.take j).flatMap Q.bM).map L3.D.int).map T.sh ++ ((Ae ks es ss mem fu q).map L3.D.int).map T.sh = (((m : Int) :: (ois.take Q.l).flatMap Q.bM).map L3.D.int).map T.sh := by
     unfold Ae
     rw [hff, hfn, BO, asX, ← ash, ← ash]
     simp
   rw [eh]
   exact ⟨_, rfl⟩
 case fin =>
   rintro δ ⟨o, rfl⟩
   rw [arL, asN]
   exact aY (vM E.bL.1) rfl
theorem iX : jf (ak zv) ([("tree", ao), ("memory", ao), ("mood", ao), ("mode", ao), ("found", ao), ("further", ao), ("place", ao), ("opened_in", av), ("opened", av)]) = true := Q.j
theorem GY : aH ["tree", "memory", "mood", "mode", "found", "further", "place"] ["tree", "memory", "mood", "mode"] (ak zv) := aM
abbrev vG : Stmt := top 33
abbrev vH : Type := List L3.D × List L3.D × L3.D × List Q.k × List L3.D × List L3.D × List Int
def lS : vH -> List L3.D := fun (bs, nm, tr, is, os, ws, come) => [gB bs nm tr (is.map .tup) os ws, .lst (come.map .int)]
def iG : vH -> Prop := fun (bs, nm, tr, is, os, ws, come) => rB is /\ come.length <= 1000 /\ ∀ m ∈ come, 0 <= m /\ m < is.length
def lT : vH -> T := fun (bs, nm, tr, is, os, ws, come) => (.lst ((inR is come).map T.sh) : T)
structure UC (X : Cx) (CL : Q.e) : Prop extends bP X where
 bF : Ln X 0 "chart"
 rZ : Ln X 1 "come"
 c6 : Ln X 2 "rows"
 b4 : Ln X 3 "mood"
 bX : wB X.K Q.E
 ug : bG X.K Q.E "ins"
theorem UD (E : UC X CL) {aW : vH} (h : iG aW) :
   ay X CL b vG ["chart", "come", "rows", "mood"] (lS aW) (lT aW) := by
 obtain ⟨bs, nm, tr, is, os, ws, come⟩ := aW
 dsimp only [ay, iG, lS, lT] at h ⊢
 obtain ⟨hr, hl, hc⟩ := h
 refine aG E.g E.c6 Q.al ?_
 refine eO E.g E.b4 (fun j δ => ∃ o, δ = [some (.sh (gB bs nm tr (is.map .tup) os ws)), some (.sh (.lst (come.map .int))), some (.lst ((inR is (come.take j)).map T.sh)), o])
   (dN (v_ E.rZ.1)) ⟨_, rfl⟩ Q.aG ?turn ?fin
 case turn =>
   rintro j d δ hj ⟨o, rfl⟩
   obtain ⟨m, rfl, _, hm, qR, _, BO⟩ := iC hj
   obtain ⟨m0, m1⟩ := hc m hm
   have hln := (An hr (come.take j)).1
   have htl : (come.take j).length <= j := by simp; omega
   obtain ⟨g1, g2⟩ := hr.get m.toNat
   refine iA E.c6.1 rfl (fS (aJ aX (aJ (v_ E.b4.1) dh)) Q.r) rfl (by rw [arL]; omega) ?_
   refine OI E.c6.1 rfl (bz (fN E.bX E.ug (aA E.bF) Ue) (aA E.b4) (dP (f := L3.D.tup) [] m0 m1)) g2 rfl (by rw [arY, arL, as9]; omega) (au ⟨some (.sh (.int m)), ?_⟩)
   rw [BO, W9, ash, asl, arR]
   rfl
 case fin =>
   rintro δ ⟨o, rfl⟩
   rw [arL, asN]
   exact aY (vM E.c6.1) rfl
theorem r6 : jf (ak vG) ([("chart", ao), ("come", ao), ("rows", ao), ("mood", ao)]) = true := Q.j
theorem Py : aH ["chart", "come", "rows", "mood"] ["chart", "come"] (ak vG) := aM
abbrev Cw : Stmt := top 28
abbrev Cy : Type := List L3.D × List L3.D × List Str × List Int × List Int × List Q.k × List L3.D × List L3.D
def vI : Cy -> List L3.D := fun (bs, nm, ks, es, ss, is, os, ws) => [gB bs nm Q.W (is.map .tup) os ws]
def qK : Cy -> Prop := fun (bs, nm, ks, es, ss, is, os, ws) => nm.length = es.length /\ 0 < es.length /\ es.length <= 40 /\ ks.length = es.length /\ ss.length = es.length /\ is.length = es.length /\ rB is /\ (∀ k : Nat, k < es.length -> aR ks k = true \/ aq ks k = true \/ ks.getD k Str.empty = "one") /\ di (aR ks) Q.g es ss Q.at
def vJ : Cy -> T := fun (bs, nm, ks, es, ss, is, os, ws) => (.tup [.lst ((inR is (Ae ks es ss Q.at "new" 0)).map T.sh), .lst (((Ae ks es ss Q.at "new" 0).map .int).map T.sh), .lst (((List.replicate es.length (-1)).map .int).map T.sh)] : T)
structure acG (X : Cx) (CL : Q.e) : Prop extends bP X where
 bF : Ln X 0 "chart"
 cJ : Ln X 1 "memory"
 cN : Ln X 2 "opens"
 c7 : Gl X "len"
 j9 : Gl X "opened"
 qL : Gl X "in_rows"
 c9 : X.mg "len" = none
 qJ : Fc X CL "opened" 43 4 kN (fO 40) kO
 Au : Fc X CL "in_rows" 1 2 lS iG lT
 bX : wB X.K Q.E
 cB : bG X.K Q.E "tree"
 pY : bG X.K Q.E "names"
theorem acH (E : acG X CL) {aW : Cy} (h : qK aW) :
   ay X CL b Cw ["chart", "memory", "opens"] (vI aW) (vJ aW) := by
 obtain ⟨bs, nm, ks, es, ss, is, os, ws⟩ := aW
 dsimp only [ay, qK, vI, vJ] at h ⊢
 obtain ⟨hnm, h0, hl, hk, hs, hi, hr, hkd, hT⟩ := h
 refine aG E.g E.cJ (aP (Rx (ds := [.int (-1)]) (ck (ds := [.int (-1)]) (gu (aJ (fW Q.c) dh) Q.r)) (ah (dY hnm E.c9 (fN E.bX E.pY (aA E.bF) LC) E.c7)) rfl Q.a Q.a (by rw [as5]; simp; omega)) (t2 := .lst (((List.replicate es.length (-1)).map L3.D.int).map T.sh)) (by rw [arT, LW])) ?_
 have Bo : (List.replicate es.length (-1 : Int)).length = es.length := asY ..
 refine aG E.g E.cN (aP (c_ (ks, es, ss, List.replicate es.length (-1), 0, ("new" : Str)) E.qJ E.j9 (ai Q.bo (ai (vL E.cJ.1) (ai Q.c (ai (ah aX) aB)))) (by dsimp only [fO]; exact ⟨⟨by omega, hk, hs, Bo, h0, .inl rfl, hkd⟩, hT, by omega⟩) (aU _)) (t2 := .lst (((Ae ks es ss Q.at "new" 0).map .int).map T.sh)) rfl) ?_
 have X9 : (Ae ks es ss Q.at "new" 0).length <= es.length := BZ hT h0
 have hom : ∀ m ∈ Ae ks es ss Q.at "new" 0, 0 <= m /\ m < is.length := fun m hm => by
   have hb := bR hT (far := cS "new") es.length (near := eG "new") h0 m hm
   omega
 generalize Ae ks es ss Q.at "new" 0 = ops at X9 hom ⊢
 exact aY (mw (aN (aP (c_ (bs, nm, ek ks es ss, is, os, ws, ops) E.Au E.qL (ai (aA E.bF) (ai (vL E.cN.1) aB)) (by dsimp only [iG]; exact ⟨hr, by omega, hom⟩) (cH (An hr ops).2)) (t2 := .lst ((inR is ops).map T.sh)) rfl) (aN (vM E.cN.1) (aN (vM E.cJ.1) b8))) Q.r) rfl
theorem qM : jf (ak Cw) ([("chart", ao), ("memory", ao), ("opens", ao), ("len", av), ("opened", av), ("in_rows", av)]) = true := Q.j
theorem Ym : aH ["chart", "memory", "opens"] ["chart"] (ak Cw) := aM
def Pz (s : Q.b) (t : Q.b) (k : Nat) : List Int := t.set (k % 8) (t.getD (k % 8) 0 + s.getD k 0)
def Vl (s : Q.b) (j : Nat) : List Int := (List.range j).foldl (Pz s) (List.replicate (min s.length 8) 0)
theorem Jf (s : Q.b) : ∀ j, (Vl s j).length = min s.length 8
 | 0 => by simp [Vl]
 | j + 1 => by
   have := Jf s j
   unfold Vl at this ⊢
   rw [atg, ati]
   exact (asU ..).trans this
theorem Yn (s : Q.b) (j : Nat) : Vl s Q.l = Pz s (Vl s j) j := by
 unfold Vl
 rw [atg, ati]
 rfl
def r9 (s : Q.b) (n : Nat) : List Int := if n < 10 then s else Vl s s.length
theorem PB (s : Q.b) (n : Nat) : (r9 s n).length <= s.length := by
 unfold r9
 split
 . exact ar5 _
 . rw [Jf]; omega
abbrev Cz : Stmt := top 75
abbrev CB : Type := List Int × Nat
def vK : CB -> List L3.D := fun (s, n) => [.lst (s.map .int), .int n]
def vN : CB -> Prop := fun (s, n) => s.length <= 1000
def vO : CB -> T := fun (s, n) => (.lst (((r9 s n).map .int).map T.sh) : T)
structure acI (X : Cx) (CL : Q.e) : Prop extends bP X where
 aF : Ln X 0 "script"
 gZ : Ln X 1 "many"
 k7 : Ln X 2 "k"
 vP : Ln X 3 "turns"
 bH : Gl X "list"
 b6 : Gl X "range"
 akB : Gl X "min"
 c7 : Gl X "len"
 bI : X.mg "list" = none
 b7 : X.mg "range" = none
 akC : X.mg "min" = none
 c9 : X.mg "len" = none
theorem acJ (E : acI X CL) {aW : CB} (h : vN aW) :
   ay X CL b Cz ["script", "many", "k", "turns"] (vK aW) (vO aW) := by
 obtain ⟨s, n⟩ := aW
 dsimp only [ay, vN, vK, vO] at h ⊢
 refine cT (ajM (aA E.gZ) Q.c).1 (fun hp => ?_) (fun hp => au ?_)
 . have hp := ar0 hp
   refine aY (cG E.bI Q.H (bJ _) E.bH aT) ?_
   unfold r9
   rw [arU Q.a]
 have hp := asq hp
 show ic X CL b _ _ { nx := _, rt := fun T4 _ => T4 = T.lst (((r9 s n).map .int).map T.sh), bk := _, ct := _ }
 rw [show r9 s n = Vl s s.length by unfold r9; rw [arS Q.a]]
 have anE : (if (8 : Int) < ((s.length : Nat) : Int) then (8 : Int) else ((s.length : Nat) : Int)) = ((min s.length 8 : Nat) : Int) := by split <;> omega
 refine xo (p := fun _ => true) (gg := fun _ => T.sh (.int 0)) E.g E.vP (cL .nil Q.d) (d9 E.b7 (tK (ah (abb E.g E.akC E.akB (ai (ah (dY (arL ..) E.c9 Q.H E.c7)) (ai Q.c aB)))) (congrArg L3.D.int anE)) Q.a E.b6) (.inr rfl) (fun C s0 H0 f0 b' d hd => ⟨rfl, fun _ => aj⟩) Q.bk ?rest (by exact arN rfl) (nF ⟨_, rfl⟩)
 have em : ((bV 0 ((min s.length 8 : Nat) : Int).toNat).filter fun _ => true).map (fun _ => T.sh (.int 0)) = ((Vl s 0).map L3.D.int).map T.sh := by
   rw [iz]
   unfold bV Vl
   rw [asn, arT]
   show List.map _ _ = ((List.replicate (min s.length 8) (0 : Int)).map L3.D.int).map T.sh
   rw [List.map_replicate, List.map_replicate, List.eq_replicate_iff]
   refine ⟨by simp, fun x hx => ?_⟩
   obtain ⟨k, _, rfl⟩ := ase.mp hx
   rfl
 rw [em]
 refine eO E.g E.k7 (fun j δ => ∃ o, δ = [some Q.ah, some (.sh (.int n)), o, some (.lst (((Vl s j).map .int).map T.sh))])
   (d9 E.b7 (ah (dY (arL ..) E.c9 Q.H E.c7)) Q.a E.b6) ⟨_, rfl⟩ Q.aG ?turn ?fin
 case turn =>
   rintro j d δ hj ⟨o, rfl⟩
   obtain ⟨rfl, qR⟩ := gK hj
   rw [as3]
   have hjs : j < s.length := by omega
   have hl := Jf s j
   have k0 : ((j : Int) % 8).toNat = j % 8 := by omega
   have k1 : j % 8 < min s.length 8 := by omega
   refine La E.vP.1 (aP (dM (bz (vL E.vP.1) (ah (bW Q.G Q.c Q.i)) Q.ag) (bz Q.H Q.G Q.ag)) (t2 := .sh (.int ((Vl s j).getD (j % 8) 0 + s.getD j 0))) (by rw [k0]; rfl)) (ah (bW Q.G Q.c Q.i)) rfl (C7 Q.a (by rw [arL, arL]; omega)) (au ⟨some (.sh (.int j)), ?_⟩)
   rw [k0, Yn]
   unfold Pz
   rw [ats, ats]
   rfl
 case fin =>
   rintro δ ⟨o, rfl⟩
   have e : (bV 0 (s.length : Int).toNat).length = s.length := by simp [bV]
   rw [e]
   exact aY (vM E.vP.1) rfl
theorem lU : jf (ak Cz) ([("script", ao), ("many", ao), ("k", ao), ("turns", ao), ("list", av), ("range", av), ("min", av), ("len", av)]) = true := Q.j
theorem Yo : aH ["script", "many", "k", "turns"] ["script", "many"] (ak Cz) := aM
abbrev pA : Stmt := top 59
abbrev pB : Type := List Int × Int × Int
def jr : pB -> List L3.D := fun (es, m, u) => [.lst Q.P, .int m, .int u]
def e7 : pB -> Prop := fun (es, m, u) => dD es /\ 0 <= m /\ m < es.length /\ -1 <= u
def jt : pB -> T := fun (es, m, u) => (.sh (.bl (decide (u = -1) || decide (u ∈ bD es m))) : T)
structure Mq (X : Cx) (CL : Q.e) : Prop extends bP X where
 bB : Ln X 0 "elders"
 b4 : Ln X 1 "mood"
 iY : Ln X 2 "upper"
 fL : Ln X 3 "at"
theorem Mr (E : Mq X CL) {aW : pB} (h : e7 aW) :
   ay X CL b pA ["elders", "mood", "upper", "at"] (jr aW) (jt aW) := by
 obtain ⟨es, m, u⟩ := aW
 dsimp only [ay, e7, jr, jt] at h ⊢
 obtain ⟨ht, h0, h1, hu⟩ := h
 have hm := ht.at h0 h1
 refine aG E.g E.fL (cj (bz (aA E.bB) (aA E.b4) Q.ag) rfl) ?_
 refine HC E.g (fun n δ => ∃ k : Int, δ = [some (.sh (.lst Q.P)), some (.sh (.int m)), some (.sh (.int u)), some (.sh (.int k))] /\ -1 <= k /\ k < es.length /\ k < n /\ ((u = -1 \/ u ∈ bD es m) ↔ (u = -1 \/ u = k \/ (0 <= k /\ u ∈ bD es k)))) (es.length + 1)
   ⟨es.getD m.toNat 0, rfl, hm.1, by omega, by omega, ?i0⟩ ?_
 case i0 =>
   have e := cZ ht h0 h1
   generalize es.getD m.toNat 0 = k at hm e
   rw [e]
   by_cases hk : k = -1
   . rw [arU hk]
     constructor
     . rintro (z | z)
       . exact .inl z
       . cases z
     . rintro (z | z | ⟨z, _⟩)
       . exact .inl z
       . exact .inl (z.trans hk)
       . omega
   . rw [arS hk, arP]
     constructor
     . rintro (z | z | z)
       . exact .inl z
       . exact .inr (.inl z)
       . exact .inr (.inr ⟨by omega, z⟩)
     . rintro (z | z | ⟨_, z⟩)
       . exact .inl z
       . exact .inr (.inl z)
       . exact .inr (.inr z)
 rintro n δ ⟨k, rfl, k0, k1, k2, k3⟩
 refine ⟨_, _, (Ga (aA E.fL) (aA E.iY)).1, fun hp => ?_, fun hp => ?_⟩
 . have hk : u < k := ar0 hp
   have ha := ht.at (k := k) Q.a k1
   cases n with
   | zero => omega
   | succ n =>
     refine aG E.g E.fL (cj (bz (aA E.bB) (aA E.fL) Q.ag) rfl) (au ⟨n, atZ _, es.getD k.toNat 0, rfl, ha.1, by omega, by omega, ?_⟩)
     rw [k3]
     have e := cZ ht (m := k) Q.a k1
     generalize es.getD k.toNat 0 = q at ha e
     rw [e]
     by_cases hq : q = -1
     . rw [arU hq]
       constructor
       . rintro (z | z | ⟨_, z⟩)
         . exact .inl z
         . omega
         . cases z
       . rintro (z | z | ⟨z, _⟩)
         . exact .inl z
         . exact .inl (z.trans hq)
         . omega
     . rw [arS hq, arP]
       constructor
       . rintro (z | z | ⟨_, z | z⟩)
         . exact .inl z
         . omega
         . exact .inr (.inl z)
         . exact .inr (.inr ⟨by omega, z⟩)
       . rintro (z | z | ⟨_, z⟩)
         . exact .inl z
         . exact .inr (.inr ⟨by omega, .inl z⟩)
         . exact .inr (.inr ⟨by omega, .inr z⟩)
 . have hk : ¬ u < k := asq hp
   refine aY (eU (aA E.fL) (aA E.iY)).2 ?_
   show T.sh (.bl _) = T.sh (.bl _)
   congr 2
   rw [← Bool.decide_or, decide_eq_decide, k3]
   constructor
   . intro z; exact .inr (.inl z.symm)
   . rintro (z | z | ⟨z0, z⟩)
     . omega
     . exact z.symm
     . have := bA ht (m := k) z0 k1 z
       omega
theorem mQ : jf (ak pA) ([("elders", ao), ("mood", ao), ("upper", ao), ("at", ao)]) = true := Q.j
theorem Jg : aH ["elders", "mood", "upper", "at"] ["elders", "mood", "upper"] (ak pA) := aM
def upL (es : Q.b) (k : Int) : List Int := if k = -1 then [] else k :: bD es k
abbrev zy : Stmt := top 68
abbrev zA : Type := List L3.D × List Int × List Str × List Int × List L3.D × List L3.D × List cU × Int
def sd : zA -> List L3.D := fun (bs, es, ks, ss, is, os, ws, i) => [gF bs es ks ss is os Q.O, .int i]
def kP : zA -> Prop := fun (bs, es, ks, ss, is, os, ws, i) => dD es /\ ks.length = es.length /\ Q.aC /\ Q.bI /\ 0 <= (dg ws i).tgt /\ (dg ws i).tgt < es.length
def se : zA -> T := fun (bs, es, ks, ss, is, os, ws, i) => (.sh (.int Q.aU) : T)
structure Yp (X : Cx) (CL : Q.e) : Prop extends bP X where
 bf : Ln X 0 "parts"
 bM : Ln X 1 "number"
 lV : Ln X 2 "way"
 fL : Ln X 3 "at"
 lG : Gl X "_law_within"
 pC : Fc X CL "_law_within" 1 3 jr e7 jt
theorem Yq (E : Yp X CL) {aW : zA} (h : kP aW) :
   ay X CL b zy ["parts", "number", "way", "at"] (sd aW) (se aW) := by
 obtain ⟨bs, es, ks, ss, is, os, ws, i⟩ := aW
 dsimp only [ay, kP, sd, se] at h ⊢
 obtain ⟨ht, hk, ⟨i0, i1⟩, ⟨s0, s1⟩, t0, t1⟩ := h
 refine aG E.g E.lV (aP (Om (i9 (v_ E.bf.1) Q.c rfl) (aA E.bM) (dP (f := cR) w0 i0 i1)) (t2 := .sh (cR (dg ws i))) rfl) ?_
 generalize dg ws i = w at s0 s1 t0 t1 ⊢
 have hm := ht.at s0 s1
 refine aG E.g E.fL (aP (cj (bz Q.M (aE (aA E.lV) Q.c (cV (j := 0) rfl)) (cY s0 s1)) rfl) (t2 := .sh (.int (es.getD w.src.toNat 0))) rfl) ?_
 refine HC E.g (fun n δ => ∃ k : Int, δ = [some Q.bC, some (.sh (.int i)), some (.sh (cR w)), some (.sh (.int k))] /\ -1 <= k /\ k < es.length /\ k < n /\ gI ks es w = ((upL es k).find? (fun x => aZ ks x && decide (x ∈ bD es w.tgt))).getD (-1)) (es.length + 1)
   ⟨es.getD w.src.toNat 0, rfl, hm.1, by omega, by omega, ?i0⟩ ?_
 case i0 =>
   unfold gI HK
   rw [cZ ht s0 s1]
   rfl
 rintro n δ ⟨k, rfl, k0, k1, k2, k3⟩
 by_cases hk1 : k = -1
 . subst hk1
   refine ⟨_, _, pO (nA (q := false) (pN (aA E.fL) Q.ar).1 (fun hq => by simp at hq)), fun hp => by simp at hp, fun _ => ?_⟩
   refine aY (v_ E.fL.1) ?_
   rw [k3]
   rfl
 . have ha := ht.at (k := k) Q.a k1
   refine ⟨_, _, pO (nA (pN (aA E.fL) Q.ar).1 (fun _ => kW (tE (pO (nA (d7 (bz Q.M (aA E.fL) (dP Str.empty Q.a Q.a)) (ah aX)).1 (fun _ => kW (g6 (aP (c_ (es, w.tgt, k) E.pC E.lG (ai Q.M (ai (aE (aA E.lV) Q.c (cV (j := 4) rfl)) (ai (aA E.fL) aB))) (by dsimp only [e7]; exact ⟨ht, t0, t1, by omega⟩) rfl) (t2 := .sh (.bl (decide (k = -1) || decide (k ∈ bD es w.tgt)))) rfl)))))))), fun hp => ?_, fun hp => ?_⟩
   . have hp : ((!decide (k = -1)) && !(aZ ks k && (decide (k = -1) || decide (k ∈ bD es w.tgt)))) = true := hp
     rw [asi hk1, Bool.false_or, Bool.not_false, aus, as1] at hp
     cases n with
     | zero => omega
     | succ n =>
       refine aG E.g E.fL (aP (cj (bz Q.M (aA E.fL) (cY Q.a k1)) rfl) (t2 := .sh (.int (es.getD k.toNat 0))) rfl) (au ⟨n, atZ _, es.getD k.toNat 0, rfl, ha.1, by omega, by omega, ?_⟩)
       rw [k3]
       unfold upL
       rw [arS hk1, List.find?_cons, hp, cZ ht Q.a k1]
   . have hp : ((!decide (k = -1)) && !(aZ ks k && (decide (k = -1) || decide (k ∈ bD es w.tgt)))) = false := hp
     rw [asi hk1, Bool.false_or, Bool.not_false, aus, Bool.not_eq_false'] at hp
     refine aY (v_ E.fL.1) ?_
     rw [k3]
     unfold upL
     rw [arS hk1, List.find?_cons, hp]
     rfl
theorem qN : jf (ak zy) ([("parts", ao), ("number", ao), ("way", ao), ("at", ao), ("_law_within", av)]) = true := Q.j
theorem UE : aH ["parts", "number", "way", "at"] ["parts", "number"] (ak zy) := aM
def UG (es : Q.b) (u v : Int) : Bool := !(decide (u = v) || (decide (u = -1) || decide (v = -1))) && !((decide (v = -1) || decide (v ∈ bD es u)) || (decide (u = -1) || decide (u ∈ bD es v)))
theorem acK {v : Int} : UG es u v = true ↔ Ap es u v := by
 unfold UG Ap
 simp only [asa, as1, atF, asM]
 constructor
 . rintro ⟨⟨a, b, c⟩, ⟨_, d⟩, _, e⟩
   exact ⟨b, c, a, e, d⟩
 . rintro ⟨b, c, a, e, d⟩
   exact ⟨⟨a, b, c⟩, ⟨c, d⟩, b, e⟩
def D6 (ks : Q.h) (es : Q.b) (ws : List cU) (so : Q.b) (i : Int) : Bool := !jY ws i || so.all fun j => !jY ws j || UG es Q.aU (gI ks es (dg ws j))
theorem Yr {p : α -> Bool} {l : List α} (h : ∀ (j : Nat) (x : α), l[j]? = some x -> p x = true) : l.all p = true := atd.mpr fun x hx => by
 obtain ⟨j, hj, e⟩ := List.getElem_of_mem hx
 exact h j x (by rw [arZ hj, e])
theorem acL {p : α -> Bool} {l : List α} {x : α} (h : l[j]? = some x) (hx : p x = false) : l.all p = false := List.all_eq_false.mpr ⟨x, asT h, by rw [hx]; decide⟩
abbrev Jh : Stmt := top 69
abbrev Ji : Type := List L3.D × List Int × List Str × List Int × List L3.D × List L3.D × List cU × List Int × Int
def zB : Ji -> List L3.D := fun (bs, es, ks, ss, is, os, ws, so, i) => [gF bs es ks ss is os Q.O, .lst (so.map .int), .int i]
def uA : Ji -> Prop := fun (bs, es, ks, ss, is, os, ws, so, i) => dD es /\ ks.length = es.length /\ (∀ w ∈ ws, WIn es.length w) /\ Q.aC /\ ∀ j ∈ so, 0 <= j /\ j < ws.length
def zC : Ji -> T := fun (bs, es, ks, ss, is, os, ws, so, i) => (.sh (.bl (D6 ks es ws so i)) : T)
structure ahe (X : Cx) (CL : Q.e) : Prop extends bP X where
 bf : Ln X 0 "parts"
 jd : Ln X 1 "some"
 bM : Ln X 2 "number"
 fL : Ln X 3 "at"
 pD : Ln X 4 "other"
 iE : Ln X 5 "near"
 D7 : Gl X "_law_top"
 lG : Gl X "_law_within"
 Ms : Fc X CL "_law_top" 2 2 sd kP se
 pC : Fc X CL "_law_within" 1 3 jr e7 jt
theorem ahf (E : ahe X CL) {aW : Ji} (h : uA aW) :
   ay X CL b Jh ["parts", "some", "number", "at", "other", "near"] (zB aW) (zC aW) := by
 obtain ⟨bs, es, ks, ss, is, os, ws, so, i⟩ := aW
 dsimp only [ay, uA, zB, zC] at h ⊢
 obtain ⟨ht, hk, hw, ⟨i0, i1⟩, hs⟩ := h
 have akD : ∀ j : Int, (0 <= j /\ j < ws.length) -> jY ws j = true -> 0 <= (dg ws j).tgt /\ (dg ws j).tgt < es.length := fun j hj hT => by
   have := (hw _ (rq hj.1 hj.2)).2.1
   unfold jY at hT
   rcases this with z | z
   . rw [z] at hT
     simp at hT
   . exact z
 have akE : ∀ j : Int, (0 <= j /\ j < ws.length) -> jY ws j = true -> -1 <= gI ks es (dg ws j) /\ gI ks es (dg ws j) < es.length := fun j hj hT => by
   have win := hw _ (rq hj.1 hj.2)
   rcases RB (bw := aZ ks) (b := (dg ws j).tgt) ht win.1.1 win.1.2 with z | z
   . unfold gI
     rw [z.1]
     omega
   . have := bA ht win.1.1 win.1.2 z.1
     unfold gI
     omega
 refine cT (eU Q.ch Q.ar).1 (fun hp => ?_) (fun hp => au ?_)
 . have hp : (dg ws i).tgt = -1 := ar0 hp
   refine aY tu ?_
   unfold D6 jY
   rw [hp]
   rfl
 have hp : ¬ (dg ws i).tgt = -1 := asq hp
 have hTi : jY ws i = true := by
   unfold jY
   rw [asi hp]
   rfl
 have bi := akD i ⟨i0, i1⟩ hTi
 have ti := akE i ⟨i0, i1⟩ hTi
 have hre : D6 ks es ws so i = so.all fun j => !jY ws j || UG es Q.aU (gI ks es (dg ws j)) := by
   unfold D6
   rw [hTi]
   rfl
 rw [hre]
 refine aG E.g E.fL (aP (c_ (bs, es, ks, ss, is, os, ws, i) E.Ms E.D7 (ai Q.bb (ai (aA E.bM) aB)) (by dsimp only [kP]; exact ⟨ht, hk, ⟨i0, i1⟩, (hw _ (rq i0 i1)).1, bi⟩) rfl) (t2 := .sh (.int Q.aU)) rfl) ?_
 generalize gI ks es (dg ws i) = u at ti ⊢
 refine eO E.g E.pD (fun j δ => (∀ (q : Nat) (x : Int), q < j -> so[q]? = some x -> (!jY ws x || UG es u (gI ks es (dg ws x))) = true) /\ ∃ o4 o5, δ = [some Q.bC, some (.sh (.lst (so.map .int))), some (.sh (.int i)), some (.sh (.int u)), o4, o5])
   (dN (v_ E.jd.1)) ⟨fun q x hq => by omega, _, _, rfl⟩ (fun j δ ⟨_, _, _, e⟩ => by subst e; exact arN rfl) ?turn ?fin
 case turn =>
   rintro j d δ hj ⟨hno, o4, o5, rfl⟩
   obtain ⟨x, rfl, hx, Ab, qR, _, _⟩ := iC hj
   have Ys := hs x Ab
   have step : ∀ {δ : Q.s}, (!jY ws x || UG es u (gI ks es (dg ws x))) = true -> (∃ o4 o5, δ = [some Q.bC, some (.sh (.lst (so.map .int))), some (.sh (.int i)), some (.sh (.int u)), o4, o5]) -> ((∀ (q : Nat) (x : Int), q < j + 1 -> so[q]? = some x -> (!jY ws x || UG es u (gI ks es (dg ws x))) = true) /\ ∃ o4 o5, δ = [some Q.bC, some (.sh (.lst (so.map .int))), some (.sh (.int i)), some (.sh (.int u)), o4, o5]) := fun h1 h2 => ⟨fun q y hq hy => by
     by_cases e : q = j
     . subst e
       rw [hx] at hy
       cases hy
       exact h1
     . exact hno q y Q.a hy, h2⟩
   refine cT (pN (aE (bz Q.M (aA E.pD) (dP (f := cR) w0 Ys.1 Ys.2)) Q.c (cV (j := 4) rfl)) Q.ar).1 (fun hp => ?_) (fun hp => au (au ?_))
   . have hTx : jY ws x = true := hp
     have bx := akD x Ys hTx
     have tx := akE x Ys hTx
     refine aG E.g E.iE (aP (c_ (bs, es, ks, ss, is, os, ws, x) E.Ms E.D7 (ai Q.bb (ai (aA E.pD) aB)) (by dsimp only [kP]; exact ⟨ht, hk, Ys, (hw _ (rq Ys.1 Ys.2)).1, bx⟩) rfl) (t2 := .sh (.int (gI ks es (dg ws x)))) rfl) ?_
     generalize hv : gI ks es (dg ws x) = v at tx step ⊢
     have bad : UG es u v = false -> so.all (fun j => !jY ws j || UG es u (gI ks es (dg ws j))) = false := fun e => acL hx (by rw [hTx, hv, e]; rfl)
     refine cT (pO (tF (eU (aA E.fL) (aA E.iE)).1 (fun hb => (tF (eU (aA E.fL) Q.ar).1 (fun Uc => (pP (eU (aA E.iE) Q.ar).1)))))) (fun hq => ?_) (fun hq => au ?_)
     . refine aY tu ?_
       rw [bad (by unfold UG; rw [hq]; rfl)]
     . have Vd : (decide (u = v) || (decide (u = -1) || decide (v = -1))) = false := hq
       simp only [atF, asM] at hq
       refine cT (pO (tF (g6 (aP (c_ (es, u, v) E.pC E.lG (ai Q.M (ai (aA E.fL) (ai (aA E.iE) aB))) (by dsimp only [e7]; exact ⟨ht, by omega, by omega, by omega⟩) rfl) (t2 := .sh (.bl (decide (v = -1) || decide (v ∈ bD es u)))) rfl)) (fun _ => pP (g6 (aP (c_ (es, v, u) E.pC E.lG (ai Q.M (ai (aA E.iE) (ai (aA E.fL) aB))) (by dsimp only [e7]; exact ⟨ht, by omega, by omega, by omega⟩) rfl) (t2 := .sh (.bl (decide (u = -1) || decide (u ∈ bD es v)))) rfl))))) (fun hr => ?_) (fun hr => au (au (au ?_)))
       . refine aY tu ?_
         rw [bad (by unfold UG; rw [hr, Bool.not_true, atW])]
       . refine step ?_ ⟨_, _, rfl⟩
         unfold UG
         rw [Vd, hr]
         simp
   . have hTx : jY ws x = false := hp
     exact step (by rw [hTx]; rfl) ⟨_, _, rfl⟩
 case fin =>
   rintro δ ⟨hno, o4, o5, rfl⟩
   refine aY tu ?_
   rw [Yr fun q x hx => hno q x (by rw [arL]; exact (asp.mp hx).1) hx]
theorem pF : jf (ak Jh) ([("parts", ao), ("some", ao), ("number", ao), ("at", ao), ("other", ao), ("near", ao), ("_law_top", av), ("_law_within", av)]) = true := Q.j
theorem acM : aH ["parts", "some", "number", "at", "other", "near"] ["parts", "some", "number"] (ak Jh) := aM
def Yt (ws : List cU) (c : Int) (k : Nat) : Int := (c + (k : Int)) % (ws.length : Nat)
def Jj (ks : Q.h) (es : Q.b) (ws : List cU) (ops : Q.b) (c : Int) (acc : Q.b) (k : Nat) : List Int := if ((dg ws (Yt ws c k)).src ∈ ops /\ ¬ c / (7 + Yt ws c k) % 5 = 1) /\ D6 ks es ws acc (Yt ws c k) = true then acc ++ [Yt ws c k] else acc
def Mt (ks : Q.h) (es : Q.b) (ws : List cU) (ops : Q.b) (c : Int) (j : Nat) : List Int := (List.range j).foldl (Jj ks es ws ops c) []
theorem Mu (ks : Q.h) (es : Q.b) (ws : List cU) (ops : Q.b) (c : Int) (j : Nat) : Mt ks es ws ops c Q.l = Jj ks es ws ops c (Mt ks es ws ops c j) j := by
 unfold Mt
 rw [atg, ati]
 rfl
theorem ahh (ws : List cU) (so : Q.b) (i : Int) : gi ws (so ++ [i]) = gi ws so ++ (if jY ws i = true then [dg ws i] else []) := by
 unfold gi
 rw [atc, ash]
 congr 1
 by_cases h : jY ws i = true
 . rw [arU h]; simp [h]
 . rw [arS h]; simp [h]
theorem Jk (ks : Q.h) (es : Q.b) {ws : List cU} (ops : Q.b) (c : Int) (hw : 0 < ws.length) : ∀ j : Nat, (Mt ks es ws ops c j).length <= j /\ (∀ i ∈ Mt ks es ws ops c j, Q.aC /\ (dg ws i).src ∈ ops) /\ (gi ws (Mt ks es ws ops c j)).Pairwise (fun a d => Ap es (gI ks es a) (gI ks es d))
 | 0 => ⟨ar5 _, (fun i hi => by cases hi), by unfold gi; exact .nil⟩
 | j + 1 => by
   obtain ⟨h1, h2, h3⟩ := Jk ks es ops c hw j
   rw [Mu]
   unfold Jj
   split
   . rename_i hg
     have m0 : 0 <= Yt ws c j := asd _ Q.a
     have m1 : Yt ws c j < ws.length := ar3 _ Q.a
     refine ⟨by rw [arY, as9]; omega, fun i hi => ?_, ?_⟩
     . rcases arV.mp hi with hi | hi
       . exact h2 i hi
       . rw [asQ] at hi
         subst hi
         exact ⟨⟨m0, m1⟩, hg.1.1⟩
     . rw [ahh]
       split
       . rename_i hT
         refine atE.mpr ⟨h3, asS _ _, fun a ha d hd => ?_⟩
         rw [asQ] at hd
         subst hd
         have hf := hg.2
         unfold D6 at hf
         rw [hT] at hf
         have hf : (Mt ks es ws ops c j).all (fun q => !jY ws q || UG es (gI ks es (dg ws (Yt ws c j))) (gI ks es (dg ws q))) = true := hf
         obtain ⟨q, hq, rfl⟩ := ase.mp ha
         obtain ⟨q1, q2⟩ := asf.mp hq
         have := atd.mp hf q q1
         rw [q2] at this
         exact (acK.mp this).symm
       . rw [asj]
         exact h3
   . exact ⟨by omega, h2, h3⟩
theorem Yu (ops : Q.b) (c : Int) (hl : ws.length <= 8) : rC ks es ws ops (sortI (Mt ks es ws ops c ws.length)) := by
 by_cases hw : 0 < ws.length
 . obtain ⟨h1, h2, h3⟩ := Jk ks es ops c hw ws.length
   refine ⟨fun i hi => h2 i (iP.mp hi), by rw [jJ]; omega, ?_⟩
   have hp : (gi ws (sortI (Mt ks es ws ops c ws.length))).Perm (gi ws (Mt ks es ws ops c ws.length)) := ((sortI_perm _).filter _).map _
   exact (hp.pairwise_iff fun h => Ap.symm h).mpr h3
 . have e : ws.length = 0 := by omega
   rw [e]
   exact ⟨(fun i hi => by cases hi), asr _, .nil⟩
abbrev CD : Stmt := top 70
abbrev CF : Type := List L3.D × List Int × List Str × List Int × List L3.D × List L3.D × List cU × List Int × Int
def vQ : CF -> List L3.D := fun (bs, es, ks, ss, is, os, ws, ops, c) => [gF bs es ks ss is os Q.O, .lst (ops.map .int), .int c]
def qO : CF -> Prop := fun (bs, es, ks, ss, is, os, ws, ops, c) => dD es /\ ks.length = es.length /\ (∀ w ∈ ws, WIn es.length w) /\ ws.length <= 8
def vR : CF -> T := fun (bs, es, ks, ss, is, os, ws, ops, c) => (.lst (((sortI (Mt ks es ws ops c ws.length)).map .int).map T.sh) : T)
structure acN (X : Cx) (CL : Q.e) : Prop extends bP X where
 bf : Ln X 0 "parts"
 cN : Ln X 1 "opens"
 b5 : Ln X 2 "cell"
 jd : Ln X 3 "some"
 jx : Ln X 4 "count"
 k7 : Ln X 5 "k"
 bM : Ln X 6 "number"
 c7 : Gl X "len"
 b6 : Gl X "range"
 Mv : Gl X "_law_free"
 f9 : Gl X "sorted"
 c9 : X.mg "len" = none
 b7 : X.mg "range" = none
 ahi : Fc X CL "_law_free" 3 3 zB uA zC
 gb : X.mg "sorted" = none
theorem acO (E : acN X CL) {aW : CF} (h : qO aW) :
   ay X CL b CD ["parts", "opens", "cell", "some", "count", "k", "number"] (vQ aW) (vR aW) := by
 obtain ⟨bs, es, ks, ss, is, os, ws, ops, c⟩ := aW
 dsimp only [ay, qO, vQ, vR] at h ⊢
 obtain ⟨ht, hk, hw, hl⟩ := h
 refine aG E.g E.jd Q.al ?_
 refine aG E.g E.jx (dY (arL ..) E.c9 Q.M E.c7) ?_
 refine eO E.g E.k7 (fun j δ => ∃ o5 o6, δ = [some Q.bC, some (.sh (.lst (ops.map .int))), some (.sh (.int c)), some (.lst (((Mt ks es ws ops c j).map .int).map T.sh)), some (.sh (.int (ws.length : Nat))), o5, o6])
   (d9 E.b7 (aA E.jx) Q.a E.b6) ⟨_, _, rfl⟩ Q.aA ?turn ?fin
 case turn =>
   rintro j d δ hj ⟨o5, o6, rfl⟩
   obtain ⟨rfl, qR⟩ := gK hj
   rw [as3]
   have qR : j < ws.length := by omega
   obtain ⟨h1, h2, h3⟩ := Jk ks es ops c (by omega : 0 < ws.length) j
   have m0 : 0 <= Yt ws c j := asd _ Q.a
   have m1 : Yt ws c j < ws.length := ar3 _ Q.a
   refine aG E.g E.bM (aP (bW (ah (dM (aA E.b5) Q.G)) (aA E.jx) Q.a) (t2 := .sh (.int (Yt ws c j))) rfl) ?_
   show ic X CL b _ _ { nx := fun δ => ∃ o5 o6, δ = [_, _, _, some (.lst (((Mt ks es ws ops c Q.l).map .int).map T.sh)), _, o5, o6], rt := _, bk := _, ct := _ }
   rw [Mu]
   unfold Jj
   generalize Mt ks es ws ops c j = so at h1 h2 h3 ⊢
   generalize Yt ws c j = i at m0 m1 ⊢
   refine cT (pO (nA (yk (l := ops) (aE (bz Q.M (aA E.bM) (dP (f := cR) w0 m0 m1)) Q.c (cV (j := 0) rfl)) (aA E.cN) rfl rfl).1 (fun _ => kW (pN (ah (bW (ah (cW (aA E.b5) (ah (dM Q.c (aA E.bM))) (⟨by omega, by omega⟩))) Q.c Q.i)) Q.c).1))) (fun hp => ?_) (fun hp => au (au ?_))
   . simp only [asa, as1, asI, asM] at hp
     refine cT (g6 (aP (c_ (bs, es, ks, ss, is, os, ws, so, i) E.ahi E.Mv (ai Q.bb (ai (vL E.jd.1) (ai (aA E.bM) aB))) (by dsimp only [uA]; exact ⟨ht, hk, hw, ⟨m0, m1⟩, fun q hq => (h2 q hq).1⟩) rfl) (t2 := .sh (.bl (D6 ks es ws so i))) rfl)) (fun hq => ?_) (fun hq => au (au (au ?_)))
     . refine iA E.jd.1 rfl (v_ E.bM.1) rfl Q.z (au (au (au ?_)))
       rw [arU ⟨hp, hq⟩]
       refine ⟨some (.sh (.int j)), some (.sh (.int i)), ?_⟩
       rw [ash, ash]
       rfl
     . rw [arS (fun z => by rw [z.2] at hq; cases hq)]
       exact ⟨_, _, rfl⟩
   . rw [arS (fun z => by
       have : (decide ((dg ws i).src ∈ ops) && !decide (c / (7 + i) % 5 = 1)) = true := by
         simp only [asa, as1, asI, asM]
         exact z.1
       have hp : (decide ((dg ws i).src ∈ ops) && !decide (c / (7 + i) % 5 = 1)) = false := hp
       rw [this] at hp
       cases hp)]
     exact ⟨_, _, rfl⟩
 case fin =>
   rintro δ ⟨o5, o6, rfl⟩
   have e : (bV 0 ((ws.length : Nat) : Int).toNat).length = ws.length := by simp [bV]
   rw [e]
   have hln : (Mt ks es ws ops c ws.length).length < 64 := by
     by_cases hz : 0 < ws.length
     . have := (Jk ks es ops c hz ws.length).1
       omega
     . have e : ws.length = 0 := by omega
       rw [e]
       exact (show ([] : List Int).length < 64 by decide)
   exact aY (kH E.gb (vL E.jd.1) (hln) E.f9) rfl
theorem iH : jf (ak CD) ([("parts", ao), ("opens", ao), ("cell", ao), ("some", ao), ("count", ao), ("k", ao), ("number", ao), ("len", av), ("range", av), ("_law_free", av), ("sorted", av)]) = true := Q.j
theorem Yv : aH ["parts", "opens", "cell", "some", "count", "k", "number"] ["parts", "opens", "cell"] (ak CD) := aM
abbrev CG : Stmt := top 8
abbrev CH : Type := List Str × List Int × List Int × Int
def nh : CH -> List L3.D := fun (ks, es, ss, m) => [ek ks es ss, .int m]
def kQ : CH -> Prop := fun (ks, es, ss, m) => dD es /\ 0 <= m /\ m < es.length /\ es.length <= 1000
def ni : CH -> T := fun (ks, es, ss, m) => (.lst (((bD es m).map .int).map T.sh) : T)
structure acP (X : Cx) (CL : Q.e) : Prop extends bP X where
 cI : Ln X 0 "tree"
 b4 : Ln X 1 "mood"
 bL : Ln X 2 "found"
 dG : Ln X 3 "elder"
 fC : wB X.K Q.X
 eX : bG X.K Q.X "elders"
theorem acQ (E : acP X CL) {aW : CH} (h : kQ aW) :
   ay X CL b CG ["tree", "mood", "found", "elder"] (nh aW) (ni aW) := by
 obtain ⟨ks, es, ss, m⟩ := aW
 dsimp only [ay, kQ, nh, ni] at h ⊢
 obtain ⟨ht, h0, h1, hlen⟩ := h
 refine aG E.g E.bL Q.al ?_
 refine aG E.g E.dG (cj (bz (fN E.fC E.eX (aA E.cI) oH) (aA E.b4) (cY h0 h1)) rfl) ?_
 have hm := ht.at h0 h1
 refine HC E.g (fun n δ => ∃ (k : Int) (l : Q.b), δ = [some (.sh Q.W), some (.sh (.int m)), some (.lst ((l.map .int).map T.sh)), some (.sh (.int k))] /\ -1 <= k /\ k < n /\ k < es.length /\ l ++ Bp n es k = bD es m /\ l.length + n <= es.length + 1) (es.length + 1)
   ⟨es.getD m.toNat 0, [], rfl, hm.1, by omega, by omega, rfl, by simp⟩ ?_
 rintro n δ ⟨k, l, rfl, k0, k1, k2, k3, k4⟩
 refine ⟨_, _, (pN (aA E.dG) Q.ar).1, fun hp => ?_, fun hp => ?_⟩
 . have hk : ¬ k = -1 := by simpa using hp
   have ha := ht.at (k := k) Q.a k2
   cases n with
   | zero => omega
   | succ n =>
     refine iA E.bL.1 rfl (v_ E.dG.1) rfl Q.z ?_
     refine aG E.g E.dG (cj (bz (fN E.fC E.eX (aA E.cI) oH) (aA E.dG) (cY Q.a k2)) rfl) ?_
     refine au ⟨n, atZ _, es.getD k.toNat 0, l ++ [k], ?_, ha.1, by omega, by omega, ?_, by simp; omega⟩
     . show [_, _, some (T.lst (((l.map D.int).map T.sh) ++ [T.sh (.int k)])), _] = _
       simp
     . rw [← k3, Bp, arS hk, arR]
       rfl
 . have hk : k = -1 := by simpa using hp
   subst hk
   have e : l = bD es m := by
     rw [← k3]
     cases n with
     | zero => rw [Bp, asj]
     | succ n => rw [Bp, arU rfl, asj]
   subst e
   exact aY (vM E.bL.1) rfl
theorem zE : jf (ak CG) ([("tree", ao), ("mood", ao), ("found", ao), ("elder", ao)]) = true := Q.j
theorem Yw : aH ["tree", "mood", "found", "elder"] ["tree", "mood"] (ak CG) := aM
abbrev zF : Stmt := top 9
abbrev zG : Type := List Str × List Int × List Int × Int × Int
def kR : zG -> List L3.D := fun (ks, es, ss, m, o) => [ek ks es ss, .int m, .int o]
def gG : zG -> Prop := fun (ks, es, ss, m, o) => dD es /\ 0 <= m /\ m < es.length /\ es.length <= 1000
def kT : zG -> T := fun (ks, es, ss, m, o) => (.sh (.bl (decide (o = -1) || decide (o ∈ bD es m))) : T)
structure Yx (X : Cx) (CL : Q.e) : Prop extends bP X where
 cI : Ln X 0 "tree"
 b4 : Ln X 1 "mood"
 pD : Ln X 2 "other"
 sf : Gl X "above"
 zH : Fc X CL "above" 1 2 nh kQ ni
theorem Yy (E : Yx X CL) {aW : zG} (h : gG aW) :
   ay X CL b zF ["tree", "mood", "other"] (kR aW) (kT aW) := by
 obtain ⟨ks, es, ss, m, o⟩ := aW
 dsimp only [ay, gG, kR, kT] at h ⊢
 exact aY (ajN (eU (aA E.pD) Q.ar).2 (fun _ => Ht (yk (l := bD es m) (aA E.pD) (ck (c_ (ks, es, ss, m) E.zH E.sf (ai (aA E.cI) (ai (aA E.b4) aB)) h (aU _))) rfl rfl).2)) rfl
theorem vS : jf (ak zF) ([("tree", ao), ("mood", ao), ("other", ao), ("above", av)]) = true := Q.j
theorem UH : aH ["tree", "mood", "other"] ["tree", "mood", "other"] (ak zF) := aM
abbrev Jl : Stmt := top 23
abbrev Jm : Type := List Str × List Int × List Int × List Int × Int
def zI : Jm -> List L3.D := fun (ks, es, ss, ops, u) => [ek ks es ss, .lst (ops.map .int), .int u]
def uB : Jm -> Prop := fun (ks, es, ss, ops, u) => dD es /\ es.length <= 1000 /\ ops.length <= 1000 /\ ∀ m ∈ ops, 0 <= m /\ m < es.length
def zJ : Jm -> T := fun (ks, es, ss, ops, u) => (.lst (((nO es ops u).map .int).map T.sh) : T)
structure ahj (X : Cx) (CL : Q.e) : Prop extends bP X where
 cI : Ln X 0 "tree"
 ahk : X.env.kindOf "tree" = some .cell
 cN : Ln X 1 "opens"
 iY : Ln X 2 "upper"
 acR : X.env.kindOf "upper" = some .cell
 kK : Gl X "reversed"
 kL : X.mg "reversed" = none
 uC : Fc X CL "within" 2 3 kR gG kT
theorem ahl (E : ahj X CL) {aW : Jm} (h : uB aW) :
   ay X CL b Jl ["tree", "opens", "upper"] (zI aW) (zJ aW) := by
 obtain ⟨ks, es, ss, ops, u⟩ := aW
 dsimp only [ay, uB, zI, zJ] at h ⊢
 obtain ⟨ht, hl, ho, hm⟩ := h
 refine aY (mK (p := fun d => decide (u = -1) || decide (u ∈ bD es d.AV)) (g := fun d => T.sh d) (cL (.cons E.cI.1 (.inl E.ahk) (.cons E.iY.1 (.inl E.acR) .nil)) Q.d) E.g.calm
   (Wj E.kL (v_ E.cN.1) E.kK) (.inr rfl) (fun C s0 H0 f0 b' d hd => ?Br) (asu (bS Q.z))) ?eq
 case Br =>
   obtain ⟨i, hi, rfl⟩ := ase.mp (atw.mp hd)
   have NR := hm i hi
   exact ⟨g6 (c_ (ks, es, ss, i, u) (oE E.uC) (jS Q.d) (ai Q.aO (ai Q.aF (ai Q.bN aB))) (by dsimp only [gG]; exact ⟨ht, by omega, by omega, hl⟩) rfl), fun _ => v_ Q.am⟩
 case eq =>
   refine congrArg T.lst ?_
   unfold nO
   rw [← List.map_reverse, atf, List.filter_reverse]
   rfl
theorem vU : jf (ak Jl) ([("tree", .cell), ("opens", ao), ("upper", .cell), ("reversed", av)]) = true := Q.j
theorem acS : aH ["tree", "opens", "upper"] ["tree", "opens", "upper"] (ak Jl) := aM
abbrev Sd : Stmt := top 13
abbrev Se : Type := List Str × List Int × List Int × Int × Int
def CJ : Se -> List L3.D := fun (ks, es, ss, a, c) => [ek ks es ss, .int a, .int c]
def zK : Se -> Prop := fun (ks, es, ss, a, c) => dD es /\ es.length <= 1000 /\ ks.length = es.length /\ (0 <= a /\ a < es.length) /\ 0 <= c /\ c < es.length
def CK : Se -> T := fun (ks, es, ss, a, c) => (.sh (.int (HK (aZ ks) es a c)) : T)
structure akH (X : Cx) (CL : Q.e) : Prop extends bP X where
 cI : Ln X 0 "tree"
 GL : Ln X 1 "one"
 pD : Ln X 2 "other"
 iY : Ln X 3 "upper"
 sf : Gl X "above"
 uD : Gl X "within"
 zH : Fc X CL "above" 1 2 nh kQ ni
 uC : Fc X CL "within" 2 3 kR gG kT
 fC : wB X.K Q.X
 dw : bG X.K Q.X "kinds"
theorem akI (E : akH X CL) {aW : Se} (h : zK aW) :
   ay X CL b Sd ["tree", "one", "other", "upper"] (CJ aW) (CK aW) := by
 obtain ⟨ks, es, ss, a, c⟩ := aW
 dsimp only [ay, zK, CJ, CK] at h ⊢
 obtain ⟨ht, hl, hk, ⟨a0, a1⟩, c0, c1⟩ := h
 refine eO E.g E.iY (fun j δ => ∃ o, (∀ x ∈ (bD es a).take j, (aZ ks x && decide (x ∈ bD es c)) = false) /\ δ = [some (.sh Q.W), some (.sh (.int a)), some (.sh (.int c)), o])
   (dN (iO (c_ (_, _, _, _) E.zH E.sf (ai (aA E.cI) (ai (aA E.GL) aB)) (by dsimp only [kQ]; exact (⟨ht, a0, a1, hl⟩)) (aU _)))) ⟨_, fun x hx => by simp at hx, rfl⟩ (fun j δ ⟨_, _, e⟩ => by subst e; exact Nat.le_of_ble_eq_true rfl) ?turn ?fin
 case turn =>
   rintro j d δ hj ⟨o, qm, rfl⟩
   rw [asA] at hj
   cases hx : (bD es a)[j]? with
   | none => rw [hx] at hj; cases hj
   | some x =>
     rw [hx] at hj
     cases hj
     have hxm : x ∈ bD es a := asT hx
     have Ys := bA ht a0 a1 hxm
     have qR : j < (bD es a).length := (asp.mp hx).1
     have BO : (bD es a).take Q.l = (bD es a).take j ++ [x] := by rw [atV, hx]; rfl
     refine cT (pO (nA (d7 (bz (fN E.fC E.dw (aA E.cI) nI) (aA E.iY) (dP Str.empty Q.a Q.a)) (ah aX)).1 (fun hb => (kW (g6 (c_ (_, _, _, _, _) E.uC E.uD (ai (aA E.cI) (ai (aA E.pD) (ai (aA E.iY) aB))) (by dsimp only [gG]; exact (⟨ht, c0, c1, hl⟩)) rfl)))))) (fun hp => ?_) (fun hp => au (au ⟨_, ?_, rfl⟩))
     . refine aY (v_ E.iY.1) ?_
       have hp2 : (aZ ks x && decide (x ∈ bD es c)) = true := by
         have : decide (x = -1) = false := asi Q.a
         rw [this, Bool.false_or] at hp
         exact hp
       have : (bD es a).find? (fun x => aZ ks x && decide (x ∈ bD es c)) = some x := by
         have Ve : bD es a = (bD es a).take j ++ x :: (bD es a).drop Q.l := by
           have h2 := atY j (bD es a)
           rw [at9 qR] at h2
           have : (bD es a)[j] = x := (asp.mp hx).2
           rw [this] at h2
           exact h2.symm
         conv => lhs; rw [Ve]
         rw [List.find?_append, List.find?_eq_none.mpr (fun y hy => by rw [qm y hy]; decide), List.find?_cons, hp2]
         rfl
       show _ = T.sh (.int (HK (aZ ks) es a c))
       unfold HK
       rw [this]
       rfl
     . intro y hy
       rw [BO] at hy
       rcases arV.mp hy with hy | hy
       . exact qm y hy
       . have e : y = x := by simpa using hy
         subst e
         have : decide (y = -1) = false := asi Q.a
         rw [this, Bool.false_or] at hp
         exact hp
 case fin =>
   rintro δ ⟨o, qm, rfl⟩
   rw [arL, asN] at qm
   refine aY (fW Q.c) ?_
   show _ = T.sh (.int (HK (aZ ks) es a c))
   unfold HK
   rw [List.find?_eq_none.mpr (fun y hy => by rw [qm y hy]; decide)]
   rfl
theorem Av : jf (ak Sd) ([("tree", ao), ("one", ao), ("other", ao), ("upper", ao), ("above", av), ("within", av)]) = true := Q.j
theorem ahm : aH ["tree", "one", "other", "upper"] ["tree", "one", "other"] (ak Sd) := aM
abbrev vV : Stmt := top 18
abbrev vW : Type := List L3.D × List L3.D × List Str × List Int × List Int × List L3.D × List L3.D × List cU × Int
def lW : vW -> List L3.D := fun (bs, nm, ks, es, ss, is, os, ws, i) => [gB bs nm Q.W is os Q.O, .int i]
def iI : vW -> Prop := fun (bs, nm, ks, es, ss, is, os, ws, i) => dD es /\ es.length <= 1000 /\ ks.length = es.length /\ Q.aC /\ Q.bI /\ 0 <= (dg ws i).tgt /\ (dg ws i).tgt < es.length
def lX : vW -> T := fun (bs, nm, ks, es, ss, is, os, ws, i) => (.sh (.int Q.aU) : T)
structure UI (X : Cx) (CL : Q.e) : Prop extends bP X where
 bF : Ln X 0 "chart"
 bM : Ln X 1 "number"
 lV : Ln X 2 "way"
 Yz : Gl X "top"
 YB : Gl X "SOURCE"
 lY : Gl X "TARGET"
 akK : Fc X CL "top" 3 3 CJ zK CK
 YC : ∃ u, X.mg "SOURCE" = some (.int 0 u)
 lZ : ∃ u, X.mg "TARGET" = some (.int 4 u)
 bX : wB X.K Q.E
 dz : bG X.K Q.E "ways"
 cB : bG X.K Q.E "tree"
theorem UJ (E : UI X CL) {aW : vW} (h : iI aW) :
   ay X CL b vV ["chart", "number", "way"] (lW aW) (lX aW) := by
 obtain ⟨bs, nm, ks, es, ss, is, os, ws, i⟩ := aW
 dsimp only [ay, iI, lW, lX] at h ⊢
 obtain ⟨ht, hl, hk, ⟨i0, i1⟩, hs, ht2⟩ := h
 refine aG E.g E.lV (aP (Om (HB E.bX E.dz (v_ E.bF.1) nL) (aA E.bM) (dP (f := cR) w0 i0 i1)) (t2 := .sh (cR (dg ws i))) rfl) ?_
 exact aY (c_ (ks, es, ss, (dg ws i).src, (dg ws i).tgt) E.akK E.Yz (ai Q.bo (ai (aE (aA E.lV) (ah (fH E.YC E.YB)) (cV (j := 0) rfl)) (ai Q.bP aB))) (by dsimp only [zK]; exact ⟨ht, hl, hk, hs, ht2⟩) rfl) rfl
theorem kU : jf (ak vV) ([("chart", ao), ("number", ao), ("way", ao), ("top", av), ("SOURCE", av), ("TARGET", av)]) = true := Q.j
theorem PD : aH ["chart", "number", "way"] ["chart", "number"] (ak vV) := aM
abbrev sr : Stmt := top 29
abbrev su : Type := List L3.D × List L3.D × List Str × List Int × List Int × List L3.D × List L3.D × List cU × List Int × List Int
def mR : su -> List L3.D := fun (bs, nm, ks, es, ss, is, os, ws, ops, gs) => [gB bs nm Q.W is os Q.O, .lst (ops.map .int), .lst (gs.map .int)]
def kg : su -> Prop := fun (bs, nm, ks, es, ss, is, os, ws, ops, gs) => dD es /\ es.length <= 1000 /\ ks.length = es.length /\ ops.length <= 1000 /\ (∀ m ∈ ops, 0 <= m /\ m < es.length) /\ (∀ i ∈ gs, Q.aC /\ Q.bI /\ 0 <= (dg ws i).tgt /\ (dg ws i).tgt < es.length) /\ ((gs.map (dg ws)).flatMap fun w => nO es ops Q.ad).length < 64
def mS : su -> T := fun (bs, nm, ks, es, ss, is, os, ws, ops, gs) => (.lst (((ia ks es ops (gs.map (dg ws))).map .int).map T.sh) : T)
structure PF (X : Cx) (CL : Q.e) : Prop extends bP X where
 bF : Ln X 0 "chart"
 cN : Ln X 1 "opens"
 j7 : Ln X 2 "going"
 mC : Ln X 3 "gone"
 bM : Ln X 4 "number"
 PJ : Gl X "left"
 qP : Gl X "way_top"
 f9 : Gl X "sorted"
 ahn : Fc X CL "left" 3 3 zI uB zJ
 Aw : Fc X CL "way_top" 4 2 lW iI lX
 gb : X.mg "sorted" = none
 bX : wB X.K Q.E
 cB : bG X.K Q.E "tree"
theorem PL (E : PF X CL) {aW : su} (h : kg aW) :
   ay X CL b sr ["chart", "opens", "going", "gone", "number"] (mR aW) (mS aW) := by
 obtain ⟨bs, nm, ks, es, ss, is, os, ws, ops, gs⟩ := aW
 dsimp only [ay, kg, mR, mS] at h ⊢
 obtain ⟨ht, hl, hk, X9, ho, hg, h64⟩ := h
 refine aG E.g E.mC Q.al ?_
 refine eO E.g E.bM (fun j δ => ∃ o, δ = [some (.sh (gB bs nm Q.W is os Q.O)), some (.sh (.lst (ops.map .int))), some (.sh (.lst (gs.map .int))), some (.lst (((((gs.take j).map (dg ws)).flatMap fun w => nO es ops Q.ad).map .int).map T.sh)), o])
   (dN (v_ E.j7.1)) ⟨_, rfl⟩ Q.aG ?turn ?fin
 case turn =>
   rintro j d δ hj ⟨o, rfl⟩
   obtain ⟨i, rfl, _, hi, qR, _, BO⟩ := iC hj
   obtain ⟨⟨i0, i1⟩, hs, ht2⟩ := hg i hi
   have wk : (((gs.take j).map (dg ws)).flatMap fun w => nO es ops Q.ad).length < 64 := by
     rw [auq]
     exact ath (pS _ _) h64
   have hll : (nO es ops Q.aU).length <= 1000 := by
     unfold nO
     rw [asR]
     exact asD (asZ _ _) X9
   refine Gk E.mC.1 rfl (aP (c_ (ks, es, ss, ops, gI ks es (dg ws i)) E.ahn E.PJ (ai Q.bo (ai (aA E.cN) (ai (ah (aP (c_ (bs, nm, ks, es, ss, is, os, ws, i) E.Aw E.qP (ai (aA E.bF) (ai (aA E.bM) aB)) (by dsimp only [iI]; exact ⟨ht, hl, hk, ⟨i0, i1⟩, hs, ht2⟩) rfl) (t2 := .sh (.int Q.aU)) rfl)) aB))) (by dsimp only [uB]; exact ⟨ht, hl, X9, ho⟩) (aU _)) (t2 := .lst (((nO es ops Q.aU).map .int).map T.sh)) rfl) rfl (by simp only [List.length_map]; omega) (au ⟨some (.sh (.int i)), ?_⟩)
   rw [BO, ash, asX]
   simp
 case fin =>
   rintro δ ⟨o, rfl⟩
   rw [arL, asN]
   exact aY (OL E.gb (vL E.mC.1) h64 E.f9) rfl
theorem gn : jf (ak sr) ([("chart", ao), ("opens", ao), ("going", ao), ("gone", ao), ("number", ao), ("left", av), ("way_top", av), ("sorted", av)]) = true := Q.j
theorem Mw : aH ["chart", "opens", "going", "gone", "number"] ["chart", "opens", "going"] (ak sr) := aM
abbrev mU : Stmt := top 24
abbrev mV : Type := List Str × List Int × List Int × List Int × List Int × List Int
def kh : mV -> List L3.D := fun (ks, es, ss, mem, ops, dS) => [ek ks es ss, .lst (mem.map .int), .lst (ops.map .int), .lst (dS.map .int)]
def iJ : mV -> Prop := fun (ks, es, ss, mem, ops, dS) => dD es /\ ks.length = es.length /\ mem.length = es.length /\ (∀ m ∈ ops, 0 <= m /\ m < es.length) /\ (∀ m ∈ dS, 0 <= m /\ m < es.length)
def ki : mV -> T := fun (ks, es, ss, mem, ops, dS) => (.lst (((NW (aZ ks) es dS mem ops).map .int).map T.sh) : T)
structure Jo (X : Cx) (CL : Q.e) : Prop extends bP X where
 cI : Ln X 0 "tree"
 cJ : Ln X 1 "memory"
 cN : Ln X 2 "opens"
 acT : Ln X 3 "moods"
 bC : Ln X 4 "behind"
 b4 : Ln X 5 "mood"
 dG : Ln X 6 "elder"
 bH : Gl X "list"
 bI : X.mg "list" = none
 fC : wB X.K Q.X
 eX : bG X.K Q.X "elders"
 dw : bG X.K Q.X "kinds"
theorem Jp (E : Jo X CL) {aW : mV} (h : iJ aW) :
   ay X CL b mU ["tree", "memory", "opens", "moods", "behind", "mood", "elder"] (kh aW) (ki aW) := by
 obtain ⟨ks, es, ss, mem, ops, dS⟩ := aW
 dsimp only [ay, iJ, kh, ki] at h ⊢
 obtain ⟨ht, hk, hm, ho, hmo⟩ := h
 refine aG E.g E.bC (cG E.bI (aA E.cJ) (bJ _) E.bH aT) ?_
 refine eO E.g E.b4 (fun j δ => ∃ o5 o6, δ = [some (.sh Q.W), some Q.bn, some (.sh (.lst (ops.map .int))), some (.sh (.lst (dS.map .int))), some (.lst (((NW (aZ ks) es dS mem (ops.take j)).map .int).map T.sh)), o5, o6])
   (dN (v_ E.cN.1)) ⟨_, _, rfl⟩ Q.aA ?turn ?fin
 case turn =>
   rintro j d δ hj ⟨o5, o6, rfl⟩
   obtain ⟨x, rfl, _, hxm, _, _, BO⟩ := iC hj
   have Ys := ho x hxm
   have hl := BW (aZ ks) es dS (ops.take j) mem
   refine aG E.g E.dG (cj (bz (fN E.fC E.eX (aA E.cI) oH) (aA E.b4) Q.ag) rfl) ?_
   show ic X CL b _ _ { nx := fun δ => ∃ o5 o6, δ = [_, _, _, _, some (.lst (((NW (aZ ks) es dS mem (ops.take Q.l)).map .int).map T.sh)), o5, o6], rt := _, bk := _, ct := _ }
   rw [BO, WU]
   unfold pQ
   generalize es.getD x.toNat 0 = q
   generalize NW (aZ ks) es dS mem (ops.take j) = acc at hl ⊢
   refine cT (pO (nA (yk (aA E.dG) (aA E.acT) (rfl) rfl).1 (fun hb => (kW (d7 (bz (fN E.fC E.dw (aA E.cI) nI) (aA E.dG) (dP Str.empty (hmo q (ar0 hb)).1 (by have := hmo q (ar0 hb); omega))) (ah aX)).1)))) (fun hp => ?_) (fun hp => au (au ?_))
   . rw [asa, asI] at hp
     have hq := hmo q hp.1
     have hlen : ((acc.map L3.D.int).map T.sh).length = acc.length := by simp
     refine La E.bC.1 (v_ E.b4.1) (aA E.dG) rfl (C7 hq.1 (by rw [hlen]; omega)) (au (au ?_))
     rw [arU (show q ∈ dS /\ aZ ks q = true from hp), ats, ats]
     exact ⟨_, _, rfl⟩
   . rw [arS (fun z => by
       have : (decide (q ∈ dS) && decide (ks.getD q.toNat Str.empty = "one")) = true := by
         rw [asa, asI]; exact z
       rw [this] at hp
       cases hp)]
     exact ⟨_, _, rfl⟩
 case fin =>
   rintro δ ⟨o5, o6, rfl⟩
   rw [arL, asN]
   exact aY (vM E.bC.1) rfl
theorem e9 : jf (ak mU) ([("tree", ao), ("memory", ao), ("opens", ao), ("moods", ao), ("behind", ao), ("mood", ao), ("elder", ao), ("list", av)]) = true := Q.j
theorem Fi : aH ["tree", "memory", "opens", "moods", "behind", "mood", "elder"] ["tree", "memory", "opens", "moods"] (ak mU) := aM
abbrev Jq : Stmt := top 12
abbrev Jr : Type := List Str × List Int × List Int × Int × Int
def zL : Jr -> List L3.D := fun (ks, es, ss, u, m) => [ek ks es ss, .int u, .int m]
def zM : Jr -> Prop := fun (ks, es, ss, u, m) => dD es /\ 0 <= m /\ m < es.length /\ es.length <= 1000
def uE : Jr -> T := fun (ks, es, ss, u, m) => (.lst (((bZ es u m).map .int).map T.sh) : T)
structure aho (X : Cx) (CL : Q.e) : Prop extends bP X where
 cI : Ln X 0 "tree"
 iY : Ln X 1 "upper"
 b4 : Ln X 2 "mood"
 mW : Ln X 3 "steps"
 dG : Ln X 4 "elder"
 sf : Gl X "above"
 bH : Gl X "list"
 kK : Gl X "reversed"
 zH : Fc X CL "above" 1 2 nh kQ ni
 bI : X.mg "list" = none
 kL : X.mg "reversed" = none
theorem ahp (E : aho X CL) {aW : Jr} (h : zM aW) :
   ay X CL b Jq ["tree", "upper", "mood", "steps", "elder"] (zL aW) (uE aW) := by
 obtain ⟨ks, es, ss, u, m⟩ := aW
 dsimp only [ay, zM, zL, uE] at h ⊢
 have h' := h
 obtain ⟨ht, h0, h1, hlen⟩ := h
 have pR : (bD es m).length <= es.length + 1 := BU _ _ _
 refine aG E.g E.mW (gu (aJ (v_ E.b4.1) dh) Q.r) ?_
 refine eO E.g E.dG (fun j δ => ∃ o, (∀ x ∈ (bD es m).take j, x ≠ u) /\ δ = [some (.sh Q.W), some (.sh (.int u)), some (.sh (.int m)), some (.lst (((m :: (bD es m).take j).map .int).map T.sh)), o])
   (dN (iO (c_ (_, _, _, _) E.zH E.sf (ai (aA E.cI) (ai (aA E.b4) aB)) (h') (aU _)))) ⟨_, fun x hx => by simp at hx, rfl⟩ Q.aA ?turn ?fin
 case turn =>
   rintro j d δ hj ⟨o, qm, rfl⟩
   rw [asA] at hj
   cases hx : (bD es m)[j]? with
   | none => rw [hx] at hj; cases hj
   | some x =>
     rw [hx] at hj
     cases hj
     have qR : j < (bD es m).length := (asp.mp hx).1
     have BO : (bD es m).take Q.l = (bD es m).take j ++ [x] := by rw [atV, hx]; rfl
     refine cT (eU (aA E.dG) (aA E.iY)).1 (fun hp => abf ?brk) (fun hp => au ?_)
     case brk =>
       have e : x = u := ar0 hp
       have etw : (bD es m).takeWhile Q.bc = (bD es m).take j := by
         have Ve : bD es m = (bD es m).take j ++ x :: (bD es m).drop Q.l := by
           have h2 := atY j (bD es m)
           rw [at9 qR] at h2
           have : (bD es m)[j] = x := (asp.mp hx).2
           rw [this] at h2
           exact h2.symm
         conv => lhs; rw [Ve]
         rw [List.takeWhile_append_of_pos (fun y hy => by simpa using qm y hy), List.takeWhile_cons, if_neg (by simp [e]), List.append_nil]
       refine aY (Dd E.g E.bI E.kL (vL E.mW.1) (bJ _) E.bH E.kK) ?_
       show _ = T.lst (((bZ es u m).map L3.D.int).map T.sh)
       unfold bZ
       rw [etw]
       simp only [List.map_reverse]
     . have e : ¬ x = u := asq hp
       refine iA E.mW.1 rfl (v_ E.dG.1) rfl Q.z (au ?_)
       have eh : (((m :: (bD es m).take j).map L3.D.int).map T.sh) ++ [T.sh (.int x)] = ((m :: (bD es m).take Q.l).map L3.D.int).map T.sh := by rw [BO]; simp
       rw [eh]
       refine ⟨_, fun y hy => ?_, rfl⟩
       rw [BO] at hy
       rcases arV.mp hy with hy | hy
       . exact qm y hy
       . have : y = x := by simpa using hy
         rw [this]; exact e
 case fin =>
   rintro δ ⟨o, qm, rfl⟩
   refine aY (Dd E.g E.bI E.kL (vL E.mW.1) (bJ _) E.bH E.kK) ?_
   show _ = T.lst (((bZ es u m).map L3.D.int).map T.sh)
   rw [arL, asN] at qm ⊢
   try dsimp only at qm ⊢
   unfold bZ
   have etw : (bD es m).takeWhile Q.bc = bD es m := by
     have := List.takeWhile_append_of_pos (p := fun x => decide (x ≠ u)) (l₁ := bD es m) (l₂ := []) (fun y hy => by simpa using qm y hy)
     simpa using this
   rw [etw]
   simp only [List.map_reverse]
theorem pG : jf (ak Jq) ([("tree", ao), ("upper", ao), ("mood", ao), ("steps", ao), ("elder", ao), ("above", av), ("list", av), ("reversed", av)]) = true := Q.j
theorem acU : aH ["tree", "upper", "mood", "steps", "elder"] ["tree", "upper", "mood"] (ak Jq) := aM
abbrev vX : Stmt := top 22
abbrev vY : Type := List Str × List Int × List Int × List Int × Int × Nat × Str
def pH : vY -> List L3.D := fun (ks, es, ss, mem, u, tg, mode) => [ek ks es ss, .lst (mem.map .int), .int u, .int tg, .str mode]
def l0 : vY -> Prop := fun (ks, es, ss, mem, u, tg, mode) => (es.length <= 900 /\ ks.length = es.length /\ ss.length = es.length /\ mem.length = es.length /\ tg < es.length /\ rm mode /\ ∀ k : Nat, k < es.length -> aR ks k = true \/ aq ks k = true \/ ks.getD k Str.empty = "one") /\ di (aR ks) Q.g es ss mem /\ es.length <= 41 /\ (u = -1 \/ u ∈ bD es tg)
def pI : vY -> T := fun (ks, es, ss, mem, u, tg, mode) => (.lst (((sortI (enP (aR ks) Q.g es ss mem (cS mode) (eG mode) u tg)).map .int).map T.sh) : T)
structure UK (X : Cx) (CL : Q.e) : Prop extends bP X where
 cI : Ln X 0 "tree"
 cJ : Ln X 1 "memory"
 iY : Ln X 2 "upper"
 nX : Ln X 3 "target"
 pV : Ln X 4 "mode"
 mW : Ln X 5 "steps"
 bL : Ln X 6 "found"
 jb : Ln X 7 "step"
 lq : Ln X 8 "place"
 PN : Gl X "road"
 j9 : Gl X "opened"
 zu : Gl X "inner"
 f9 : Gl X "sorted"
 ahq : Fc X CL "road" 2 3 zL zM uE
 qJ : Fc X CL "opened" 43 4 kN (fO 40) kO
 Jd : Fc X CL "inner" 1 2 qH kM qI
 gb : X.mg "sorted" = none
 fC : wB X.K Q.X
 dw : bG X.K Q.X "kinds"
theorem UL (E : UK X CL) {aW : vY} (h : l0 aW) :
   ay X CL b vX ["tree", "memory", "upper", "target", "mode", "steps", "found", "step", "place"] (pH aW) (pI aW) := by
 obtain ⟨ks, es, ss, mem, u, tg, mode⟩ := aW
 dsimp only [ay, l0, pH, pI] at h ⊢
 obtain ⟨xx, hT, h41, hu⟩ := h
 obtain ⟨hl, hk, hs, hm, Bo, hmo, hkd⟩ := xx
 have ht := hT.pre.1
 have hpj : dD es /\ (0 : Int) <= tg /\ (tg : Int) < es.length /\ es.length <= 1000 := ⟨ht, by omega, by omega, by omega⟩
 refine aG E.g E.mW (c_ ((ks, es, ss, u, (tg : Int))) E.ahq E.PN (ai (aA E.cI) (ai (aA E.iY) (ai (aA E.nX) aB))) (hpj) (aU _)) ?_
 rw [show uE (ks, es, ss, u, (tg : Int)) = T.lst (((bZ es u tg).map .int).map T.sh) from rfl]
 have li := Dr ht (u := u) (t := (tg : Int)) Q.a Q.a hu
 have hrl : (bZ es u tg).length <= es.length + 2 := by
   unfold bZ
   rw [asR, ar8]
   have h1 := (atU (l := bD es (tg : Int)) Q.bc).length_le
   have h2 : (bD es (tg : Int)).length <= es.length + 1 := BU _ _ _
   omega
 have hdl : (bZ es u tg).dropLast.length <= es.length + 2 := by rw [List.length_dropLast]; omega
 have hop : ∀ (far near : Bool) (k : Nat), k < es.length -> (ju (aR ks) Q.g es ss mem far es.length near k).length <= 41 := fun far near k hk => asD (BZ hT hk) h41
 have aqS : (Ae ks es ss mem mode tg).length <= 41 := hop _ _ tg Bo
 have abr : ∀ p : Int, Ae ks es ss mem "new" p = ju (aR ks) Q.g es ss mem false es.length false p := fun p => by
   unfold Ae
   rw [show cS "new" = false by decide +kernel, show eG "new" = false by decide +kernel]
 have YD : cutD ((bZ es u tg).map L3.D.int) none (some (-1)) = (bZ es u tg).dropLast.map L3.D.int := by rw [Wg, T9]
 refine aG E.g E.bL (aP (t2 := T.lst (((((bZ es u tg).dropLast ++ Ae ks es ss mem mode tg)).map L3.D.int).map T.sh)) (uW (ck (ye (vL E.mW.1) (bJ _) BI (BJ Q.ar))) (ck (c_ ((ks, es, ss, mem, tg, mode)) E.qJ E.j9 (ai (aA E.cI) (ai (aA E.cJ) (ai (aA E.nX) (ai (aA E.pV) aB)))) (by dsimp only [fO]; exact (⟨⟨hl, hk, hs, hm, Bo, hmo, hkd⟩, hT, by omega⟩)) (aU _))) ((by rw [YD]; exact bJ _)) (bJ _) (Nat.le_of_lt (bS (by rw [YD, List.length_map, List.length_map]; exact (show (bZ es u tg).dropLast.length + (Ae ks es ss mem mode tg).length <= 1000 by omega))))) (by rw [YD, ← List.map_append])) ?_
 generalize hF : (fun s : Int => ((gf es s).filter Q.aB).flatMap Q.aR) = F
 have hFl : ∀ s : Int, (F s).length <= 41 * 41 := fun s => by
   rw [← hF]
   have h1 : ((gf es s).filter Q.aB).length <= 41 := asD (asZ _ _) (asD (HM es s) h41)
   refine asD (yu (c := 41) fun p hp => ?_) (Nat.mul_le_mul_right _ h1)
   have hb := kY (asf.mp hp).1
   obtain ⟨q, rfl⟩ : ∃ q : Nat, p = q := ⟨p.toNat, by omega⟩
   exact hop _ _ q Q.a
 have hFF : ∀ l : List Int, l.length <= 44 -> (l.flatMap F).length <= 44 * (41 * 41) := fun l h => asD (yu (c := 41 * 41) fun p _ => hFl p) (Nat.mul_le_mul_right _ h)
 have akM : enP (aR ks) Q.g es ss mem (cS mode) (eG mode) u tg = (bZ es u tg).dropLast ++ Ae ks es ss mem mode tg ++ ((bZ es u tg).dropLast.filter (fun s => aq ks s)).flatMap F := by
   rw [← hF]
   rfl
 have aeK := WZ hT (far := cS mode) (near := eG mode) Bo hu (fX := bZ es u tg) li
 have hpl := aeK.length_eq
 have hpb := (RL (isAll := aq ks) (es := es) (ss := ss) (mem := mem) (far := cS mode) (near := eG mode) (fX := bZ es u tg) (t := tg) es.length).2.2.2.1
 rw [hpl] at hpb
 rw [akM] at hpb ⊢
 clear akM aeK hpl
 have hdm : ∀ s ∈ (bZ es u tg).dropLast, 0 <= s /\ s < es.length := fun s hs => by
   have := ja ht Bo ((li s).mp (uZ ht Bo hs).1)
   omega
 have hrm : ∀ s : Int, s ∈ bZ es u tg ↔ s ∈ bZ es u tg := fun _ => Iff.rfl
 generalize qq : (bZ es u tg).dropLast ++ Ae ks es ss mem mode tg = base at hpb ⊢
 have hbl : base.length <= 100 := by
   rw [← qq, arY]
   omega
 generalize hdr : (bZ es u tg).dropLast = dr at hdl hdm hpb YD ⊢
 refine eO E.g E.jb (fun j δ => ∃ o7 o8, δ = [some (.sh Q.W), some Q.bn, some (.sh (.int u)), some (.sh (.int tg)), some (.sh (.str mode)), some (.lst (((bZ es u tg).map .int).map T.sh)), some (.lst (((base ++ ((dr.take j).filter (fun s => aq ks s)).flatMap F).map .int).map T.sh)), o7, o8])
   (dN (iO (aP (t2 := T.lst ((dr.map L3.D.int).map T.sh)) (ye (vL E.mW.1) (bJ _) BI (BJ Q.ar)) (by rw [YD])))) ⟨_, _, by simp; rfl⟩ Q.aA ?turn ?fin
 case turn =>
   rintro j d δ hj ⟨o7, o8, rfl⟩
   obtain ⟨x, rfl, _, hxm, qR, _, BO⟩ := iC hj
   have Ys := hdm x hxm
   have hfl : ((dr.take j).filter (fun s => aq ks s)).length <= 44 := asD (asZ _ _) (by rw [atm]; omega)
   have aqV := hFF _ hfl
   refine cT (d7 (bz (fN E.fC E.dw (aA E.cI) nI) (aA E.jb) (dP Str.empty Ys.1 Q.a)) (ah aX)).1 (fun hp => ?_) (fun hp => au (au ?_))
   . have hp : aq ks x = true := hp
     have etk : ((dr.take Q.l).filter (fun s => aq ks s)).flatMap F = ((dr.take j).filter (fun s => aq ks s)).flatMap F ++ F x := by
       rw [BO, atc, aul hp, atO, asX]
       simp
     show ic X CL b _ _ { nx := fun δ => ic X CL b _ δ { nx := fun δ => ∃ o7 o8, δ = [_, _, _, _, _, _, some (.lst (((base ++ ((dr.take Q.l).filter (fun s => aq ks s)).flatMap F).map .int).map T.sh)), o7, o8], rt := _, bk := _, ct := _ }, rt := _, bk := _, ct := _ }
     rw [etk, ← arR]
     generalize hcu : base ++ ((dr.take j).filter (fun s => aq ks s)).flatMap F = cur
     have pR : cur.length <= 100 + 44 * (41 * 41) := by rw [← hcu, arY]; omega
     have eF : F x = ((gf es x).filter Q.aB).flatMap Q.aR := by rw [← hF]
     have hil := HM es x
     refine eO E.g E.lq (fun i δ => ∃ o8, δ = [some (.sh Q.W), some Q.bn, some (.sh (.int u)), some (.sh (.int tg)), some (.sh (.str mode)), some (.lst (((bZ es u tg).map .int).map T.sh)), some (.lst (((cur ++ (((gf es x).take i).filter Q.aB).flatMap Q.aR).map .int).map T.sh)), some (.sh (.int x)), o8])
       (dN (iO (c_ ((ks, es, ss, x)) E.Jd E.zu (ai (aA E.cI) (ai (aA E.jb) aB)) ((by dsimp only [kM]; omega)) (aU _)))) ⟨_, by simp; rfl⟩ (fun j δ ⟨_, e⟩ => by subst e; exact Nat.le_of_ble_eq_true rfl) ?Xu ?fin2
     case Xu =>
       rintro i d δ hi ⟨o8, rfl⟩
       obtain ⟨p, rfl, _, hpm, anI, _, ahr⟩ := iC hi
       try dsimp only at hpm anI ahr
       have hb := kY hpm
       obtain ⟨q, rfl⟩ : ∃ q : Nat, p = q := ⟨p.toNat, by omega⟩
       have Bm : ((((gf es x).take i).filter Q.aB).flatMap Q.aR).length <= 41 * 41 := by
         have h1 : (((gf es x).take i).filter Q.aB).length <= 41 := asD (asZ _ _) (by rw [atm]; omega)
         refine asD (yu (c := 41) fun p hp => ?_) (Nat.mul_le_mul_right _ h1)
         have hb := kY (List.mem_of_mem_take (asf.mp hp).1)
         obtain ⟨q, rfl⟩ : ∃ q : Nat, p = q := ⟨p.toNat, by omega⟩
         exact hop _ _ q Q.a
       refine cT (BL (l := bZ es u tg) (aA E.lq) (vL E.mW.1) rfl rfl).1 (fun hq => ?_) (fun hq => au (au ?_))
       . refine Gk E.bL.1 rfl (aP (t2 := T.lst (((Ae ks es ss mem "new" q).map .int).map T.sh)) (c_ ((ks, es, ss, mem, q, ("new" : Str))) E.qJ E.j9 (ai (aA E.cI) (ai (aA E.cJ) (ai (aA E.lq) (ai (ah aX) aB)))) (by dsimp only [fO]; exact (⟨⟨hl, hk, hs, hm, by omega, .inl rfl, hkd⟩, hT, by omega⟩)) (aU _)) rfl) rfl ?len (au (au ?_))
         case len =>
           show _ + (((Ae ks es ss mem "new" q).map L3.D.int).map T.sh).length <= _
           have := hop false false q Q.a
           rw [abr]
           simp only [arL, arY]
           omega
         have e1 : (((cur ++ (((gf es x).take i).filter Q.aB).flatMap Q.aR).map L3.D.int).map T.sh) ++ (((Ae ks es ss mem "new" q).map L3.D.int).map T.sh) = ((cur ++ (((gf es x).take (i + 1)).filter Q.aB).flatMap Q.aR).map L3.D.int).map T.sh := by
           rw [ahr, atc, aul (p := fun p => !decide (p ∈ bZ es u tg)) hq, atO, asX, abr, ← arR, ← ash, ← ash]
           simp
         rw [show ((((cur ++ (((gf es x).take i).filter Q.aB).flatMap Q.aR).map L3.D.int).map T.sh) ++ (((Ae ks es ss mem "new" q).map L3.D.int).map T.sh)) = _ from e1]
         exact ⟨_, rfl⟩
       . have e1 : (((gf es x).take i).filter Q.aB).flatMap Q.aR = (((gf es x).take (i + 1)).filter Q.aB).flatMap Q.aR := by
           rw [ahr, atc, auk (p := fun p => !decide (p ∈ bZ es u tg)) (by rw [hq]; decide), atO, asj]
         rw [e1]
         exact ⟨_, rfl⟩
     case fin2 =>
       rintro δ ⟨o8, rfl⟩
       rw [arL, asN]
       refine au (au ?_)
       dsimp only
       rw [eF]
       exact ⟨_, _, rfl⟩
   . have hp : aq ks x = false := hp
     have e1 : ((dr.take j).filter (fun s => aq ks s)).flatMap F = ((dr.take Q.l).filter (fun s => aq ks s)).flatMap F := by
       rw [BO, atc, auk (p := fun s => aq ks s) (by rw [hp]; decide), atO, asj]
     rw [e1]
     exact ⟨_, _, rfl⟩
 case fin =>
   rintro δ ⟨o7, o8, rfl⟩
   rw [arL, asN]
   exact aY (kH E.gb (vL E.bL.1) Q.a E.f9) rfl
theorem dR : jf (ak vX) ([("tree", ao), ("memory", ao), ("upper", ao), ("target", ao), ("mode", ao), ("steps", ao), ("found", ao), ("step", ao), ("place", ao), ("road", av), ("opened", av), ("inner", av), ("sorted", av)]) = true := Q.j
theorem PR : aH ["tree", "memory", "upper", "target", "mode", "steps", "found", "step", "place"] ["tree", "memory", "upper", "target", "mode"] (ak vX) := aM
abbrev lH : Stmt := top 30
abbrev lI : Type := List L3.D × List L3.D × List Str × List Int × List Int × List L3.D × List L3.D × List cU × List Int × List Int
def jB : lI -> List L3.D := fun (bs, nm, ks, es, ss, is, os, ws, mem, gs) => [gB bs nm Q.W is os Q.O, .lst (mem.map .int), .lst (gs.map .int)]
def gW : lI -> Prop := fun (bs, nm, ks, es, ss, is, os, ws, mem, gs) => (es.length <= 40 /\ ks.length = es.length /\ ss.length = es.length /\ mem.length = es.length /\ ∀ k : Nat, k < es.length -> aR ks k = true \/ aq ks k = true \/ ks.getD k Str.empty = "one") /\ di (aR ks) Q.g es ss mem /\ (∀ i ∈ gs, Q.aC /\ Q.bI /\ (0 <= (dg ws i).tgt /\ (dg ws i).tgt < es.length) /\ rm (dg ws i).mode /\ (gI ks es (dg ws i) = -1 \/ gI ks es (dg ws i) ∈ bD es (dg ws i).tgt.toNat)) /\ ((gs.map (dg ws)).flatMap (Gw ks es ss mem)).length < 64
def jC : lI -> T := fun (bs, nm, ks, es, ss, is, os, ws, mem, gs) => (.lst (((rA ks es ss mem (gs.map (dg ws))).map .int).map T.sh) : T)
structure Fj (X : Cx) (CL : Q.e) : Prop extends bP X where
 bF : Ln X 0 "chart"
 cJ : Ln X 1 "memory"
 j7 : Ln X 2 "going"
 rZ : Ln X 3 "come"
 bM : Ln X 4 "number"
 lV : Ln X 5 "way"
 Ax : Gl X "entered"
 qP : Gl X "way_top"
 lY : Gl X "TARGET"
 Js : Gl X "MODE"
 f9 : Gl X "sorted"
 UM : Fc X CL "entered" 44 5 pH l0 pI
 Aw : Fc X CL "way_top" 4 2 lW iI lX
 lZ : ∃ u, X.mg "TARGET" = some (.int 4 u)
 Jt : ∃ u, X.mg "MODE" = some (.int 5 u)
 gb : X.mg "sorted" = none
 bX : wB X.K Q.E
 dz : bG X.K Q.E "ways"
 cB : bG X.K Q.E "tree"
theorem Fl (E : Fj X CL) {aW : lI} (h : gW aW) :
   ay X CL b lH ["chart", "memory", "going", "come", "number", "way"] (jB aW) (jC aW) := by
 obtain ⟨bs, nm, ks, es, ss, is, os, ws, mem, gs⟩ := aW
 dsimp only [ay, gW, jB, jC] at h ⊢
 obtain ⟨⟨hl, hk, hsl, Bo, hkd⟩, hT, hg, h64⟩ := h
 have ht := hT.pre.1
 have hfl : ∀ l : List cU, (l.flatMap fun w => sortI (Gw ks es ss mem w)).length = (l.flatMap (Gw ks es ss mem)).length := fun l => (Al l).length_eq
 refine aG E.g E.rZ Q.al ?_
 refine eO E.g E.bM (fun j δ => ∃ o o', δ = [some (.sh (gB bs nm Q.W is os Q.O)), some Q.bn, some (.sh (.lst (gs.map .int))), some (.lst (((((gs.take j).map (dg ws)).flatMap fun w => sortI (Gw ks es ss mem w)).map .int).map T.sh)), o, o'])
   (dN (v_ E.j7.1)) ⟨_, _, rfl⟩ Q.aA ?turn ?fin
 case turn =>
   rintro j d δ hj ⟨o, o', rfl⟩
   obtain ⟨i, rfl, _, hi, qR, _, BO⟩ := iC hj
   obtain ⟨⟨i0, i1⟩, hs, ht2, hmo, hup⟩ := hg i hi
   have wk : (((gs.take j).map (dg ws)).flatMap fun w => sortI (Gw ks es ss mem w)).length < 64 := by
     rw [hfl, auq]
     exact ath (pS _ _) h64
   have anJ : (((gs.take Q.l).map (dg ws)).flatMap fun w => sortI (Gw ks es ss mem w)).length < 64 := by
     rw [hfl, auq]
     exact ath (pS _ _) h64
   have e2 : ((gs.take Q.l).map (dg ws)).flatMap (fun w => sortI (Gw ks es ss mem w)) = (((gs.take j).map (dg ws)).flatMap fun w => sortI (Gw ks es ss mem w)) ++ sortI (Gw ks es ss mem (dg ws i)) := by
     rw [BO, ash, asX]
     simp
   rw [e2, arY] at anJ
   have etg : ((dg ws i).tgt.toNat : Int) = (dg ws i).tgt := by omega
   refine aG E.g E.lV (aP (Om (HB E.bX E.dz (v_ E.bF.1) nL) (aA E.bM) (dP (f := cR) w0 i0 i1)) (t2 := .sh (cR (dg ws i))) rfl) ?_
   refine Gk E.rZ.1 rfl (aP (c_ (ks, es, ss, mem, gI ks es (dg ws i), (dg ws i).tgt.toNat, (dg ws i).mode) E.UM E.Ax (ai Q.bo (ai (aA E.cJ) (ai (ah (aP (c_ (bs, nm, ks, es, ss, is, os, ws, i) E.Aw E.qP (ai (aA E.bF) (ai (aA E.bM) aB)) (by dsimp only [iI]; exact ⟨ht, by omega, hk, ⟨i0, i1⟩, hs, ht2⟩) rfl) (t2 := .sh (.int Q.aU)) rfl)) (ai (tK Q.bP (congrArg L3.D.int etg.symm)) (ai (aE (aA E.lV) (ah (fH E.Jt E.Js)) (cV (j := 5) rfl)) aB))))) (by dsimp only [l0]; exact ⟨⟨by omega, hk, hsl, Bo, by omega, hmo, hkd⟩, hT, by omega, hup⟩) (aU _)) (t2 := .lst (((sortI (Gw ks es ss mem (dg ws i))).map .int).map T.sh)) rfl) rfl (by simp only [List.length_map]; omega) (au ⟨some (.sh (.int i)), some (.sh (cR (dg ws i))), ?_⟩)
   rw [e2]
   simp
 case fin =>
   rintro δ ⟨o, o', rfl⟩
   rw [arL, asN]
   refine aY (kH E.gb (vL E.rZ.1) (by rw [hfl]; exact h64) E.f9) ?_
   rw [Ak (Al _)]
   rfl
theorem cK : jf (ak lH) ([("chart", ao), ("memory", ao), ("going", ao), ("come", ao), ("number", ao), ("way", ao), ("entered", av), ("way_top", av), ("TARGET", av), ("MODE", av), ("sorted", av)]) = true := Q.j
theorem D8 : aH ["chart", "memory", "going", "come", "number", "way"] ["chart", "memory", "going"] (ak lH) := aM
abbrev zN : Stmt := top 26
abbrev zO : Type := List L3.D × List L3.D × List Str × List Int × List Int × List L3.D × List L3.D × List cU × Int
def oz : zO -> List L3.D := fun (bs, nm, ks, es, ss, is, os, ws, m) => [gB bs nm Q.W is os Q.O, .int m]
def jF : zO -> Prop := fun (bs, nm, ks, es, ss, is, os, ws, m) => dD es /\ ks.length = es.length /\ es.length <= 1000 /\ 0 <= m /\ m < es.length
def oA : zO -> T := fun (bs, nm, ks, es, ss, is, os, ws, m) => (.sh (.bl (fY ks es ws m)) : T)
structure YF (X : Cx) (CL : Q.e) : Prop extends bP X where
 bF : Ln X 0 "chart"
 b4 : Ln X 1 "mood"
 lV : Ln X 2 "way"
 Js : Gl X "MODE"
 lY : Gl X "TARGET"
 uD : Gl X "within"
 Jt : ∃ u, X.mg "MODE" = some (.int 5 u)
 lZ : ∃ u, X.mg "TARGET" = some (.int 4 u)
 uC : Fc X CL "within" 2 3 kR gG kT
 bX : wB X.K Q.E
 fC : wB X.K Q.X
 dz : bG X.K Q.E "ways"
 dw : bG X.K Q.X "kinds"
 cB : bG X.K Q.E "tree"
theorem YG (E : YF X CL) {aW : zO} (h : jF aW) :
   ay X CL b zN ["chart", "mood", "way"] (oz aW) (oA aW) := by
 obtain ⟨bs, nm, ks, es, ss, is, os, ws, m⟩ := aW
 dsimp only [ay, jF, oz, oA] at h ⊢
 obtain ⟨ht, hk, hl, m0, m1⟩ := h
 refine cT (V1 (bz (fN E.fC E.dw Q.bo nI) (aA E.b4) (dP Str.empty m0 Q.a)) (ah aX)).1 (fun hp => ?_) (fun hp => au ?_)
 . refine aY tu ?_
   have : aZ ks m = false := by
     rw [as1] at hp
     exact hp
   show T.sh (.bl false) = T.sh (.bl (fY ks es ws m))
   unfold fY
   rw [this]
   rfl
 have Ds : aZ ks m = true := by
   rw [Bool.not_eq_false'] at hp
   exact hp
 have hre : fY ks es ws m = ws.any (Gz es m) := by unfold fY; rw [Ds]; rfl
 rw [hre]
 refine eO E.g E.lV (fun j δ => (∀ i x, i < j -> ws[i]? = some x -> Gz es m x = false) /\ ∃ o, δ = [some (.sh (gB bs nm Q.W is os Q.O)), some (.sh (.int m)), o])
   (dN (HB E.bX E.dz (v_ E.bF.1) nL)) ⟨fun i x hi => by omega, _, rfl⟩ Q.aA ?turn ?fin
 case turn =>
   rintro j d δ hj ⟨hno, o, rfl⟩
   obtain ⟨w, rfl, hw, _, qR, _, _⟩ := iC hj
   refine cT (pO (nA (V1 (aE (aA E.lV) (ah (fH E.Jt E.Js)) (cV (j := 5) rfl)) (ah aX)).1 (fun _ => kW (eU Q.bP (aA E.b4)).1))) (fun hp => ?_) (fun hp => au ?_)
   . refine aY tu ?_
     rw [LJ hw (by unfold Gz; rw [hp]; rfl)]
   refine cT (pO (nA (d7 (aE (aA E.lV) (ah (fH E.Jt E.Js)) (cV (j := 5) rfl)) (ah aX)).1 (fun _ => kW (g6 (c_ (ks, es, ss, m, w.tgt) E.uC E.uD (ai Q.bo (ai (aA E.b4) (ai Q.bP aB))) (by dsimp only [gG]; exact ⟨ht, m0, m1, hl⟩) rfl))))) (fun hq => ?_) (fun hq => au (au ?_))
   . refine aY tu ?_
     have hq : Q.bZ = true := hq
     rw [LJ hw (by unfold Gz; rw [hq, Bool.or_true])]
   . have hq : Q.bZ = false := hq
     refine ⟨fun i x hi hx => ?_, _, rfl⟩
     by_cases e : i = j
     . subst e
       rw [hw] at hx
       cases hx
       unfold Gz
       rw [hp, hq]
       rfl
     . exact hno i x Q.a hx
 case fin =>
   rintro δ ⟨hno, o, rfl⟩
   refine aY tu ?_
   rw [any_none fun i x hx => hno i x (by rw [arL]; exact (asp.mp hx).1) hx]
theorem nj : jf (ak zN) ([("chart", ao), ("mood", ao), ("way", ao), ("MODE", av), ("TARGET", av), ("within", av)]) = true := Q.j
theorem UN : aH ["chart", "mood", "way"] ["chart", "mood"] (ak zN) := aM
abbrev sy : Stmt := top 31
abbrev sA : Type := List L3.D × List L3.D × List Str × List Int × List Int × List L3.D × List Q.k × List cU × List Int × List Int × List Int
def mX : sA -> List L3.D := fun (bs, nm, ks, es, ss, is, os, ws, gone, mem, bh) => [gB bs nm Q.W is (os.map .tup) Q.O, .lst (gone.map .int), .lst (mem.map .int), .lst (bh.map .int)]
def ko : sA -> Prop := fun (bs, nm, ks, es, ss, is, os, ws, gone, mem, bh) => dD es /\ es.length <= 1000 /\ ks.length = es.length /\ os.length = es.length /\ mem.length = es.length /\ bh.length = es.length /\ rB os /\ gone.length <= 1000 /\ ∀ m ∈ gone, 0 <= m /\ m < es.length
def mY : sA -> T := fun (bs, nm, ks, es, ss, is, os, ws, gone, mem, bh) => (.lst ((DB (fY ks es ws) os mem bh gone).map T.sh) : T)
structure PV (X : Cx) (CL : Q.e) : Prop extends bP X where
 bF : Ln X 0 "chart"
 mC : Ln X 1 "gone"
 cJ : Ln X 2 "memory"
 bC : Ln X 3 "behind"
 c6 : Ln X 4 "rows"
 b4 : Ln X 5 "mood"
 D9 : Gl X "heeded"
 Ea : Fc X CL "heeded" 3 2 oz jF oA
 bX : wB X.K Q.E
 rS : bG X.K Q.E "outs"
theorem PX (E : PV X CL) {aW : sA} (h : ko aW) :
   ay X CL b sy ["chart", "gone", "memory", "behind", "rows", "mood"] (mX aW) (mY aW) := by
 obtain ⟨bs, nm, ks, es, ss, is, os, ws, gone, mem, bh⟩ := aW
 dsimp only [ay, ko, mX, mY] at h ⊢
 obtain ⟨ht, hl, hk, X9, Bo, hbl, hr, hgl, hg⟩ := h
 refine aG E.g E.c6 Q.al ?_
 refine eO E.g E.b4 (fun j δ => ∃ o, δ = [some (.sh (gB bs nm Q.W is (os.map .tup) Q.O)), some (.sh (.lst (gone.map .int))), some Q.bn, some (.sh (.lst (bh.map .int))), some (.lst ((DB (fY ks es ws) os mem bh (gone.take j)).map T.sh)), o])
   (dN (v_ E.mC.1)) ⟨_, rfl⟩ Q.aG ?turn ?fin
 case turn =>
   rintro j d δ hj ⟨o, rfl⟩
   obtain ⟨m, rfl, _, hm, qR, _, BO⟩ := iC hj
   obtain ⟨m0, m1⟩ := hg m hm
   have hln := (HV (gj := fY ks es ws) (mem := mem) (bh := bh) hr (gone.take j)).1
   have htl : (gone.take j).length <= j := by simp; omega
   obtain ⟨g1, g2⟩ := hr.get m.toNat
   rw [BO, Ug]
   generalize DB (fY ks es ws) os mem bh (gone.take j) = rs at hln ⊢
   refine iA E.c6.1 rfl (fS (aJ aX (aJ (v_ E.b4.1) dh)) Q.r) rfl (by rw [arL]; omega) ?_
   refine C6 (fun δ => δ = [some (.sh (gB bs nm Q.W is (os.map .tup) Q.O)), some (.sh (.lst (gone.map .int))), some Q.bn, some (.sh (.lst (bh.map .int))), some (.lst ((rs ++ (L3.D.tup [.str "out", .int m] :: Q.cl)).map T.sh)), some (.sh (.int m))])
     (g6 (aP (c_ (bs, nm, ks, es, ss, is, os.map .tup, ws, m) E.Ea E.D9 (ai (aA E.bF) (ai (aA E.b4) aB)) (by dsimp only [jF]; exact ⟨ht, hk, hl, m0, m1⟩) rfl) (t2 := .sh (.bl (fY ks es ws m))) rfl)) (fun hp => ?_) (fun hp => ?_) ?_
   . rw [arU hp]
     refine iA E.c6.1 rfl (fS (aJ aX (aJ (v_ E.b4.1) (aJ (cj (bz (aA E.cJ) (aA E.b4) (cY m0 Q.a)) rfl) (aJ (cj (bz (aA E.bC) (aA E.b4) (cY m0 Q.a)) rfl) dh)))) Q.r) rfl (by rw [arY, arL]; simp; omega) (au ?_)
     simp
   . rw [arS (by rw [hp]; decide)]
     refine au ?_
     simp
   rintro δ rfl
   have yw : (if fY ks es ws m = true then [L3.D.tup [.str "keep", .int m, .int (mem.getD m.toNat 0), .int (bh.getD m.toNat 0)]] else []).length <= 1 := by split <;> simp
   generalize Q.cl = kr at yw ⊢
   refine OI E.c6.1 rfl (bz (fN E.bX E.rS (aA E.bF) O2) (aA E.b4) (dP (f := L3.D.tup) [] m0 Q.a)) g2 rfl (by rw [arL, arY, ar8]; omega) (au ⟨some (.sh (.int m)), ?_⟩)
   simp
 case fin =>
   rintro δ ⟨o, rfl⟩
   rw [arL, asN]
   exact aY (vM E.c6.1) rfl
theorem iK : jf (ak sy) ([("chart", ao), ("gone", ao), ("memory", ao), ("behind", ao), ("rows", ao), ("mood", ao), ("heeded", av)]) = true := Q.j
theorem Mx : aH ["chart", "gone", "memory", "behind", "rows", "mood"] ["chart", "gone", "memory", "behind"] (ak sy) := aM
abbrev sC : Stmt := top 32
abbrev sE : Type := List L3.D × List L3.D × L3.D × List L3.D × List L3.D × List cU × Nat × List Int
def mZ : sE -> List L3.D := fun (bs, nm, tr, is, os, ws, n, sel) => [gB bs nm tr is os Q.O, .lst (sel.map .int)]
def ku : sE -> Prop := fun (bs, nm, tr, is, os, ws, n, sel) => sel.length <= 1000 /\ (∀ i ∈ sel, Q.aC /\ WIn n (dg ws i))
def m5 : sE -> T := fun (bs, nm, tr, is, os, ws, n, sel) => (.lst ((EY ws sel).map T.sh) : T)
structure PY (X : Cx) (CL : Q.e) : Prop extends bP X where
 bF : Ln X 0 "chart"
 kJ : Ln X 1 "ways"
 c6 : Ln X 2 "rows"
 bM : Ln X 3 "number"
 acV : Gl X "DEEDS"
 acW : ∃ u, X.mg "DEEDS" = some (.int 3 u)
 bX : wB X.K Q.E
 dz : bG X.K Q.E "ways"
theorem PZ (E : PY X CL) {aW : sE} (h : ku aW) :
   ay X CL b sC ["chart", "ways", "rows", "number"] (mZ aW) (m5 aW) := by
 obtain ⟨bs, nm, tr, is, os, ws, n, sel⟩ := aW
 dsimp only [ay, ku, mZ, m5] at h ⊢
 obtain ⟨hl, hs⟩ := h
 refine aG E.g E.c6 Q.al ?_
 refine eO E.g E.bM (fun j δ => ∃ o, δ = [Option.some (.sh (gB bs nm tr is os Q.O)), Option.some (.sh (.lst (sel.map .int))), Option.some (.lst ((EY ws (sel.take j)).map T.sh)), o])
   (dN (v_ E.kJ.1)) ⟨_, rfl⟩ Q.aG ?turn ?fin
 case turn =>
   rintro j d δ hj ⟨o, rfl⟩
   obtain ⟨i, rfl, _, hi, qR, _, BO⟩ := iC hj
   obtain ⟨⟨i0, i1⟩, hw⟩ := hs i hi
   have hln := (HW (ws := ws) (n := n) (some := sel.take j) (fun x hx => (hs x (List.mem_of_mem_take hx)).2)).1
   have htl : (sel.take j).length <= j := by simp; omega
   have d1 := hw.2.2.2.1
   refine iA E.c6.1 rfl (fS (aJ aX (aJ (v_ E.bM.1) dh)) Q.r) rfl (by rw [arL]; omega) ?_
   refine OI E.c6.1 rfl (aE (bz (fN E.bX E.dz (aA E.bF) nL) (aA E.bM) (dP (f := cR) w0 i0 i1)) (ah (fH E.acW E.acV)) (cV (j := 3) rfl)) hw.2.2.2.2.1 rfl (by rw [arY, arL, as9]; show _ + 1 + (dg ws i).jM.length <= _; omega) (au ⟨Option.some (.sh (.int i)), ?_⟩)
   rw [BO, Uh, ash, asl, arR]
   rfl
 case fin =>
   rintro δ ⟨o, rfl⟩
   rw [arL, asN]
   exact aY (vM E.c6.1) rfl
theorem mh : jf (ak sC) ([("chart", ao), ("ways", ao), ("rows", ao), ("number", ao), ("DEEDS", av)]) = true := Q.j
theorem My : aH ["chart", "ways", "rows", "number"] ["chart", "ways"] (ak sC) := aM
abbrev m7 : Stmt := top 17
abbrev m8 : Type := List L3.D × List L3.D × L3.D × List L3.D × List L3.D × List cU × Int
def kB : m8 -> List L3.D := fun (bs, nm, tr, is, os, ws, i) => [gB bs nm tr is os Q.O, .int i]
def iL : m8 -> Prop := fun (bs, nm, tr, is, os, ws, i) => 0 <= i /\ i < ws.length
def kC : m8 -> T := fun (bs, nm, tr, is, os, ws, i) => (.sh (.bl (jY ws i)) : T)
structure Ju (X : Cx) (CL : Q.e) : Prop extends bP X where
 bF : Ln X 0 "chart"
 bM : Ln X 1 "number"
 lY : Gl X "TARGET"
 lZ : ∃ u, X.mg "TARGET" = some (.int 4 u)
 bX : wB X.K Q.E
 dz : bG X.K Q.E "ways"
theorem Jv (E : Ju X CL) {aW : m8} (h : iL aW) :
   ay X CL b m7 ["chart", "number"] (kB aW) (kC aW) := by
 obtain ⟨bs, nm, tr, is, os, ws, i⟩ := aW
 dsimp only [ay, iL, kB, kC] at h ⊢
 obtain ⟨h0, h1⟩ := h
 exact aY (pN (aE (bz (fN E.bX E.dz (aA E.bF) nL) (aA E.bM) (dP (f := cR) w0 h0 h1)) (ah (fH E.lZ E.lY)) (cV (j := 4) rfl)) Q.ar).2 rfl
theorem qb : jf (ak m7) ([("chart", ao), ("number", ao), ("TARGET", av)]) = true := Q.j
theorem Fo : aH ["chart", "number"] ["chart", "number"] (ak m7) := aM
abbrev CM : Stmt := top 27
abbrev CN : Type := List L3.D × List L3.D × List Str × List Int × List Int × List Q.k × List Q.k × List cU × List Int × List Int × List Int
def vZ : CN -> List L3.D := fun (bs, nm, ks, es, ss, is, os, ws, ch, mem, so) => [gB bs nm Q.W (is.map .tup) (os.map .tup) Q.O, .lst ((cu Q.g es ch Q.f).map .int), .lst (mem.map .int), .lst (so.map .int)]
def qQ : CN -> Prop := fun (bs, nm, ks, es, ss, is, os, ws, ch, mem, so) => iQ ks es ss is os ws /\ (ch.length = es.length /\ wm (aZ ks) es ch) /\ yE ks es mem /\ rC ks es ws Q.x so
def v5 : CN -> T := fun (bs, nm, ks, es, ss, is, os, ws, ch, mem, so) => (.tup [.lst ((HX ks es ss is os ws mem Q.x so).map T.sh), .lst (((EX ks es ss (EZ ks es ws mem Q.x Q.y) Q.x Q.y).map .int).map T.sh), .lst (((EZ ks es ws mem Q.x Q.y).map .int).map T.sh)] : T)
structure acX (X : Cx) (CL : Q.e) : Prop extends bP X where
 bF : Ln X 0 "chart"
 CP : X.env.kindOf "chart" = some .cell
 cN : Ln X 1 "opens"
 cJ : Ln X 2 "memory"
 kJ : Ln X 3 "ways"
 j7 : Ln X 4 "going"
 mC : Ln X 5 "gone"
 P0 : X.env.kindOf "gone" = some .cell
 bC : Ln X 6 "behind"
 rZ : Ln X 7 "come"
 aF : Ln X 8 "script"
 xJ : Gl X "all_left"
 sF : Gl X "remembered"
 qc : Gl X "all_entered"
 xK : Gl X "out_rows"
 xM : Gl X "way_rows"
 qL : Gl X "in_rows"
 f9 : Gl X "sorted"
 P1 : Fc X CL "all_left" 5 3 mR kg mS
 Jw : Fc X CL "remembered" 1 4 kh iJ ki
 Fp : Fc X CL "all_entered" 45 3 jB gW jC
 P4 : Fc X CL "out_rows" 4 4 mX ko mY
 P5 : Fc X CL "way_rows" 1 2 mZ ku m5
 Au : Fc X CL "in_rows" 1 2 lS iG lT
 gb : X.mg "sorted" = none
 Jx : Fc X CL "has_target" 1 2 kB iL kC
 Ea : Fc X CL "heeded" 3 2 oz jF oA
 bX : wB X.K Q.E
 cB : bG X.K Q.E "tree"
theorem acY (E : acX X CL) {aW : CN} (h : qQ aW) :
   ay X CL b CM ["chart", "opens", "memory", "ways", "going", "gone", "behind", "come", "script"] (vZ aW) (v5 aW) := by
 obtain ⟨bs, nm, ks, es, ss, is, os, ws, ch, mem, so⟩ := aW
 dsimp only [ay, qQ, vZ, v5] at h ⊢
 obtain ⟨hC, ⟨pR, hc⟩, hm, hs⟩ := h
 have ht := hC.pre.1
 have n0 := hC.n0
 have n1 := hC.n1
 have Vg := hs.goes hC
 have ahs := hs.win hC
 have hwi := hs.i
 have hsl := hs.l
 have hap := hs.ap
 have NX : ∀ x ∈ cu Q.g es ch Q.f, 0 <= x /\ x < es.length := fun x hx => DC n0 hx
 have hos := dQ (isAll := aq ks) (es := es) (ch := ch) Q.f
 have X9 := oJ (isAll := aq ks) (es := es) (ch := ch) Q.f
 obtain ⟨Du, _, _, _, aeI⟩ := Dz hC.kd (hC.tree (GA hC hc pR hm Q.y)) n0 pR hc hap Vg
 have hbh := GA hC hc pR hm Q.y
 have hbT := hC.tree hbh
 obtain ⟨f1, f2⟩ := LD (ks := ks) ht hos NX hap
 obtain ⟨g1, g2⟩ := Aj (ks := ks) ht hos NX hap
 obtain ⟨c1, c2, c3⟩ := Dy hbT hap Vg
 have Xl : ∀ x ∈ ia ks es Q.x Q.y, 0 <= x /\ x < es.length := fun x hx => NX x (yz.mp hx).1
 have hgs : (so.filter (jY ws)).map (dg ws) = gi ws so := rfl
 have xx : ∀ i ∈ so.filter (jY ws), Q.aC /\ Q.bI /\ (0 <= (dg ws i).tgt /\ (dg ws i).tgt < es.length) /\ rm (dg ws i).mode /\ (gI ks es (dg ws i) = -1 \/ gI ks es (dg ws i) ∈ bD es (dg ws i).tgt.toNat) := fun i hi => by
   have h1 := (asf.mp hi).1
   have w := ahs i h1
   have g := Vg (dg ws i) (ase.mpr ⟨i, hi, rfl⟩)
   exact ⟨(hwi i h1).1, w.1, g.1, w.2.2.1, g.up⟩
 unfold HX
 generalize aht : cu Q.g es ch Q.f = ops at *
 refine xo (p := fun d => jY ws d.AV) (gg := fun d => T.sh d) E.g E.j7 (cL (.cons E.bF.1 (.inl E.CP) .nil) Q.d) (dN (v_ E.kJ.1)) (.inr rfl) (fun C s0 H0 f0 b' d hd => ?agV) (asu (bS Q.z)) ?rest (by exact arN rfl) (nF ⟨_, rfl⟩)
 case agV =>
   obtain ⟨i, hi, rfl⟩ := ase.mp hd
   exact ⟨g6 (c_ (bs, nm, ek ks es ss, is.map .tup, os.map .tup, ws, i) (oE E.Jx) (jS Q.d) (ai Q.aO (ai Q.aF aB)) (by dsimp only [iL]; exact (hwi i hi).1) rfl), fun _ => (v_ Q.am)⟩
 case rest =>
 have ahu : (((so.map L3.D.int).filter (fun d => jY ws d.AV)).map fun d => T.sh d) = ((so.filter (jY ws)).map L3.D.int).map T.sh := by
   rw [atf, asn]
   exact (asn ..).symm
 rw [ahu]
 refine aG E.g E.mC (iO (ds := (ia ks es ops Q.y).map .int) (aP (c_ (bs, nm, ks, es, ss, is.map .tup, os.map .tup, ws, ops, so.filter (jY ws)) E.P1 E.xJ (ai (aA E.bF) (ai (aA E.cN) (ai (vL E.j7.1) aB))) (by dsimp only [kg]; exact ⟨ht, by omega, hC.kl, by omega, NX, fun i hi => ⟨(xx i hi).1, (xx i hi).2.1, (xx i hi).2.2.1⟩, by rw [hgs]; omega⟩) (aU _)) rfl)) ?_
 have hfl : ((ia ks es ops Q.y).filter (fY ks es ws)).length <= es.length := asD (asZ _ _) g2
 refine aG E.g E.bC (aP (c_ (ks, es, ss, mem, ops, (ia ks es ops Q.y).filter (fY ks es ws)) E.Jw E.sF (ai Q.bo (ai (aA E.cJ) (ai (aA E.cN) (ai (ck (aP (mK (p := fun d => fY ks es ws d.AV) (g := fun d => T.sh d) (cL (.cons E.bF.1 (.inl E.CP) .nil) Q.d) E.g.calm (dN (v_ E.mC.1)) (.inr rfl) (fun C s0 H0 f0 b' d hd => ?agW) (asu (bS Q.z))) (t2 := .lst ((((ia ks es ops Q.y).filter (fY ks es ws)).map .int).map T.sh)) (by
   refine congrArg T.lst ?_
   rw [atf, asn]
   exact (List.map_map ..).symm))) aB)))) (by dsimp only [iJ]; exact ⟨ht, hC.kl, hm.1, NX, fun x hx => Xl x (List.mem_filter.mp hx).1⟩) (aU _)) (t2 := .lst (((EZ ks es ws mem ops Q.y).map .int).map T.sh)) rfl) ?_
 case agW =>
   obtain ⟨i, hi, rfl⟩ := ase.mp hd
   exact ⟨g6 (c_ (bs, nm, ks, es, ss, is.map .tup, os.map .tup, ws, i) (oE E.Ea) (jS Q.d) (ai Q.aO (ai Q.aF aB)) (by dsimp only [jF]; exact ⟨ht, hC.kl, by omega, (Xl i hi).1, (Xl i hi).2⟩) rfl), fun _ => (v_ Q.am)⟩
 generalize hB : EZ ks es ws mem ops Q.y = bh at *
 refine aG E.g E.rZ (aP (c_ (bs, nm, ks, es, ss, is.map .tup, os.map .tup, ws, bh, so.filter (jY ws)) E.Fp E.qc (ai (aA E.bF) (ai (vL E.bC.1) (ai (vL E.j7.1) aB))) (by dsimp only [gW]; exact ⟨⟨n1, hC.kl, hC.sl, hbh.1, hC.kinds⟩, hbT, xx, by rw [hgs]; omega⟩) (aU _)) (t2 := .lst (((rA ks es ss bh Q.y).map .int).map T.sh)) rfl) ?_
 obtain ⟨o1, o2⟩ := HV (gj := fY ks es ws) (mem := mem) (bh := bh) hC.or (ia ks es ops Q.y)
 obtain ⟨w1, w2⟩ := HW (n := es.length) ahs
 have anL : (rA ks es ss bh Q.y).length <= es.length := by unfold rA; rw [jJ]; exact c2
 have hcm : ∀ x ∈ rA ks es ss bh Q.y, 0 <= x /\ x < is.length := fun x hx => by
   rw [hC.il]
   exact (c3 x (iP.mp hx)).1
 obtain ⟨i1, i2⟩ := An hC.ir (rA ks es ss bh Q.y)
 refine aG E.g E.aF (uW (ck (uW (ck (aP (c_ (bs, nm, ks, es, ss, is.map .tup, os, ws, ia ks es ops Q.y, mem, bh) E.P4 E.xK (ai (aA E.bF) (ai (aA E.mC) (ai (aA E.cJ) (ai (vL E.bC.1) aB)))) (by dsimp only [ko]; exact ⟨ht, by omega, hC.kl, hC.ol, hm.1, hbh.1, hC.or, by omega, Xl⟩) (cH o2)) (t2 := .lst ((DB (fY ks es ws) os mem bh (ia ks es ops Q.y)).map T.sh)) rfl))
   (ck (aP (c_ (bs, nm, ek ks es ss, is.map .tup, os.map .tup, ws, es.length, so) E.P5 E.xM (ai (aA E.bF) (ai (aA E.kJ) aB)) (by dsimp only [ku]; exact ⟨by omega, fun i hi => ⟨(hwi i hi).1, ahs i hi⟩⟩) (cH w2)) (t2 := .lst ((EY ws so).map T.sh)) rfl)) o2 w2 (Nat.le_of_lt (bS Q.a))))
   (ck (aP (c_ (bs, nm, ek ks es ss, is, os.map .tup, ws.map cR, rA ks es ss bh Q.y) E.Au E.qL (ai (aA E.bF) (ai (vL E.rZ.1) aB)) (by dsimp only [iG]; exact ⟨hC.ir, by omega, hcm⟩) (cH i2)) (t2 := .lst ((inR is (rA ks es ss bh Q.y)).map T.sh)) rfl)) (yC o2 w2) i2 (Nat.le_of_lt (bS (by rw [List.length_append]; omega)))) ?_
 have akN : ((((ops.map L3.D.int).filter (fun d => !decide (d.AV ∈ ia ks es ops Q.y))).map fun d => T.sh d)) = ((ops.filter Q.bU).map L3.D.int).map T.sh := by
   rw [atf, asn]
   exact (asn ..).symm
 have hfo : (ops.filter Q.bU).length <= ops.length := asZ _ _
 refine aY (mw (aN (vM E.aF.1) (aN (aP (kH E.gb (ck (aP (uW (ds := (ops.filter Q.bU).map .int) (Wk := (rA ks es ss bh Q.y).map .int) (ck (aP (mK (p := fun d => !decide (d.AV ∈ ia ks es ops Q.y)) (g := fun d => T.sh d) (cL (.cons E.mC.1 (.inl E.P0) .nil) Q.d) E.g.calm (dN (v_ E.cN.1)) (.inr rfl) (fun C s0 H0 f0 b' d hd => ?anM) (asu (bS Q.z))) (congrArg T.lst akN))) (vL E.rZ.1) (bJ _) (bJ _) (asu (bS (by simp only [arL]; omega)))) (t2 := .lst (((ops.filter Q.bU ++ rA ks es ss bh Q.y).map .int).map T.sh)) (by rw [← ash]))) Q.a E.f9) (t2 := .lst (((EX ks es ss bh ops Q.y).map .int).map T.sh)) rfl) (aN (vM E.bC.1) b8))) Q.r) rfl
 case anM =>
   obtain ⟨i, hi, rfl⟩ := ase.mp hd
   exact ⟨(BL (l := ia ks es ops Q.y) Q.aF Q.aO rfl rfl).1, fun _ => (v_ Q.am)⟩
theorem dH : jf (ak CM) ([("chart", .cell), ("opens", ao), ("memory", ao), ("ways", ao), ("going", ao), ("gone", .cell), ("behind", ao), ("come", ao), ("script", ao), ("all_left", av), ("remembered", av), ("all_entered", av), ("out_rows", av), ("way_rows", av), ("in_rows", av), ("sorted", av)]) = true := Q.j
theorem YH : aH ["chart", "opens", "memory", "ways", "going", "gone", "behind", "come", "script"] ["chart", "opens", "memory", "ways"] (ak CM) := aM
abbrev Jy : Stmt := top 73
abbrev Jz : Type := List L3.D × List Int × List Str × List Int × List L3.D × List L3.D × List cU × List It × List Int × List Int × List Int
def zP : Jz -> List L3.D := fun (bs, es, ks, ss, is, os, ws, xs, o2, m2, so) => [gF bs es ks ss is os Q.O, .tup [.lst (xs.map It.d), .lst (o2.map .int), .lst (m2.map .int)], .lst (so.map .int)]
def uF : Jz -> Prop := fun (bs, es, ks, ss, is, os, ws, xs, o2, m2, so) => xs.length <= 1000 /\ xs.filterMap It.num = so /\ ∀ i ∈ so, Q.aC /\ ((dg ws i).tgt = -1 \/ (dg ws i).tgt ∈ o2)
def zQ : Jz -> T := fun (bs, es, ks, ss, is, os, ws, xs, o2, m2, so) => (.sh (.bl true) : T)
structure ahv (X : Cx) (CL : Q.e) : Prop extends bP X where
 bf : Ln X 0 "parts"
 bL : Ln X 1 "found"
 jd : Ln X 2 "some"
 bM : Ln X 3 "number"
theorem ahw (E : ahv X CL) {aW : Jz} (h : uF aW) :
   ay X CL b Jy ["parts", "found", "some", "number"] (zP aW) (zQ aW) := by
 obtain ⟨bs, es, ks, ss, is, os, ws, xs, o2, m2, so⟩ := aW
 dsimp only [ay, uF, zP, zQ] at h ⊢
 obtain ⟨hl, hn, hi⟩ := h
 have hdl : ∀ l : List Int, z9 60 (.lst (l.map .int)) := fun l => am4 59 l
 refine cT (af4 E.u (d1 := .lst (so.map .int)) (d2 := .lst (so.map .int)) (ck (aP (mK (p := fun d => decide (d.at1.toS = ("way" : Str))) (g := fun d => T.sh d.at2) (cL .nil Q.d) E.g.calm (dN (i9 (v_ E.bL.1) Q.c rfl)) (.inr rfl) (fun C s0 H0 f0 b' d hd => ?Br) (asu (bS Q.z))) (t2 := .lst ((so.map .int).map T.sh)) (by rw [← hn]; exact congrArg T.lst (LQ xs)))) (aA E.jd) (hdl _) (hdl _)).1 (fun hp => by rw [Ww] at hp; simp at hp) (fun _ => au ?_)
 case Br =>
   obtain ⟨x, hx, rfl⟩ := ase.mp hd
   refine ⟨(d7 (aE (ah (v_ (d := .tup (.str x.sj.w :: x.sj.ds)) Q.am)) Q.c Xg) (ah aX)).1, fun hp => ?_⟩
   have hp : decide (x.sj.w = "way") = true := hp
   rw [Xk] at hp
   cases x with
   | way i => exact cj (aE (ah (v_ (d := .tup [.str "way", .int i]) Q.am)) Q.c rfl) rfl
   | _ => cases hp
 refine eO E.g E.bM (fun j δ => ∃ o3, δ = [some Q.bC, some (.sh Q.cc), some (.sh (.lst (so.map .int))), o3])
   (dN (v_ E.jd.1)) ⟨_, rfl⟩ Q.aG ?turn ?fin
 case turn =>
   rintro j d δ hj ⟨o3, rfl⟩
   obtain ⟨i, rfl, _, hm, _, _, _⟩ := iC hj
   obtain ⟨⟨i0, i1⟩, hti⟩ := hi i hm
   refine cT (pO (nA (pN Q.ch Q.ar).1 (fun _ => kW (BL (l := o2) Q.ch (aE (aA E.bL) Q.c rfl) rfl rfl).1))) (fun hp => ?_) (fun _ => au (au ⟨_, rfl⟩))
   simp only [asa, as1, asI, asM] at hp
   rcases hti with z | z
   . exact absurd z hp.1
   . exact absurd z hp.2
 case fin =>
   rintro δ ⟨o3, rfl⟩
   exact aY tu rfl
theorem CQ : jf (ak Jy) ([("parts", ao), ("found", ao), ("some", ao), ("number", ao)]) = true := Q.j
theorem acZ : aH ["parts", "found", "some", "number"] ["parts", "found", "some"] (ak Jy) := aM
theorem JA {bs nm is os ws : Q.k} {t : T} (h1 : D.bQ bs = true) (h2 : D.bQ nm = true) (h3 : t.clean = true) (h4 : D.bQ is = true) (h5 : D.bQ os = true) (h6 : D.bQ ws = true) : T.cz (nM bs nm t is os ws) = true := by
 unfold nM Ah Ai
 rw [asb, asb, at6, T.cz, T.cz, T.cz, T.cz, T.cz, T.cz, T.cz, cH h1, cH h2, h3, cH h4, cH h5, cH h6]
 rfl
def Mz (s : Q.b) (n : Nat) (c : Int) : eS :=
 if c % 4 = 1 then .call (nmE s (c / 4 % 4))
 else if c % 4 = 2 \/ n = 0 then .say (nmE s (c / 4 % 4)) (c / 16 % ((n : Int) + 1) - 1) (E1 (c / 16 / 4))
 else .put (c / 4 % (n : Int)) (c / 16 % ((n : Int) + 1) - 1) (E1 (c / 16 / 4))
theorem ac0 (s : Q.b) (n : Nat) (c : Int) : yN s n c = (Mz s n c).d := by
 unfold yN Mz
 split
 . rfl
 . split <;> rfl
theorem YJ (s : Q.b) (n : Nat) (c : Int) (hb : bs.length = n) : (Mz s n c).ok bs := by
 have h1 := asd (c / 16) (b := (n : Int) + 1) Q.a
 have h2 := ar3 (c / 16) (b := (n : Int) + 1) Q.a
 have ht : Xa bs (c / 16 % ((n : Int) + 1) - 1) := by
   unfold Xa
   omega
 unfold Mz
 split
 . trivial
 . split
   . exact ht
   . rename_i hn
     have hn : n ≠ 0 := fun z => hn (.inr z)
     have h3 := asd (c / 4) (b := (n : Int)) Q.a
     have h4 := ar3 (c / 4) (b := (n : Int)) Q.a
     exact ⟨⟨h3, by omega⟩, ht⟩
theorem MA (s : Q.b) (q : Int) (n : Nat) : eu n (gE s q n) := by
 refine ⟨(List.range (az s q % 3).toNat).map fun (k : Nat) => Mz s n (az s (q + 1 + (k : Int))), ?_, fun bs hb x hx => ?_⟩
 . unfold gE
   rw [asn]
   exact ate fun k _ => ac0 _ _ _
 . obtain ⟨k, _, rfl⟩ := ase.mp hx
   exact YJ _ _ _ hb
theorem UO {s : Q.b} (n : Nat) (he : 1 <= es.length) : (yO s es n).length <= 8 /\ ∀ w ∈ yO s es n, WIn es.length w /\ eu n w.jM := by
 refine ⟨by unfold yO; rw [arL, atB]; exact GU _ _, fun w hw => ?_⟩
 obtain ⟨k, hk, rfl⟩ := ase.mp hw
 have hk := atv.mp hk
 have abS : (lN s es.length).getD k 0 ∈ lN s es.length := by
   rw [arM, arZ hk]
   exact atn _
 have hb := GR he abS
 generalize (lN s es.length).getD k 0 = src at hb
 refine ⟨⟨hb, ?_, ?_, DN _ _ _, jO _ _ _, xG _ _ _ _⟩, MA _ _ _⟩
 . show (if _ then (-1 : Int) else DQ es src _) = -1 \/ (0 <= (if _ then (-1 : Int) else DQ es src _) /\ (if _ then (-1 : Int) else DQ es src _) < ((es.length : Nat) : Int))
   split
   . exact .inl rfl
   . refine .inr ?_
     unfold DQ
     split
     . have hm := rg hb.1 hb.2 rfl
       have qm : 0 < (gf es Q.ao).length := List.length_pos_of_mem hm
       have c1 := asd (az s Q.bp / 4) (b := ((gf es Q.ao).length : Nat)) Q.a
       have c2 := ar3 (az s Q.bp / 4) (b := ((gf es Q.ao).length : Nat)) Q.a
       have hx : ∀ q : Nat, q < (gf es Q.ao).length -> 0 <= (gf es Q.ao).getD q 0 /\ (gf es Q.ao).getD q 0 < es.length := fun q hq => by
         rw [arM, arZ hq]
         have := kY (atn hq)
         exact ⟨this.1, this.2.1⟩
       exact hx _ Q.a
     . have c1 := asd (az s Q.bp / 4) (b := (es.length : Nat)) Q.a
       have c2 := ar3 (az s Q.bp / 4) (b := (es.length : Nat)) Q.a
       exact ⟨c1, c2⟩
 . show rm (if _ then ("new" : Str) else GQ _)
   split
   . exact .inl rfl
   . have hmc : ∀ c : Int, rm (GQ c) := fun c => by
       unfold GQ
       have c1 := asd c (show (3 : Int) ≠ 0 by decide)
       have c2 := ar3 c (show (0 : Int) < 3 by decide)
       have : (c % 3).toNat = 0 \/ (c % 3).toNat = 1 \/ (c % 3).toNat = 2 := by omega
       rcases this with e | e | e <;> rw [e]
       . exact .inl rfl
       . exact .inr Q.F
       . exact .inr (.inr rfl)
     exact hmc _
theorem Sf (s : Q.b) (q : Int) (n : Nat) : ∃ is : List Q.k, Pj s q n = is.map .tup /\ is.length = n /\ ∀ l ∈ is, l.length <= 2 /\ D.bQ l = true /\ eu (t9 s) l := by
 refine ⟨(List.range n).map fun (k : Nat) => gE s (q + 6 * (k : Int)) (t9 s), by unfold Pj; rw [asn]; rfl, by simp, fun l hl => ?_⟩
 obtain ⟨k, _, rfl⟩ := ase.mp hl
 exact ⟨DN _ _ _, jO _ _ _, MA _ _ _⟩
theorem ac1 (hT : di (aR ks) Q.g es ss Q.at) (h0 : 0 < es.length) : Ae ks es ss Q.at "new" 0 = cu Q.g es ss Q.f := by
 have e1 : cS "new" = false := Q.j
 have e2 : eG "new" = false := Q.j
 have e3 := T8 hT (far := false) (near := false) (k := 0) (d := es.length) h0 Q.a
 rw [RM] at e3
 unfold Ae
 rw [e1, e2]
 exact e3
theorem ac2 {so : Q.b} (hC : Q.aW) (hc : wm (aZ ks) es ch) (pR : ch.length = es.length) (hm : yE ks es mem) (hs : rC ks es ws Q.x so) :
   (HX ks es ss is os ws mem Q.x so).length <= 900 /\ D.bQ (HX ks es ss is os ws mem Q.x so) = true := by
 have NX : ∀ x ∈ cu Q.g es ch Q.f, 0 <= x /\ x < es.length := fun x hx => DC hC.n0 hx
 have g := (Aj (ks := ks) hC.pre.1 (dQ (isAll := aq ks) (es := es) (ch := ch) Q.f) NX hs.ap).2
 have c := (Dy (hC.tree (GA hC hc pR hm Q.y)) hs.ap (hs.goes hC)).2.1
 have n1 := hC.n1
 have sl := hs.l
 obtain ⟨o1, o2⟩ := HV (gj := fY ks es ws) (mem := mem) (bh := EZ ks es ws mem Q.x Q.y) hC.or (ia ks es Q.x Q.y)
 obtain ⟨w1, w2⟩ := HW (n := es.length) (hs.win hC)
 obtain ⟨i1, i2⟩ := An hC.ir (rA ks es ss (EZ ks es ws mem Q.x Q.y) Q.y)
 have anL : (rA ks es ss (EZ ks es ws mem Q.x Q.y) Q.y).length <= es.length := by unfold rA; rw [jJ]; exact c
 unfold HX
 refine ⟨?_, yC (yC o2 w2) i2⟩
 rw [arY, arY]
 omega
abbrev Sg : Stmt := top 76
abbrev YK : Type := List Int
def v7 : YK -> List L3.D := fun a => [.lst (a.map .int)]
def v8 : YK -> Prop := fun a => a.length <= 63
def v9 : YK -> T := fun a => (.sh (.bl true) : T)
structure akO (X : Cx) (CL : Q.e) : Prop extends bP X where
 aF : Ln X 0 "script"
 bf : Ln X 1 "parts"
 bF : Ln X 2 "chart"
 CT : Ln X 3 "first"
 D4 : Ln X 4 "log"
 dB : Ln X 5 "state"
 b5 : Ln X 6 "cell"
 jd : Ln X 7 "some"
 bL : Ln X 8 "found"
 JB : Gl X "_law_parts"
 MB : Gl X "_law_most"
 JC : Gl X "_law_chart"
 c7 : Gl X "len"
 A6 : Gl X "_law_step"
 JD : Gl X "begun"
 JF : Gl X "_law_turns"
 JG : Gl X "_law_going"
 JH : Gl X "moved"
 bH : Gl X "list"
 MC : Gl X "_law_gone"
 eo : Gl X "_law_same"
 uy : Gl X "walked"
 jq : Gl X "walked_back"
 ac3 : Fc X CL "_law_parts" 5 2 ve vf vg
 ahx : Fc X CL "_law_most" 2 1 yS yT yU
 ac4 : Fc X CL "_law_chart" 3 1 vh vm vn
 c9 : X.mg "len" = none
 YL : FcM X CL "_law_step" 11 4 uv zo uw qG
 ac5 : Fc X CL "begun" 44 1 vI qK vJ
 ac6 : Fc X CL "_law_turns" 1 2 vK vN vO
 ac7 : Fc X CL "_law_going" 4 3 vQ qO vR
 ac8 : Fc X CL "moved" 46 4 vZ qQ v5
 bI : X.mg "list" = none
 ahy : Fc X CL "_law_gone" 1 3 zP uF zQ
 oi : Fc X CL "_law_same" 9 2 n9 (fj 8) oh
 D5 : Fc X CL "walked" 3 2 ou jE ow
 qa : Fc X CL "walked_back" 3 2 gT eH gU
theorem akP (E : akO X CL) {a} (h : v8 a) :
   ay X CL b Sg ["script", "parts", "chart", "first", "log", "state", "cell", "some", "found"] (v7 a) (v9 a) := by
 dsimp only [ay, v8, v7, v9] at h ⊢
 have hs : a.length <= 1000 := by omega
 obtain ⟨q1, q2⟩ := ack a
 refine aG E.g E.bf (aP (cF (a, jQ a) E.ac3 E.JB (aN (v_ E.aF.1) (aN (aP (c_ a E.ahx E.MB (ai Q.H aB) hs rfl) (t2 := .sh (.int (jQ a : Nat))) rfl) b8)) ⟨hs, q1, q2⟩) (t2 := .sh (gF ((Iw a).map EV) (rH a (fP a (jQ a))) (zY a (rH a (fP a (jQ a))) (fP a (jQ a))) (NZ a (rH a (fP a (jQ a))) (zY a (rH a (fP a (jQ a))) (fP a (jQ a))) 16 (fP a (jQ a))) (Pj a 100 (fP a (jQ a))) (Pj a 103 (fP a (jQ a))) ((yO a (rH a (fP a (jQ a))) (t9 a)).map cR))) rfl) ?_
 obtain ⟨n1, n2, _⟩ := R0 a (most := jQ a) q1
 generalize fP a (jQ a) = n at n1 n2 ⊢
 obtain ⟨EG, Bm⟩ := RW a n1 Q.a
 generalize rH a n = es at EG Bm ⊢
 have ht := Bm.1
 have yw := Ii a es n
 have AI := Xw a es
 have Ds := RX a es
 rw [EG] at AI Ds
 generalize zY a es n = ks at yw AI Ds ⊢
 have hsl := RZ a es ks 16 n
 have akQ : ∀ k : Nat, k < n -> aZ ks k = true -> (NZ a es ks 16 n).getD k 0 ∈ gf es k := fun k hk e => by
   have := ab6 (s := a) (base := 16) Ds (by omega : k < es.length) (by have := ar0 e; rwa [arT] at this)
   rwa [EG] at this
 generalize NZ a es ks 16 n = ss at hsl akQ ⊢
 obtain ⟨is, his, hil, hir⟩ := Sf a 100 n
 obtain ⟨os, hos, X9, hor⟩ := Sf a 103 n
 rw [his, hos]
 have ib := Ux a
 have hbl : (Iw a).length = t9 a := by unfold Iw t9; rw [arL, atB]
 have hb3 := XI a
 obtain ⟨Vf, hwo⟩ := UO (s := a) (es := es) (t9 a) Q.a
 generalize yO a es (t9 a) = ws at Vf hwo ⊢
 generalize t9 a = nb at hbl hir hor hwo
 generalize Iw a = bl at ib hbl hb3 ⊢
 obtain ⟨bs, hbs⟩ : ∃ bs, bs = bl.map EV := ⟨_, rfl⟩
 rw [← hbs] at ib ⊢
 have hC : iQ ks es ss is os ws := ⟨by omega, by omega, by omega, by omega, by omega, by omega, (fun k hk => AI k Q.a), Bm, (fun k hk e => akQ k Q.a e), (fun l hl => ⟨(hir l hl).1, (hir l hl).2.1⟩), (fun l hl => ⟨(hor l hl).1, (hor l hl).2.1⟩), (fun w hw => (hwo w hw).1), Vf⟩
 have dI : ∀ l ∈ is, eu nb l := fun l hl => (hir l hl).2.2
 have dO : ∀ l ∈ os, eu nb l := fun l hl => (hor l hl).2.2
 have dW : ∀ w ∈ ws, eu nb w.jM := fun w hw => (hwo w hw).2
 have ii : D.bQ (is.map L3.D.tup) = true := mJ fun d hd => by
   obtain ⟨l, hl, rfl⟩ := ase.mp hd
   exact (hir l hl).2.1
 have io : D.bQ (os.map L3.D.tup) = true := mJ fun d hd => by
   obtain ⟨l, hl, rfl⟩ := ase.mp hd
   exact (hor l hl).2.1
 have iw : D.bQ Q.O = true := mJ fun d hd => by
   obtain ⟨w, hw, rfl⟩ := ase.mp hd
   have := (hwo w hw).1
   show (true && (true && (D.bQ w.asks && (D.bQ w.jM && (true && (true && true)))))) = true
   rw [this.2.2.2.2.1, this.2.2.2.2.2]
   rfl
 refine aG E.g E.bF (aP (c_ (bs, es, ks, ss, is.map .tup, os.map .tup, ws.map cR) E.ac4 E.JC (ai Q.bb aB) ⟨ib, ii, io, iw, show es.length <= 40 by omega⟩ (by
   show T.cz (nM _ _ _ _ _ _) = true
   exact JA ib (ym _) (A1 ks es ss) ii io iw)) (t2 := .ins "Chart" Q.cf) rfl) ?_
 have NT : T.dJ (T.ins "Chart" Q.cf) = gB bs ((Bt es.length).map .str) Q.W (is.map .tup) (os.map .tup) Q.O := by rw [O4, T5]
 have hre : (List.replicate es.length (-1 : Int)).length = es.length := asY ..
 refine aG E.g E.CT (oG (d := xC ([], List.replicate es.length (-1), bl.map Prod.snd)) (mw (tl := [.lst ((([] : List Int).map .int).map T.sh), .lst (((List.replicate es.length (-1 : Int)).map .int).map T.sh), .lst (((bl.map Prod.snd).map .int).map T.sh)]) (aN Q.al (aN (aP (Rx (ds := [.int (-1)]) (ck (ds := [.int (-1)]) (gu (aJ (fW Q.c) dh) Q.r)) (ah (dY (arL ..) E.c9 Q.M E.c7)) rfl Q.a Q.a (by rw [as5]; simp; omega)) (by rw [arT, LW])) (aN (aP (mK (p := fun _ => true) (g := fun d => T.sh d.at2) (cL .nil Q.d) E.g.calm (dN (i9 (v_ E.bf.1) Q.c rfl)) (.inr rfl) (fun C s0 H0 f0 b' d hd => ?Br) (asu (bS (by rw [hbs, arL]; omega)))) (t2 := .lst (((bl.map Prod.snd).map .int).map T.sh)) (by
     rw [iz, hbs, asn, asn, asn]
     rfl)) b8))) Q.r) (yy ([], List.replicate es.length (-1), bl.map Prod.snd))) ?_
 case Br =>
   rw [hbs] at hd
   obtain ⟨p, _, rfl⟩ := ase.mp hd
   exact ⟨rfl, fun _ => cj (aE (ah (v_ (d := .tup [.str p.1, .int p.2]) Q.am)) Q.c rfl) rfl⟩
 refine aG E.g E.D4 Q.al ?_
 obtain ⟨fst, P6⟩ : ∃ f : k6, f = ([], List.replicate es.length (-1), bl.map Prod.snd) := ⟨_, rfl⟩
 rw [← P6]
 have hm0 : yE ks es (List.replicate es.length (-1 : Int)) := ⟨asY .., fun k hk _ => .inl (by
   rw [arM, auj, arU hk]
   rfl)⟩
 have hT0 := hC.tree hm0
 have aht := ac1 (ks := ks) hT0 (show 0 < es.length by omega)
 have hbx : (bl.map Prod.snd).length = nb := by rw [arL]; exact hbl
 have akU := dQ (isAll := aq ks) (es := es) (ch := ss) Q.f
 have anN : ∀ x ∈ cu Q.g es ss Q.f, 0 <= x /\ x < es.length := fun x hx => DC hC.n0 hx
 have aq3 := oJ (isAll := aq ks) (es := es) (ch := ss) Q.f
 have YM : sS es.length fst := by rw [P6]; exact ⟨.nil, (fun x hx => by cases hx), hre⟩
 have fb : fst.2.2.length = nb := by rw [P6]; exact hbx
 obtain ⟨b0, hb0, xs0, hx1, hx2, hx3, UQ, _⟩ := DI (n := es.length) dI (cu Q.g es ss Q.f) fst fb (by rw [P6]; exact .nil) (by rw [P6]; exact nK akU) anN
 rw [show sortI (fst.1 ++ cu Q.g es ss Q.f) = cu Q.g es ss Q.f from by rw [P6]; exact yo (Lx akU), show fst.2.1 = List.replicate es.length (-1 : Int) from by rw [P6]] at UQ
 have anP : xs0.length <= 1000 := by
   have h1 := (An hC.ir (cu Q.g es ss Q.f)).1
   have h2 : (inR is (cu Q.g es ss Q.f)).length = xs0.length := by rw [hx1, arL]
   omega
 have ii0 := (An hC.ir (cu Q.g es ss Q.f)).2
 have st0 : Px es ks ss fst xs0 (cu Q.g es ss Q.f) Q.at [] := ⟨by omega, by omega, hC.kl, hC.sl, by omega, ht, Ls ht Q.a hC.kd hC.st, anP, hx3 _ rfl, YM, by omega, by rw [← UQ.is.2.2]; exact UQ, asr _⟩
 refine WK E.g E.dB (cM1 (fun y => (bs, es, ks, ss, is.map .tup, os.map .tup, ws.map cR, fst, xs0, cu Q.g es ss Q.f, List.replicate es.length (-1), [], y)) (.lst (((wu xs0 fst.2.2).map J.d).map T.sh)) E.YL E.A6 (t := .sh (xC (cu Q.g es ss Q.f, List.replicate es.length (-1), b0))) (Gq (v_ E.bf.1) (Gq (v_ E.CT.1) (Gq (oG (d := .tup [.lst (xs0.map It.d), .lst ((cu Q.g es ss Q.f).map .int), .lst ((List.replicate es.length (-1)).map .int)]) (c_ (bs, (Bt es.length).map .str, ks, es, ss, is, os.map .tup, ws.map cR) E.ac5 E.JD (ai (vE E.bF.1 rfl NT) aB) (by dsimp only [qK]; exact ⟨by simp [Bt], by omega, by omega, hC.kl, hC.sl, hC.il, hC.ir, hC.kinds, hT0⟩) ?cl0) ?fr0) (aez E.D4.1 rfl rfl WG)))) (fun y _ => st0) (fun y _ => ?anQ) (fun y _ => ⟨rfl, .inl ?anR, trivial⟩)) ?_
 case cl0 =>
   show (T.tup [.lst ((inR is (Ae ks es ss Q.at "new" 0)).map T.sh), _, _]).clean = true
   rw [aht]
   exact DG ii0 (bJ _) (bJ _)
 case fr0 =>
   show (T.tup [.lst ((inR is (Ae ks es ss Q.at "new" 0)).map T.sh), .lst (((Ae ks es ss Q.at "new" 0).map .int).map T.sh), _]).dJ = _
   rw [aht, abW, hx1]
 case anQ =>
   show T.sh (xC (_, _, xs0.foldl It.af fst.2.2)) = _
   rw [← UQ.is.2.2]
 case anR => rfl
 have htl := PB a n
 have aq9 := B5 xs0 fst.2.2
 refine eO E.g E.b5 (fun j δ => ∃ ch mem bx lg o6 o7 o8, (ch.length = es.length /\ wm (aZ ks) es ch) /\ yE ks es mem /\ bx.length = nb /\ (jX es.length lg fst /\ lg.foldl (dU false) fst = (cu Q.g es ch Q.f, mem, bx) /\ lg.length <= 1000 + 900 * j) /\ δ = [some (.sh (.lst (a.map .int))), some (.sh (gF bs es ks ss (is.map .tup) (os.map .tup) Q.O)), some (.ins "Chart" Q.cf), some (.sh (xC fst)), some (.lst ((lg.map J.d).map T.sh)), some (.sh (xC (cu Q.g es ch Q.f, mem, bx))), o6, o7, o8])
   (dN (iO (ds := (0 :: r9 a n).map .int) (uW (ds := [.int 0]) (Wk := (r9 a n).map .int) (ck (ds := [.int 0]) (d8 (aN aj b8) Q.r)) (ck (c_ (a, n) E.ac6 E.JF (ai Q.H (ai (tK (ah (dY (arL ..) E.c9 Q.M E.c7)) (congrArg (fun z : Nat => L3.D.int z) EG)) aB)) hs (aU _))) rfl (bJ _) (asu (bS Q.z))))) ⟨ss, _, _, _, none, none, none, ⟨hC.sl, hC.st⟩, hm0, hb0, ⟨UQ.is.1, UQ.is.2.1, by omega⟩, rfl⟩ (fun j δ ⟨_, _, _, _, _, _, _, _, _, _, _, e⟩ => by subst e; exact arN rfl) ?turn ?fin
 case turn =>
   rintro j d δ hj ⟨ch, mem, bx, lg, o6, o7, o8, ⟨pR, hc⟩, hm, ahd, ⟨hR, hF, hL⟩, rfl⟩
   obtain ⟨c, rfl, _, _, qR, _, _⟩ := iC hj
   rw [ar8] at qR
   refine cT (Rz (aA E.dB)) (fun hp => by cases hp) (fun _ => au ?_)
   have hso := Yu (ks := ks) (es := es) Q.x c Vf
   refine aG E.g E.jd (iO (ds := (sortI (Mt ks es ws Q.x c ws.length)).map .int) (aP (c_ (bs, es, ks, ss, is.map .tup, os.map .tup, ws, cu Q.g es ch Q.f, c) E.ac7 E.JG (ai Q.bb (ai (aE (aA E.dB) Q.c rfl) (ai (aA E.b5) aB))) (by dsimp only [qO]; exact ⟨ht, by omega, hC.wo, Vf⟩) (aU _)) rfl)) ?_
   generalize sortI (Mt ks es ws Q.x c ws.length) = so at hso ⊢
   obtain ⟨sl1, sl2⟩ := ac2 hC hc pR hm hso
   obtain ⟨bx', anS, xs, hx1, hx2, hx3, UQ, _⟩ := O6 hC hc pR hm hso ahd dI dO dW
   have htg : ∀ i ∈ so, Q.aC /\ ((dg ws i).tgt = -1 \/ (dg ws i).tgt ∈ EX ks es ss (EZ ks es ws mem Q.x Q.y) Q.x Q.y) := fun i hi => ⟨(hso.i i hi).1, by
     by_cases z : (dg ws i).tgt = -1
     . exact .inl z
     . exact .inr (Xm hC hc pR hm hso hi z)⟩
   have hbh := GA hC hc pR hm Q.y
   obtain ⟨Du, anT, hc', e1, _⟩ := Dz hC.kd (hC.tree hbh) hC.n0 pR hc hso.ap (hso.goes hC)
   have hxl : xs.length <= 900 := by
     have h2 : (HX ks es ss is os ws mem Q.x so).length = xs.length := by rw [hx1, arL]
     omega
   have gst : sS es.length (cu Q.g es ch Q.f, mem, bx) := ⟨dQ _, fun x hx => DC hC.n0 hx, hm.1⟩
   refine aG E.g E.bL (oG (d := .tup [.lst (xs.map It.d), .lst ((cu Q.g es Du Q.f).map .int), .lst ((EZ ks es ws mem Q.x Q.y).map .int)]) (c_ (bs, (Bt es.length).map .str, ks, es, ss, is, os, ws, ch, mem, so) E.ac8 E.JH (ai (vE E.bF.1 rfl NT) (ai Q.bS (ai Q.bS (ai (ck (nB E.bI (v_ E.jd.1) E.bH aT)) aB)))) (by dsimp only [qQ]; exact ⟨hC, ⟨pR, hc⟩, hm, hso⟩) (DG sl2 (bJ _) (bJ _))) ?fr1) ?_
   case fr1 =>
     show (T.tup [.lst ((HX ks es ss is os ws mem Q.x so).map T.sh), .lst (((EX ks es ss _ _ _).map .int).map T.sh), _]).dJ = _
     rw [abW, hx1, e1]
   rw [e1] at UQ htg
   generalize EZ ks es ws mem Q.x Q.y = bh at *
   have arc := oJ (isAll := aq ks) (es := es) (ch := Du) Q.f
   have anU := oJ (isAll := aq ks) (es := es) (ch := ch) Q.f
   refine cT (tE (g6 (c_ (bs, es, ks, ss, is.map .tup, os.map .tup, ws, xs, cu Q.g es Du Q.f, bh, so) E.ahy E.MC (ai Q.bb (ai (aA E.bL) (ai (aA E.jd) aB))) (by dsimp only [uF]; exact ⟨by omega, hx2, htg⟩) rfl))) (fun hp => by cases hp) (fun _ => au ?_)
   have akW := Ls (ss := ss) ht Q.a hC.kd hc'
   generalize cu Q.g es ch Q.f = ops at *
   have st1 : Px es ks ss (ops, mem, bx) xs (cu Q.g es Du Q.f) bh lg := ⟨by omega, by omega, hC.kl, hC.sl, by omega, ht, akW, by omega, hx3 _ rfl, gst, by show bx.length <= 100; omega, by rw [← UQ.is.2.2]; exact UQ, by omega⟩
   have Xs := B5 xs bx
   refine WK E.g E.dB (cM1 (fun y => (bs, es, ks, ss, is.map .tup, os.map .tup, ws.map cR, (ops, mem, bx), xs, cu Q.g es Du Q.f, bh, lg, y)) (.lst (((lg ++ wu xs bx).map J.d).map T.sh)) E.YL E.A6 (t := .sh (xC (cu Q.g es Du Q.f, bh, bx'))) (Gq (v_ E.bf.1) (Gq (v_ E.dB.1) (Gq (v_ E.bL.1) (aez E.D4.1 rfl rfl WG)))) (fun y _ => st1) (fun y _ => ?anV) (fun y _ => ⟨rfl, .inl rfl, trivial⟩)) ?_
   case anV =>
     show T.sh (xC (_, _, xs.foldl It.af bx)) = _
     rw [← UQ.is.2.2]
   refine au ⟨Du, bh, bx', lg ++ wu xs bx, _, _, _, ⟨anT, hc'⟩, hbh, anS, ⟨jX.app.mpr ⟨hR, by rw [hF]; exact UQ.is.1⟩, by rw [ati, hF]; exact UQ.is.2.1, by rw [arY]; omega⟩, rfl⟩
 case fin =>
   rintro δ ⟨ch, mem, bx, lg, o6, o7, o8, ⟨pR, hc⟩, hm, ahd, ⟨hR, hF, hL⟩, rfl⟩
   rw [arL, ar8] at hL
   have R9 := tP Q.a YM hR
   obtain ⟨Yh, Yi⟩ := tQ Q.a YM hR
   rw [hF] at Yh Yi
   have anU := oJ (isAll := aq ks) (es := es) (ch := ch) Q.f
   have Bo := hm.1
   generalize cu Q.g es ch Q.f = ops at *
   refine cT (Rz (aA E.dB)) (fun hp => by cases hp) (fun _ => au ?_)
   refine aY (Hu (p := true) (q := true) (c_ (xC (ops, mem, bx)) E.oi E.eo (ai (tK (AO (aP (c_ (true, lg, fst) E.D5 E.uy (ai (vL E.D4.1) (ai (aA E.CT) aB)) (by dsimp only [jE]; exact ⟨by omega, R9⟩) (ng _)) (t2 := Lv (ops, mem, bx)) (by show Lv (lg.foldl (dU false) fst) = _; rw [hF]))) (yy (ops, mem, bx))) (ai (aA E.dB) aB)) (by dsimp only [fj]; exact Ye 6 (by show ops.length <= 1000; omega) (by show mem.length <= 1000; omega) (by show bx.length <= 1000; omega)) rfl)
     (fun _ => Ht (c_ (xC fst) E.oi E.eo (ai (tK (AO (aP (c_ (true, lg, (ops, mem, bx)) E.qa E.jq (ai (vL E.D4.1) (ai (aA E.dB) aB)) (by dsimp only [eH]; exact ⟨by omega, Yh⟩) (ng _)) (t2 := Lv fst) (by show Lv (lg.reverse.foldl (dU true) (ops, mem, bx)) = _; rw [Yi]))) (yy fst)) (ai (aA E.CT) aB)) (by dsimp only [fj]; exact Ye 6 (by have := YM.len; omega) (by have := YM.mem; omega) Q.a) rfl))) rfl
theorem fk : jf (ak Sg) ([("script", ao), ("parts", ao), ("chart", ao), ("first", ao), ("log", ao), ("state", ao), ("cell", ao), ("some", ao), ("found", ao), ("_law_parts", av), ("_law_most", av), ("_law_chart", av), ("len", av), ("_law_step", av), ("begun", av), ("_law_turns", av), ("_law_going", av), ("moved", av), ("list", av), ("_law_gone", av), ("_law_same", av), ("walked", av), ("walked_back", av)]) = true := Q.j
theorem YN : aH ["script", "parts", "chart", "first", "log", "state", "cell", "some", "found"] ["script"] (ak Sg) := aM
def cl (aI aS : Addr) : Str -> Addr := fun c => if c = "Chart" then aI else if c = "Tree" then aS else 0
variable {aI aS : Addr}
theorem kD : cl aI aS "Chart" = aI := by unfold cl; rw [arU rfl]
theorem wc : cl aI aS "Tree" = aS := by unfold cl; rw [arS Q.d]; rw [arU rfl]
theorem ahz {x : Str} (h : Rn x = true) : cl aI aS x = 0 := by unfold cl; rw [arS (fun e => by rw [e] at h; exact absurd h Q.d)]; rw [arS (fun e => by rw [e] at h; exact absurd h Q.d)]
theorem all_mk {l : PySem.W.OpenLaw} {w : World} {K : Q.n} {h : Heap} {mg : Q.J} {fa YQ MD Sh Eb MF YR MG YS YT Si YV Sj YW pJ m9 Sl Sn wM MH YX Ec A7 P7 A8 A9 MJ MK ML wN YY Sq wO P8 Ss Ba Ed GZ Sv Sw Bb MN YZ Sx Sy MP Y0 aeN G0 Ef zR Y3 G3 wQ MQ Eg Eh zS Sz Y4 aeO : Addr} (XX : K.In h) (G : h.Ns mainGlobals mg) (hfa : mg "law" = some (.ref fa))
   {ahA Y5 ac9 P9 Y6 ahB Y7 ahC ahD ada ahE adb ahF MR JK ade Cp ji um Pq xH oY g_same lP lQ uo uy DZ jq Jc adf Fq ahG zu uz j9 qL JD adg MS Y8 ahH adh sf uD PJ Yz qP xJ sF PN Ax qc D9 xK xM JL JH ahI aeP : FuncData}
   (JM : jK K "Chart" aI) (Ei : PySem.W.plainGet K aI Str.empty = true) (Ej : PySem.W.hasDictIn K aI = true) (Ek : PySem.W.plainOver K aI = true) (El : PySem.W.findIn K (.ref aI) "__setattr__" = some (some (.builtin "object.__setattr__"))) (Em : PySem.W.makesIn K aI = true) (En : PySem.W.keepIn K (.ref aI) = true)
   (qd : PySem.W.findIn K (.ref aI) "boxes" = some none)
   (qe : PySem.W.findIn K (.ref aI) "names" = some none)
   (sG : PySem.W.findIn K (.ref aI) "tree" = some none)
   (uG : PySem.W.findIn K (.ref aI) "ins" = some none)
   (sH : PySem.W.findIn K (.ref aI) "outs" = some none)
   (sJ : PySem.W.findIn K (.ref aI) "ways" = some none)
   (Qa : jK K "Tree" aS) (JN : PySem.W.plainGet K aS Str.empty = true) (JQ : PySem.W.hasDictIn K aS = true) (JR : PySem.W.plainOver K aS = true) (JS : PySem.W.findIn K (.ref aS) "__setattr__" = some (some (.builtin "object.__setattr__"))) (JT : PySem.W.makesIn K aS = true) (JV : PySem.W.keepIn K (.ref aS) = true)
   (sL : PySem.W.findIn K (.ref aS) "kinds" = some none)
   (qf : PySem.W.findIn K (.ref aS) "elders" = some none)
   (qg : PySem.W.findIn K (.ref aS) "starts" = some none)
   (Qc : jK K "_law_cell" YQ) (ahJ : iN K "_law_cell" "_law_cell" Ie YQ ahA)
   (Eo : jK K "_law_elders" MD) (Y9 : iN K "_law_elders" "_law_elders" yF MD Y5)
   (JW : jK K "_law_kinds" Sh) (adi : iN K "_law_kinds" "_law_kinds" B8 Sh ac9)
   (xN : jK K "_law_inner" Eb) (Qd : iN K "_law_inner" "_law_inner" rL Eb P9)
   (Ep : jK K "_law_chosen" MF) (Za : iN K "_law_chosen" "_law_chosen" yH MF Y6)
   (Qe : jK K "_law_name" YR) (ahK : iN K "_law_name" "_law_name" Ij YR ahB)
   (Er : jK K "_law_number" MG) (Zb : iN K "_law_number" "_law_number" yK MG Y7)
   (Qf : jK K "_law_term" YS) (ahL : iN K "_law_term" "_law_term" Il YS ahC)
   (Qg : jK K "_law_asks" YT) (ahM : iN K "_law_asks" "_law_asks" Ip YT ahD)
   (JX : jK K "_law_deeds" Si) (adj : iN K "_law_deeds" "_law_deeds" Ca Si ada)
   (Qh : jK K "_law_ways" YV) (ahN : iN K "_law_ways" "_law_ways" Ir YV ahE)
   (JY : jK K "_law_parts" Sj) (adk : iN K "_law_parts" "_law_parts" Ce Sj adb)
   (Qi : jK K "_law_most" YW) (ahO : iN K "_law_most" "_law_most" IC YW ahF)
   (uH : PySem.W.findIn K (.ref aS) "__init__" = some (some (.ref pJ))) (uI : PySem.W.isFn K (.ref pJ) = true) (Bc : iN K "__init__" "Tree.__init__" oQ pJ MR)
   (sM : PySem.W.findIn K (.ref aI) "__init__" = some (some (.ref m9))) (sN : PySem.W.isFn K (.ref m9) = true) (zT : iN K "__init__" "Chart.__init__" mO m9 JK)
   (JZ : jK K "_law_chart" Sl) (adl : iN K "_law_chart" "_law_chart" Ci Sl ade)
   (J1 : jK K "value" Sn) (adn : iN K "value" "value" Ck Sn Cp)
   (qh : jK K "with_number" wM) (Ft : iN K "with_number" "with_number" k8 wM ji)
   (Es : jK K "redone" MH) (Zc : iN K "redone" "redone" yX MH um)
   (Qj : jK K "done" YX) (ahP : iN K "done" "done" IL YX Pq)
   (xO : jK K "all_done" Ec) (Qk : iN K "all_done" "all_done" rT Ec xH)
   (uJ : jK K "performed" A7) (MT : iN K "performed" "performed" oR A7 oY)
   (Ql : jK K "_law_same" P7) (J2 : iN K "_law_same" "_law_same" s_same P7 g_same)
   (uK : jK K "with_mood" A8) (MV : iN K "with_mood" "with_mood" oU A8 lP)
   (uL : jK K "with_keep" A9) (MX : iN K "with_keep" "with_keep" oW A9 lQ)
   (Et : jK K "copied" MJ) (Zd : iN K "copied" "copied" zc MJ uo)
   (Eu : jK K "walked" MK) (Ze : iN K "walked" "walked" zf MK uy)
   (Ew : jK K "undone" ML) (Zf : iN K "undone" "undone" zj ML DZ)
   (qi : jK K "walked_back" wN) (Fv : iN K "walked_back" "walked_back" lz wN jq)
   (Qm : jK K "told" YY) (ahQ : iN K "told" "told" IY YY Jc)
   (J3 : jK K "_law_opens" Sq) (ado : iN K "_law_opens" "_law_opens" Cq Sq adf)
   (qj : jK K "_law_is_whole" wO) (Fw : iN K "_law_is_whole" "_law_is_whole" lB wO Fq)
   (Qn : jK K "_law_step" P8) (Qo : iN K "_law_step" "_law_step" Ja P8 ahG)
   (J4 : jK K "inner" Ss) (adp : iN K "inner" "inner" Cu Ss zu)
   (uM : jK K "opened_in" Ba) (MY : iN K "opened_in" "opened_in" oZ Ba uz)
   (Ex : jK K "opened" Ed) (zU : iN K "opened" "opened" zv Ed j9)
   (Ay : jK K "in_rows" GZ) (UR : iN K "in_rows" "in_rows" vG GZ qL)
   (J5 : jK K "begun" Sv) (adq : iN K "begun" "begun" Cw Sv JD)
   (J6 : jK K "_law_turns" Sw) (ads : iN K "_law_turns" "_law_turns" Cz Sw adg)
   (uN : jK K "_law_within" Bb) (MZ : iN K "_law_within" "_law_within" pA Bb MS)
   (Ey : jK K "_law_top" MN) (Zg : iN K "_law_top" "_law_top" zy MN Y8)
   (Qp : jK K "_law_free" YZ) (ahR : iN K "_law_free" "_law_free" Jh YZ ahH)
   (J7 : jK K "_law_going" Sx) (adt : iN K "_law_going" "_law_going" CD Sx adh)
   (J8 : jK K "above" Sy) (adu : iN K "above" "above" CG Sy sf)
   (Ez : jK K "within" MP) (Zh : iN K "within" "within" zF MP uD)
   (Qq : jK K "left" Y0) (ahS : iN K "left" "left" Jl Y0 PJ)
   (Zi : jK K "top" aeN) (akX : iN K "top" "top" Sd aeN Yz)
   (Az : jK K "way_top" G0) (UT : iN K "way_top" "way_top" vV G0 qP)
   (xP : jK K "all_left" Ef) (Qs : iN K "all_left" "all_left" sr Ef xJ)
   (sO : jK K "remembered" zR) (J9 : iN K "remembered" "remembered" mU zR sF)
   (Qt : jK K "road" Y3) (ahT : iN K "road" "road" Jq Y3 PN)
   (AA : jK K "entered" G3) (UU : iN K "entered" "entered" vX G3 Ax)
   (qk : jK K "all_entered" wQ) (Fx : iN K "all_entered" "all_entered" lH wQ qc)
   (EA : jK K "heeded" MQ) (Zj : iN K "heeded" "heeded" zN MQ D9)
   (xQ : jK K "out_rows" Eg) (Qu : iN K "out_rows" "out_rows" sy Eg xK)
   (xR : jK K "way_rows" Eh) (Qv : iN K "way_rows" "way_rows" sC Eh xM)
   (sP : jK K "has_target" zS) (Ka : iN K "has_target" "has_target" m7 zS JL)
   (Kc : jK K "moved" Sz) (adv : iN K "moved" "moved" CM Sz JH)
   (Qw : jK K "_law_gone" Y4) (ahU : iN K "_law_gone" "_law_gone" Jy Y4 ahI)
   (SD : jK K "law" aeO) (Zk : iN K "law" "law" Sg aeO aeP)
   (Zm : PySem.W.nsIn K mainGlobals "len" = some none)
   (Kd : PySem.W.nsIn K mainGlobals "range" = some none)
   (Zn : PySem.W.nsIn K mainGlobals "int" = some none)
   (Zo : PySem.W.nsIn K mainGlobals "str" = some none)
   (Ke : PySem.W.nsIn K mainGlobals "tuple" = some none)
   (EB : PySem.W.nsIn K mainGlobals "sorted" = some none)
   (Zq : PySem.W.nsIn K mainGlobals "max" = some none)
   (Qx : PySem.W.nsIn K mainGlobals "list" = some none)
   {Zr : Tok} (Kf : PySem.W.nsIn K mainGlobals "AFTER" = some (some (.int 3 Zr)))
   {SG : Addr} {Zt : Option Addr} {vz : Nat} {Zu : Array (Option Value)} {Qy Qz QB QC : Tok} (Kg : PySem.W.nsIn K mainGlobals "MARKS" = some (some (.ref SG))) (zV : K.lookup SG = some ⟨.type "tuple", Zt, .seq #[.str "out" Qy, .str "keep" Qz, .str "way" QB, .str "in" QC] vz, Zu⟩)
   (sQ : PySem.W.nsIn K mainGlobals "isinstance" = some none)
   (y_bool : PySem.W.nsIn K mainGlobals "bool" = some none)
   {UW : Tok} (EC : PySem.W.nsIn K mainGlobals "BEFORE" = some (some (.int 2 UW)))
   (xS : PySem.W.nsIn K mainGlobals "reversed" = some none)
   (uO : PySem.W.nsIn K mainGlobals "enumerate" = some none)
   (Zv : PySem.W.nsIn K mainGlobals "min" = some none)
   {UX : Tok} (ED : PySem.W.nsIn K mainGlobals "SOURCE" = some (some (.int 0 UX)))
   {UY : Tok} (EE : PySem.W.nsIn K mainGlobals "TARGET" = some (some (.int 4 UY)))
   {adw : Tok} (QD : PySem.W.nsIn K mainGlobals "MODE" = some (some (.int 5 adw)))
   {Zw : Tok} (Kh : PySem.W.nsIn K mainGlobals "DEEDS" = some (some (.int 3 Zw)))
   : ∃ fd : FuncData, (∀ (s : Shared) (v : Value), BindsTo s fd ⟨[v], []⟩ [("script", v)]) /\ ∀ base : Heap, K.In base -> base.Ns mainGlobals mg -> iM l.prog w K mg base wY 47 fa fd ["script"] (Oo K (fun _ => 0) 1 v7 v8 v9) := by
 have e := hfa.symm.trans (asV XX G SD)
 cases e
 have M0 := Bc.binds (ps := ["self", "kinds", "elders", "starts"]) Q.bW
 have Kl := zT.binds (ps := ["self", "boxes", "names", "tree", "ins", "outs", "ways"]) fun _ _ _ _ _ _ => by refine xq ?_; exact fun _ _ _ _ _ _ _ => rfl
 have Zx := asV XX G Ql
 have Zy := J2.binds (ps := ["found", "due"]) fun _ _ _ _ _ _ => by refine xq ?_; exact fun _ _ => rfl
 have ahV := asV XX G Qn
 have ahW := Qo.binds (ps := ["parts", "state", "found", "log"]) Q.bW
 have M3 := asV XX G Ex
 have M4 := zU.binds (ps := ["tree", "memory", "mood", "mode"]) Q.bW
 have aoX := asV XX G SD
 have aoY := Zk.binds (ps := ["script"]) fun _ _ _ _ _ _ => by refine xq ?_; exact fun _ => rfl
 have adx := asV XX G JM
 have bX : wB K aI := ⟨Ei, Ej, Ek, El⟩
 have kF : wB K ((cl aI aS) "Chart") := by rw [kD]; exact bX
 have Fy : bG K ((cl aI aS) "Chart") "boxes" := by rw [kD]; exact qd
 have wR : bG K ((cl aI aS) "Chart") "names" := by rw [kD]; exact qe
 have gH : bG K ((cl aI aS) "Chart") "tree" := by rw [kD]; exact sG
 have Bd : bG K ((cl aI aS) "Chart") "ins" := by rw [kD]; exact uG
 have zW : bG K ((cl aI aS) "Chart") "outs" := by rw [kD]; exact sH
 have iZ : bG K ((cl aI aS) "Chart") "ways" := by rw [kD]; exact sJ
 have ahX := asV XX G Qa
 have fC : wB K aS := ⟨JN, JQ, JR, JS⟩
 have uP : wB K ((cl aI aS) "Tree") := by rw [wc]; exact fC
 have i6 : bG K ((cl aI aS) "Tree") "kinds" := by rw [wc]; exact sL
 have lJ : bG K ((cl aI aS) "Tree") "elders" := by rw [wc]; exact qf
 have wU : bG K ((cl aI aS) "Tree") "starts" := by rw [wc]; exact qg
 have pK := asL XX G Zm
 have g8 := asL XX G Kd
 have aeQ := asL XX G Zn
 have SJ := asL XX G Zo
 have Km := asL XX G Ke
 have oB := asL XX G EB
 have akY := asL XX G Zq
 have jG := asL XX G Qx
 have SK : ∃ u, mg "AFTER" = some (.int 3 u) := ⟨_, asV XX G Kf⟩
 have SM := asV XX G Kg
 have Kn := asL XX G sQ
 have ahY := asL XX G y_bool
 have M5 : ∃ u, mg "BEFORE" = some (.int 2 u) := ⟨_, asV XX G EC⟩
 have xT := asL XX G xS
 have M6 := asL XX G uO
 have akZ := asL XX G Zv
 have Zz : ∃ u, mg "SOURCE" = some (.int 0 u) := ⟨_, asV XX G ED⟩
 have zX : ∃ u, mg "TARGET" = some (.int 4 u) := ⟨_, asV XX G EE⟩
 have ZC : ∃ u, mg "MODE" = some (.int 5 u) := ⟨_, asV XX G QD⟩
 have ady : ∃ u, mg "DEEDS" = some (.int 3 u) := ⟨_, asV XX G Kh⟩
 refine ⟨aeP, ?bind, fun base _ _ => ?_⟩
 case bind =>
   obtain ⟨oc, od, kV, doc, pm, an, mj, ct, osl, rfl, lk, qS⟩ := Zk.ex
   exact fun s v => .of_eq rfl
 have q := @agq l.prog w mg base K h (cl aI aS) XX G
 have sR := q 0 gO bE fZ ahJ abZ Qc fun _ _ _ _ _ _ _ _ hr u p => agE (by exact ⟨u, aQ B7 0, aQ B7 1, aQ B7 2, bY B7 3, pK⟩) p
 have ZD := q 1 rJ nP rK Y9 Uq Eo fun _ _ _ _ _ _ _ _ hr u p => Xr (by exact ⟨u, aQ fD 0, aQ fD 1, aQ fD 2, aQ fD 3, aQ fD 4, aQ fD 5, aQ fD 6, aQ fD 7, aQ fD 8, bY fD 9, bY fD 10, bY fD 11, bT sR hr, g8, pK⟩) p
 have adz := q 1 u9 qA vd adi Xx JW fun _ _ _ _ _ _ _ _ hr u p => ab5 (by exact ⟨u, aQ jh 0, aQ jh 1, aQ jh 2, aQ jh 3, aQ jh 4, aQ jh 5, bY jh 6, bY jh 7, bY jh 8, bY jh 9, bT sR hr, g8, pK, aeQ⟩) p
 have xU := q 0 iR eW gD Qd LX xN fun _ _ _ _ _ _ _ _ hr u p => Pb (by exact ⟨u, NT jN 0, fU jN 0 rfl, NT jN 1, fU jN 1 rfl, bY jN 2, bY jN 3, g8, pK⟩) p
 have ZE := q 1 rN nR rO Za Us Ep fun _ _ _ _ _ _ _ _ hr u p => Xz (by exact ⟨u, aQ f7 0, aQ f7 1, aQ f7 2, aQ f7 3, aQ f7 4, aQ f7 5, aQ f7 6, bY f7 7, bY f7 8, bY f7 9, bY f7 10, g8, pK, bT xU hr, bT sR hr⟩) p
 have ZF := q 1 tT nT tU ahK ab7 Qe fun _ _ _ _ _ _ _ _ hr u p => agL (by exact ⟨u, aQ oM 0, aQ oM 1, aQ oM 2, aQ oM 3, aQ oM 4, aQ oM 5, bY oM 6, bY oM 7, bT sR hr, SJ⟩) p
 have M7 := q 0 nU nV nW Zb Uu Er fun _ _ _ _ _ _ _ _ hr u p => XE (by exact ⟨u, aQ Ut 0⟩) p
 have ZG := q 1 tV tW tX ahL ab8 Qf fun _ _ _ _ _ _ _ _ hr u p => agN (by exact ⟨u, aQ Io 0, aQ Io 1, bY Io 2, bT M7 hr⟩) p
 have ahZ := q 2 yL tY yM ahM ab9 Qg fun _ _ _ _ _ _ _ _ hr u p => agP (by exact ⟨u, aQ jw 0, aQ jw 1, aQ jw 2, aQ jw 3, aQ jw 4, aQ jw 5, aQ jw 6, aQ jw 7, bY jw 8, bY jw 9, bY jw 10, bY jw 11, g8, bT sR hr, bT ZG hr, Km⟩) p
 have SN := q 2 qC jP qD adj XG JX fun _ _ _ _ _ _ _ _ hr u p => ace (by exact ⟨u, aQ gP 0, aQ gP 1, aQ gP 2, aQ gP 3, aQ gP 4, aQ gP 5, aQ gP 6, bY gP 7, bY gP 8, bY gP 9, bY gP 10, bY gP 11, g8, bT sR hr, bT ZF hr, bT ZG hr, Km⟩) p
 have ah0 := q 3 yP t7 yQ ahN acf Qh fun _ _ _ _ _ _ _ _ hr u p => agT (by exact ⟨u, NT cM 0, fU cM 0 rfl, aQ cM 1, aQ cM 2, NT cM 3, fU cM 3 rfl, aQ cM 4, aQ cM 5, aQ cM 6, aQ cM 7, aQ cM 8, aQ cM 9, aQ cM 10, aQ cM 11, aQ cM 12, aQ cM 13, aQ cM 14, aQ cM 15, bY cM 16, bY cM 17, bY cM 18, bY cM 19, bY cM 20, bY cM 21, bY cM 22, bY cM 23, pK, bT sR hr, oB, g8, bT ZF hr, bT ahZ hr, bT SN hr, bT xU hr⟩) p
 have adA := q 4 ve vf vg adk XO JY fun _ _ _ _ _ _ _ _ hr u p => acj (by exact ⟨u, NT dm 0, fU dm 0 rfl, aQ dm 1, aQ dm 2, aQ dm 3, aQ dm 4, aQ dm 5, NT dm 6, fU dm 6 rfl, aQ dm 7, aQ dm 8, aQ dm 9, bY dm 10, bY dm 11, bY dm 12, bY dm 13, bY dm 14, bY dm 15, bY dm 16, bT sR hr, akY, bT ZD hr, bT adz hr, bT ZE hr, g8, bT ah0 hr, SJ, bT M7 hr, bT SN hr⟩) p
 have ah1 := q 1 yS yT yU ahO acm Qi fun _ _ _ _ _ _ _ _ hr u p => agY (by exact ⟨u, aQ R4 0, bY R4 1, bT sR hr⟩) p
 have M8 : iM l.prog w K mg base wY 1 pJ _ ["self", "kinds", "elders", "starts"] (spI K (cl aI aS) "Tree" 4 wI wJ wK) := Rt Bc yV fun mj Ar outer s H E b a y hr hp => by
   obtain ⟨p0, p1, p2⟩ := a; refine L6 ?_ p0 p1 p2 y hp
   exact ⟨⟨⟨yV.nd, rfl, .never⟩, hr.units⟩, aQ j3 0, aQ j3 1, aQ j3 2, aQ j3 3, bY j3 4, jG, uP, i6, lJ, wU⟩
 have Ko : iM l.prog w K mg base wY 1 m9 _ ["self", "boxes", "names", "tree", "ins", "outs", "ways"] (spI K (cl aI aS) "Chart" 7 uc ud uf) := Rt zT wL fun mj Ar outer s H E b a y hr hp => by
   obtain ⟨p0, p1, p2, p3, p4, p5⟩ := a; refine IG ?_ p0 p1 p2 p3 p4 p5 y hp
   exact ⟨⟨⟨wL.nd, rfl, .never⟩, hr.units⟩, aQ eY 0, aQ eY 1, aQ eY 2, aQ eY 3, aQ eY 4, aQ eY 5, aQ eY 6, bY eY 7, jG, kF, Fy, wR, gH, Bd, zW, iZ⟩
 have adB := q 2 vh vm vn adl XR JZ fun _ _ _ _ _ _ _ _ hr u p => acq (by exact ⟨u, aQ lO 0, aQ lO 1, aQ lO 2, bY lO 3, bY lO 4, bY lO 5, bY lO 6, bY lO 7, g8, pK, ⟨⟨_, _, _, by rw [wc]; exact ⟨JT, uH, uI, JV⟩, M8, by rw [wc]; exact ahX, M0⟩, hr.mono Q.i⟩, jG, ⟨⟨_, _, _, by rw [kD]; exact ⟨Em, sM, sN, En⟩, Ko, by rw [kD]; exact adx, Kl⟩, hr.mono Q.i⟩, SJ⟩) p
 have adC := q 0 vo vp vq adn XT J1 fun _ _ _ _ _ _ _ _ hr u p => acs (by exact ⟨u, aQ yW 0, aQ yW 1, aQ yW 2, aQ yW 3⟩) p
 have wV := q 0 gQ gR gS Ft DS qh fun _ _ _ _ _ _ _ _ hr u p => E9 (by exact ⟨u, aQ iF 0, aQ iF 1, aQ iF 2, aQ iF 3, bY iF 4, jG⟩) p
 have M9 := q 1 nY n5 n6 Zc Uy Es fun _ _ _ _ _ _ _ _ hr u p => XW (by exact ⟨u, aQ vt 0, aQ vt 1, bY vt 2, bY vt 3, bT wV hr, SK⟩) p
 have ah2 := q 2 y9 za zb ahP acu Qj fun _ _ _ _ _ _ _ _ hr u p => ag2 (by exact ⟨u, aQ vv 0, aQ vv 1, aQ vv 2, aQ vv 3, bY vv 4, bY vv 5, bT adC hr, bT M9 hr⟩) p
 have QF := q 3 mP j4 j5 Qk L7 xO fun _ _ _ _ _ _ _ _ hr u p => Pr (by exact ⟨u, aQ fM 0, aQ fM 1, aQ fM 2, aQ fM 3, aQ fM 4, aQ fM 5, aQ fM 6, bY fM 7, bY fM 8, jG, bT ah2 hr⟩) p
 have Nb := q 4 lu gY ly MT IU uJ fun _ _ _ _ _ _ _ _ hr u p => Ma (by exact ⟨u, aQ dZ 0, aQ dZ 1, aQ dZ 2, aQ dZ 3, aQ dZ 4, aQ dZ 5, aQ dZ 6, bY dZ 7, bY dZ 8, bY dZ 9, jG, aew SM zV Q.r (.cons ⟨_, rfl⟩ (.cons ⟨_, rfl⟩ (.cons ⟨_, rfl⟩ (.cons ⟨_, rfl⟩ (.nil))))), bT QF hr⟩) p
 have adD : ∀ dd, iM l.prog w K mg base wY (1 + dd) P7 g_same ["found", "due"] (Oo K (cl aI aS) 2 n9 (fj dd) oh) := by
   intro dd
   induction dd using Nat.strongRecOn with
   | ind dd ih =>
     rw [show 1 + dd = (0 + dd) + 1 by omega]
     exact BH J2 R7 fun mj Ar outer s H E b a hr hp => by
       refine ag6 (dd := dd) ?_ hp
       exact ⟨⟨⟨R7.nd, rfl, .never⟩, hr.units⟩, aQ jy 0, aQ jy 1, aQ jy 2, bY jy 3, bY jy 4, bY jy 5, bY jy 6, bY jy 7, bY jy 8, bY jy 9, bY jy 10, bY jy 11, Kn, SJ, aeQ, ahY, jG, Km, pK, g8, fun d' hd => ⟨⟨_, _, _, ih d' hd, Zx, J2.kp, Zy⟩, hr.mono Q.a⟩⟩
 have ah3 := adD 8
 have QG := aex ah3 Zx J2.kp Zy
 have Be := q 0 jj jk jl MV IW uK fun _ _ _ _ _ _ _ _ hr u p => Mf (by exact ⟨u, NT iT 0, fU iT 0 rfl, aQ iT 1, aQ iT 2, aQ iT 3, bY iT 4, oB⟩) p
 have Bf := q 0 jm jn jo MX IX uL fun _ _ _ _ _ _ _ _ hr u p => Mh (by exact ⟨u, aQ j8 0, aQ j8 1, aQ j8 2, aQ j8 3, bY j8 4, jG⟩) p
 have Nf := q 0 oj om oq Zd Uz Et fun _ _ _ _ _ _ _ _ hr u p => X3 (by exact ⟨u, aQ GV 0, bY GV 1, jG⟩) p
 have Ng := q 2 ou jE ow Ze UA Eu fun _ _ _ _ _ _ _ _ hr u p => X5 (by exact ⟨u, aQ iV 0, aQ iV 1, aQ iV 2, aQ iV 3, bY iV 4, bY iV 5, bY iV 6, bY iV 7, bY iV 8, bT Be hr, bT Bf hr, SK, bT M9 hr, bT Nf hr⟩) p
 have ZH := q 1 rW rX rY Zf UB Ew fun _ _ _ _ _ _ _ _ hr u p => X7 (by exact ⟨u, aQ vA 0, aQ vA 1, bY vA 2, bY vA 3, bT wV hr, M5⟩) p
 have wW := q 2 gT eH gU Fv D0 qi fun _ _ _ _ _ _ _ _ hr u p => Fd (by exact ⟨u, aQ cQ 0, aQ cQ 1, aQ cQ 2, aQ cQ 3, bY cQ 4, bY cQ 5, bY cQ 6, bY cQ 7, bY cQ 8, bY cQ 9, xT, bT Be hr, bT Bf hr, M5, bT ZH hr, bT Nf hr⟩) p
 have ah4 := q 0 zl qE zm ahQ acw Qm fun _ _ _ _ _ _ _ _ hr u p => ag8 (by exact ⟨u, aQ acv 0, aew SM zV Q.r (.cons ⟨_, rfl⟩ (.cons ⟨_, rfl⟩ (.cons ⟨_, rfl⟩ (.cons ⟨_, rfl⟩ (.nil)))))⟩) p
 have adE := q 0 vC qF vD ado Yb J3 fun _ _ _ _ _ _ _ _ hr u p => acz (by exact ⟨u, aQ lR 0, aQ lR 1, aQ lR 2, aQ lR 3, aQ lR 4, aQ lR 5, bY lR 6, bY lR 7, g8, pK⟩) p
 have Fz := q 9 jz gV jA Fw D3 qj fun _ _ _ _ _ _ _ _ hr u p => Ff (by exact ⟨u, aQ cy 0, NT cy 1, fU cy 1 rfl, aQ cy 2, aQ cy 3, aQ cy 4, bY cy 5, bY cy 6, bY cy 7, bY cy 8, bY cy 9, bY cy 10, jG, g8, pK, bT xU hr, bT QG hr, bT adE hr⟩) p
 have ah5 : iM l.prog w K mg base wY 11 P8 _ ["parts", "state", "found", "log"] (spM K (cl aI aS) 4 uv zo uw qG) := agj Qo Sb (fun a hp => by
   obtain ⟨p0, p1, p2, p3, p4, p5, p6, p7, p8, p9, p10, p11, p12⟩ := a; dsimp only [uv, qG]
   repeat (first | exact trivial | refine ⟨rfl, ?_⟩)) fun mj Ar outer s H E b a hr hp => by
   obtain ⟨p0, p1, p2, p3, p4, p5, p6, p7, p8, p9, p10, p11, p12⟩ := a; refine ahc ?_ p0 p1 p2 p3 p4 p5 p6 p7 p8 p9 p10 p11 p12 hp
   exact ⟨⟨⟨Sb.nd, rfl, .never⟩, hr.units⟩, aQ g7 0, aQ g7 1, aQ g7 2, aQ g7 3, aQ g7 4, aQ g7 5, aQ g7 6, bY g7 7, bY g7 8, bY g7 9, bY g7 10, bY g7 11, bY g7 12, bY g7 13, bT Nb hr, jG, bT QG hr, bT Ng hr, bT wW hr, bT ah4 hr, bT Fz hr⟩
 have SQ := q 0 qH kM qI adp Yj J4 fun _ _ _ _ _ _ _ _ hr u p => acE (by exact ⟨u, aQ zq 0, NT zq 1, fU zq 1 rfl, bY zq 2, M6, uP, lJ⟩) p
 have Nh := q 1 lD lE lF MY Je uM fun _ _ _ _ _ _ _ _ hr u p => Mm (by exact ⟨u, aQ iW 0, aQ iW 1, aQ iW 2, aQ iW 3, aQ iW 4, bY iW 5, bT SQ hr, uP, i6, wU⟩) p
 have UZ : ∀ dd, iM l.prog w K mg base wY (3 + dd) Ed j9 ["tree", "memory", "mood", "mode"] (Oo K (cl aI aS) 4 kN (fO dd) kO) := by
   intro dd
   induction dd using Nat.strongRecOn with
   | ind dd ih =>
     rw [show 3 + dd = (2 + dd) + 1 by omega]
     exact BH zU GY fun mj Ar outer s H E b a hr hp => by
       refine Yl (dd := dd) ?_ hp
       exact ⟨⟨⟨GY.nd, rfl, .never⟩, hr.units⟩, aQ iX 0, aQ iX 1, aQ iX 2, aQ iX 3, aQ iX 4, aQ iX 5, aQ iX 6, bY iX 7, bY iX 8, bT Nh hr Q.a, fun d' hd => ⟨⟨_, _, _, ih d' hd, M3, zU.kp, M4⟩, hr.mono Q.a⟩⟩
 have ZI := UZ 40
 have Ni := aex ZI M3 zU.kp M4
 have G4 := q 0 lS iG lT UR Py Ay fun _ _ _ _ _ _ _ _ hr u p => UD (by exact ⟨u, aQ r6 0, aQ r6 1, aQ r6 2, aQ r6 3, kF, Bd⟩) p
 have adF := q 43 vI qK vJ adq Ym J5 fun _ _ _ _ _ _ _ _ hr u p => acH (by exact ⟨u, aQ qM 0, aQ qM 1, aQ qM 2, bY qM 3, bY qM 4, bY qM 5, pK, bT Ni hr, bT G4 hr, kF, gH, wR⟩) p
 have adG := q 0 vK vN vO ads Yo J6 fun _ _ _ _ _ _ _ _ hr u p => acJ (by exact ⟨u, aQ lU 0, aQ lU 1, aQ lU 2, aQ lU 3, bY lU 4, bY lU 5, bY lU 6, bY lU 7, jG, g8, akZ, pK⟩) p
 have Bg := q 0 jr e7 jt MZ Jg uN fun _ _ _ _ _ _ _ _ hr u p => Mr (by exact ⟨u, aQ mQ 0, aQ mQ 1, aQ mQ 2, aQ mQ 3⟩) p
 have ZJ := q 1 sd kP se Zg UE Ey fun _ _ _ _ _ _ _ _ hr u p => Yq (by exact ⟨u, aQ qN 0, aQ qN 1, aQ qN 2, aQ qN 3, bY qN 4, bT Bg hr⟩) p
 have ah6 := q 2 zB uA zC ahR acM Qp fun _ _ _ _ _ _ _ _ hr u p => ahf (by exact ⟨u, aQ pF 0, aQ pF 1, aQ pF 2, aQ pF 3, aQ pF 4, aQ pF 5, bY pF 6, bY pF 7, bT ZJ hr, bT Bg hr⟩) p
 have adH := q 3 vQ qO vR adt Yv J7 fun _ _ _ _ _ _ _ _ hr u p => acO (by exact ⟨u, aQ iH 0, aQ iH 1, aQ iH 2, aQ iH 3, aQ iH 4, aQ iH 5, aQ iH 6, bY iH 7, bY iH 8, bY iH 9, bY iH 10, pK, g8, bT ah6 hr, oB⟩) p
 have Kp := q 0 nh kQ ni adu Yw J8 fun _ _ _ _ _ _ _ _ hr u p => acQ (by exact ⟨u, aQ zE 0, aQ zE 1, aQ zE 2, aQ zE 3, uP, lJ⟩) p
 have EF := q 1 kR gG kT Zh UH Ez fun _ _ _ _ _ _ _ _ hr u p => Yy (by exact ⟨u, aQ vS 0, aQ vS 1, aQ vS 2, bY vS 3, bT Kp hr⟩) p
 have ah7 := q 2 zI uB zJ ahS acS Qq fun _ _ _ _ _ _ _ _ hr u p => ahl (by exact ⟨u, NT vU 0, fU vU 0 rfl, aQ vU 1, NT vU 2, fU vU 2 rfl, bY vU 3, xT, bT EF hr⟩) p
 have ak0 := q 2 CJ zK CK akX ahm Zi fun _ _ _ _ _ _ _ _ hr u p => akI (by exact ⟨u, aQ Av 0, aQ Av 1, aQ Av 2, aQ Av 3, bY Av 4, bY Av 5, bT Kp hr, bT EF hr, uP, i6⟩) p
 have G5 := q 3 lW iI lX UT PD Az fun _ _ _ _ _ _ _ _ hr u p => UJ (by exact ⟨u, aQ kU 0, aQ kU 1, aQ kU 2, bY kU 3, bY kU 4, bY kU 5, bT ak0 hr, Zz, zX, kF, iZ, gH⟩) p
 have QH := q 4 mR kg mS Qs Mw xP fun _ _ _ _ _ _ _ _ hr u p => PL (by exact ⟨u, aQ gn 0, aQ gn 1, aQ gn 2, aQ gn 3, aQ gn 4, bY gn 5, bY gn 6, bY gn 7, bT ah7 hr, bT G5 hr, oB, kF, gH⟩) p
 have Kq := q 0 kh iJ ki J9 Fi sO fun _ _ _ _ _ _ _ _ hr u p => Jp (by exact ⟨u, aQ e9 0, aQ e9 1, aQ e9 2, aQ e9 3, aQ e9 4, aQ e9 5, aQ e9 6, bY e9 7, jG, uP, lJ, i6⟩) p
 have ah8 := q 1 zL zM uE ahT acU Qt fun _ _ _ _ _ _ _ _ hr u p => ahp (by exact ⟨u, aQ pG 0, aQ pG 1, aQ pG 2, aQ pG 3, aQ pG 4, bY pG 5, bY pG 6, bY pG 7, bT Kp hr, jG, xT⟩) p
 have U0 := q 43 pH l0 pI UU PR AA fun _ _ _ _ _ _ _ _ hr u p => UL (by exact ⟨u, aQ dR 0, aQ dR 1, aQ dR 2, aQ dR 3, aQ dR 4, aQ dR 5, aQ dR 6, aQ dR 7, aQ dR 8, bY dR 9, bY dR 10, bY dR 11, bY dR 12, bT ah8 hr, bT Ni hr, bT SQ hr, oB, uP, i6⟩) p
 have FD := q 44 jB gW jC Fx D8 qk fun _ _ _ _ _ _ _ _ hr u p => Fl (by exact ⟨u, aQ cK 0, aQ cK 1, aQ cK 2, aQ cK 3, aQ cK 4, aQ cK 5, bY cK 6, bY cK 7, bY cK 8, bY cK 9, bY cK 10, bT U0 hr, bT G5 hr, zX, ZC, oB, kF, iZ, gH⟩) p
 have Nj := q 2 oz jF oA Zj UN EA fun _ _ _ _ _ _ _ _ hr u p => YG (by exact ⟨u, aQ nj 0, aQ nj 1, aQ nj 2, bY nj 3, bY nj 4, bY nj 5, ZC, zX, bT EF hr, kF, uP, iZ, i6, gH⟩) p
 have QI := q 3 mX ko mY Qu Mx xQ fun _ _ _ _ _ _ _ _ hr u p => PX (by exact ⟨u, aQ iK 0, aQ iK 1, aQ iK 2, aQ iK 3, aQ iK 4, aQ iK 5, bY iK 6, bT Nj hr, kF, zW⟩) p
 have QJ := q 0 mZ ku m5 Qv My xR fun _ _ _ _ _ _ _ _ hr u p => PZ (by exact ⟨u, aQ mh 0, aQ mh 1, aQ mh 2, aQ mh 3, bY mh 4, ady, kF, iZ⟩) p
 have Kr := q 0 kB iL kC Ka Fo sP fun _ _ _ _ _ _ _ _ hr u p => Jv (by exact ⟨u, aQ qb 0, aQ qb 1, bY qb 2, zX, kF, iZ⟩) p
 have adI := q 45 vZ qQ v5 adv YH Kc fun _ _ _ _ _ _ _ _ hr u p => acY (by exact ⟨u, NT dH 0, fU dH 0 rfl, aQ dH 1, aQ dH 2, aQ dH 3, aQ dH 4, NT dH 5, fU dH 5 rfl, aQ dH 6, aQ dH 7, aQ dH 8, bY dH 9, bY dH 10, bY dH 11, bY dH 12, bY dH 13, bY dH 14, bY dH 15, bT QH hr, bT Kq hr, bT FD hr, bT QI hr, bT QJ hr, bT G4 hr, oB, bT Kr hr, bT Nj hr, kF, gH⟩) p
 have ah9 := q 0 zP uF zQ ahU acZ Qw fun _ _ _ _ _ _ _ _ hr u p => ahw (by exact ⟨u, aQ CQ 0, aQ CQ 1, aQ CQ 2, aQ CQ 3⟩) p
 have ak1 : iM l.prog w K mg base wY 47 _ _ ["script"] (Oo K (cl aI aS) 1 v7 v8 v9) := BH Zk YN fun mj Ar outer s H E b a hr hp => by
   refine akP ?_ hp
   exact ⟨⟨⟨YN.nd, rfl, .never⟩, hr.units⟩, aQ fk 0, aQ fk 1, aQ fk 2, aQ fk 3, aQ fk 4, aQ fk 5, aQ fk 6, aQ fk 7, aQ fk 8, bY fk 9, bY fk 10, bY fk 11, bY fk 12, bY fk 13, bY fk 14, bY fk 15, bY fk 16, bY fk 17, bY fk 18, bY fk 19, bY fk 20, bY fk 21, bY fk 22, bT adA hr, bT ah1 hr, bT adB hr, pK, ⟨⟨_, _, _, ah5, ahV, Qo.kp, ahW⟩, hr.mono Q.i⟩, bT adF hr, bT adG hr, bT adH hr, bT adI hr, jG, bT ah9 hr, bT QG hr, bT Ng hr, bT wW hr⟩
 exact ak1.imp (af9 (fun _ => rfl) (fun _ => rfl) fun x hx => ahz hx)
theorem walk {l : PySem.W.OpenLaw} {q : Program} {loose : Q.h} {XP : Q.J -> Heap -> Prop} {YP : World -> Heap -> Prop} {d : DefRec} {K : Params -> PySem.W.Frag} (hn : l.most = some 63) (hdf : d.params.defaults = [])
   (hY : ∀ (w : World) (h : Heap), YP w h -> (K w.params).In h)
   (F : ∀ (w : World) (mg : Q.J) (fa : Addr) (h : Heap), (K w.params).In h -> h.Ns mainGlobals mg -> mg d.name = some (.ref fa) →
     ∃ fd : FuncData, (∀ (s : Shared) (u : Value), BindsTo s fd ⟨[u], []⟩ [("script", u)]) /\ ∀ base : Heap, (K w.params).In base -> base.Ns mainGlobals mg -> iM l.prog w (K w.params) mg base wY 47 fa fd ["script"] (Oo (K w.params) (fun _ => 0) 1 v7 v8 v9)) :
   PySem.W.WalkO q loose XP YP l.row.toRowW d [] (fun f vs => PySem.call f vs) :=
 L2.aaR (n := 63) (k := 47) (x := "script") (CX := fun _ => wY) (sp := fun w => Oo (K w.params) (fun _ => 0) 1 v7 v8 v9) hn Q.i hdf ⟨rfl, by decide, by decide⟩ hY F (fun _ _ a ns hl _ hS => af1 rfl hl rfl hS) fun _ _ _ _ _ z => z
end Law
end
namespace PySem.W.Fast
 def tw11003230437128275482 := 0
 def tw10357302443218339285 := 0
 def tw13519268127185752155 := 0
 def tw1011398012205321850 := 0
 def tw7928489995270809936 := 0
 def tw10286158729701104944 := 0
 def tw8372558926073685873 := 0
 def tw10428171319201638474 := 0
 def tw4472163389161957355 := 0
 def tw9230243874828878303 := 0
 def tw9332024514629262705 := 0
 def tw5636373673292610437 := 0
 def tw4275702273775666752 := 0
 def tw7678203746134924877 := 0
 def tw1578651260590845744 := 0
 def tw6712634208922336521 := 0
 def tw17489041355232020594 := 0
 def tw3116700315020061546 := 0
 def tw726929617110708165 := 0
 def tw11992295204617136949 := 0
 def tw6878800627744097226 := 0
 def tw5463739270244834432 := 0
 def tw7360292426643909791 := 0
 def tw563222051626370240 := 0
 def tw18417307716736327648 := 0
 def tw14700203175334999944 := 0
 def tw18370806576366227674 := 0
 def tw4761427363478193958 := 0
 def tw15628251640751559175 := 0
 def tw8703711671145895379 := 0
 def tw9065284132986891527 := 0
 def tw12319933052217633587 := 0
 def tw12674538945220913654 := 0
 def tw2798781612043809780 := 0
 def tw8162696339881053246 := 0
 def tw1103979501694590136 := 0
 def tw14985929493379304547 := 0
 def tw2471899687917103586 := 0
 def tw16837512250696347344 := 0
 def tw4416591309396087635 := 0
 def tw5088887908844785138 := 0
 def tw18112790096680945269 := 0
 def tw17880660253258083115 := 0
 def tw3992270740497236511 := 0
 def tw15716133881599659377 := 0
 def tw17633046446439599358 := 0
 def tw4572046946520009209 := 0
 def tw7303865042287874546 := 0
 def tw10196166557858732481 := 0
 def tw13669343285761900150 := 0
 def tw8173481862312226141 := 0
 def tw15076000806569391216 := 0
 def tw10920863621781978658 := 0
 def tw13522383642559577205 := 0
 def tw9804483787931549759 := 0
 def tw18337716843456515847 := 0
 def tw17698082501788407658 := 0
 def tw839650013138525341 := 0
 def tw5874912773158364985 := 0
 def tw9706017051975047089 := 0
 def tw13451596853956478399 := 0
 def tw17511593950917973204 := 0
 def tw13732040346593274959 := 0
 def tw8064761860059632298 := 0
 def tw12872921104389583623 := 0
 def tw7475077098551183039 := 0
 def tw8622799891546584994 := 0
 def tw4131599534720664124 := 0
 def tw1483655735613119699 := 0
 def tw3634464681950905302 := 0
 def tw6839194808818233476 := 0
 def tw14673645312707647931 := 0
 def tw3376806159041173116 := 0
 def tw9359694698699749935 := 0
 def tw428873288103662028 := 0
 def tw11447628590224502631 := 0
 def tw15065094587151602433 := 0
 def tw8246640212538584996 := 0
 def tw9201724926334713884 := 0
 def tw8882849497936343403 := 0
 def tw15713237698736118536 := 0
 def tw5446910877729142110 := 0
 def tw208270399546980789 := 0
 def tw12352227291595978520 := 0
 def tw12196393622128432633 := 0
 def tw15270922421312526740 := 0
 def tw4579704305734341137 := 0
 def tw9543086229273435035 := 0
 def tw3864685717574132041 := 0
 def tw17886686845898833657 := 0
 def tw13601994295101015886 := 0
end PySem.W.Fast
open PySem PySem.W PyProof.Rows
set_option maxRecDepth 100000 in
set_option maxHeartbeats 0 in
theorem PySem.Challenge.cw_moodtree_k42_whole_moves_walked_back_holds : PySem.Challenge.rw_moodtree_k42_whole_moves_walked_back.Holds := by
 w_on; o_law; k_head; (case hw => w_witness2)
 k_fill
 refine Law.walk (l := PySem.Challenge.rw_moodtree_k42_whole_moves_walked_back) rfl rfl (fun w h Y => PySem.W.kIn_of Y) ?F
 case F =>
   intro w mg fa h KX G hmg
   refine' Law.all_mk KX G hmg ?JM ?Ei ?Ej ?Ek ?El ?Em ?En ?qd ?qe ?sG ?uG ?sH ?sJ ?Qa ?JN ?JQ ?JR ?JS ?JT ?JV ?sL ?qf ?qg ?Qc (L2.bq ?b5 ?aia ?aib) ?Eo (L2.bq ?bB ?ZK ?DJ) ?JW (L2.bq ?gC ?adJ ?adK) ?xN (L2.bq ?QK ?QL ?QM) ?Ep (L2.bq ?f6 ?ZL ?ZM) ?Qe (L2.bq ?tZ ?aic ?aid) ?Er (L2.bq ?bM ?ZN ?ZO) ?Qf (L2.bq ?II ?aie ?aif) ?Qg (L2.bq ?rP ?aih ?aii) ?JX (L2.bq ?iS ?adL ?adM) ?Qh (L2.bq ?kJ ?aij ?aik) ?JY (L2.bq ?bf ?adN ?adO) ?Qi (L2.bq ?Iz ?ail ?aim) ?uH ?uI (L2.bq ?Nk ?Nm ?Nn) ?sM ?sN (L2.bq ?Ks ?Ku ?Kv) ?JZ (L2.bq ?bF ?adP ?CP) ?J1 (L2.bq ?adQ ?adR ?adS) ?qh (L2.bq ?FE ?FG ?FH) ?Es (L2.bq ?ZP ?ZQ ?ZR) ?Qj (L2.bq ?ain ?aio ?aip) ?xO (L2.bq ?QN ?QO ?QS) ?uJ (L2.bq ?Np ?Nq ?Nr) ?Ql (L2.bq ?aiq ?air ?k_same) ?uK (L2.bq ?Nt ?Nu ?Nv) ?uL (L2.bq ?Nx ?Ny ?Nz) ?Et (L2.bq ?ZS ?ZT ?ZU) ?Eu (L2.bq ?ZV ?ZW ?ZX) ?Ew (L2.bq ?ZY ?ZZ ?Z0) ?qi (L2.bq ?FI ?FJ ?FL) ?Qm (L2.bq ?ais ?ait ?aiu) ?J3 (L2.bq ?cN ?adT ?adU) ?qj (L2.bq ?FN ?FP ?FQ) ?Qn (L2.bq ?jb ?aiv ?aiw) ?J4 (L2.bq ?adV ?adW ?adX) ?uM (L2.bq ?NB ?NC ?NF) ?Ex (L2.bq ?Z6 ?Z7 ?Z8) ?Ay (L2.bq ?U1 ?U3 ?U4) ?J5 (L2.bq ?adY ?adZ ?ad0) ?J6 (L2.bq ?vP ?ad1 ?ad2) ?uN (L2.bq ?NK ?NP ?NQ) ?Ey (L2.bq ?Z9 ?aac ?aad) ?Qp (L2.bq ?aix ?aiy ?aiz) ?J7 (L2.bq ?j7 ?ad3 ?ad4) ?J8 (L2.bq ?ad5 ?ad6 ?ad7) ?Ez (L2.bq ?aae ?aaf ?aag) ?Qq (L2.bq ?aiA ?aiB ?aiC) ?Zi (L2.bq ?ak2 ?ak3 ?ak4) ?Az (L2.bq ?U5 ?U6 ?U7) ?xP (L2.bq ?QT ?QV ?QW) ?sO (L2.bq ?Kw ?Kx ?Ky) ?Qt (L2.bq ?aiD ?aiE ?aiF) ?AA (L2.bq ?U8 ?U9 ?Va) ?qk (L2.bq ?FT ?FU ?FW) ?EA (L2.bq ?aah ?aai ?aaj) ?xQ (L2.bq ?QX ?QY ?QZ) ?xR (L2.bq ?Q0 ?Q5 ?Q6) ?sP (L2.bq ?Kz ?KC ?KD) ?Kc (L2.bq ?ad8 ?ad9 ?aea) ?Qw (L2.bq ?mC ?aiG ?P0) ?SD (L2.bq ?ak5 ?ak6 ?ak7) ?Zm ?Kd ?Zn ?Zo ?Ke ?EB ?Zq ?Qx ?Kf ?Kg ?zV ?sQ ?y_bool ?EC ?xS ?uO ?Zv ?ED ?EE ?QD ?Kh
   case JM | Ei | Ej | Ek | El | Em | En | qd | qe | sG | uG | sH | sJ | Qa | JN | JQ | JR | JS | JT | JV | sL | qf | qg | Qc | b5 | aia | aib | Eo | bB | ZK | DJ | JW | gC | adJ | adK | xN | QK | QL | QM | Ep | f6 | ZL | ZM | Qe | tZ | aic | aid | Er | bM | ZN | ZO | Qf | II | aie | aif | Qg | rP | aih | aii | JX | iS | adL | adM | Qh | kJ | aij | aik | JY | bf | adN | adO | Qi | Iz | ail | aim | uH | uI | Nk | Nm | Nn | sM | sN | Ks | Ku | Kv | JZ | bF | adP | CP | J1 | adQ | adR | adS | qh | FE | FG | FH | Es | ZP | ZQ | ZR | Qj | ain | aio | aip | xO | QN | QO | QS | uJ | Np | Nq | Nr | Ql | aiq | air | k_same | uK | Nt | Nu | Nv | uL | Nx | Ny | Nz | Et | ZS | ZT | ZU | Eu | ZV | ZW | ZX | Ew | ZY | ZZ | Z0 | qi | FI | FJ | FL | Qm | ais | ait | aiu | J3 | cN | adT | adU | qj | FN | FP | FQ | Qn | jb | aiv | aiw | J4 | adV | adW | adX | uM | NB | NC | NF | Ex | Z6 | Z7 | Z8 | Ay | U1 | U3 | U4 | J5 | adY | adZ | ad0 | J6 | vP | ad1 | ad2 | uN | NK | NP | NQ | Ey | Z9 | aac | aad | Qp | aix | aiy | aiz | J7 | j7 | ad3 | ad4 | J8 | ad5 | ad6 | ad7 | Ez | aae | aaf | aag | Qq | aiA | aiB | aiC | Zi | ak2 | ak3 | ak4 | Az | U5 | U6 | U7 | xP | QT | QV | QW | sO | Kw | Kx | Ky | Qt | aiD | aiE | aiF | AA | U8 | U9 | Va | qk | FT | FU | FW | EA | aah | aai | aaj | xQ | QX | QY | QZ | xR | Q0 | Q5 | Q6 | sP | Kz | KC | KD | Kc | ad8 | ad9 | aea | Qw | mC | aiG | P0 | SD | ak5 | ak6 | ak7 | Zm | Kd | Zn | Zo | Ke | EB | Zq | Qx | Kf | Kg | zV | sQ | y_bool | EC | xS | uO | Zv | ED | EE | QD | Kh => (try delta L3.jK); k_is
