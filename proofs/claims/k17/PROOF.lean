import PyProof.Rows.All
import Wide.All
import OpenK.AllK
import Wide.FinOn
import Lean
import PyProof.EqAt
import PyProof.EqKinds
import PyProof.TupleCall
import PySem.Challenge.RW_moodtree_k17_the_first_refusal_is_told
set_option Elab.async false
set_option linter.all false
set_option maxRecDepth 100000
set_option maxHeartbeats 4000000
set_option hygiene false
local macro_rules | `($x:ident) => let u:=Lean.Macro.throwUnsupported; match x.getId with
 | .str (.str .anonymous "Q") s => (match s.front with
|'a'=>(match s with
|"a"=>`((by omega))
|"aa"=>`(starEach [e] X.env = (false, eval e X.env) :: starEach [] X.env)
|"ab"=>`(f1 ++ (g ++ f3))
|"ac"=>`((backTo pos (starEach es X.env)).any (·.1) = false)
|"ad"=>`(iE bs nm ks es ss is os ws)
|"ae"=>`(eK X CL b e1 δ (.int i) δ1)
|"af"=>`(ai (v_ (ji (i := 0) rfl Q.d)))
|"ag"=>`(r fun a ha => k a (atk _ ha))
|"ah"=>`(.builtin "object.__class__")
|"ai"=>`(eK X CL b e2 δ1 (.int j) δ2)
|"aj"=>`(cl aJ aM aD aq au aA av aB)
|"ak"=>`(show false = true from hs)
|"al"=>`(bZ K CL b H Z δ σ (t :: ts) (v :: vs))
|"am"=>`(ha pins s σ H _ I h)
|"an"=>`(.sh (d8 (bs.map kL) (nm.map .str) (fJ ks es ss) (is.map bX) (os.map bX) (ws.map jK)))
|"ao"=>`((x == ("__classdict__" : Str)) = false)
|"ap"=>`(cB s 1 % 10 ^ (9 : Int).toNat)
|"aq"=>`(fun z => hc (by simp [z]))
|"ar"=>`(BV (.int _ _) (.int _ _))
|"as"=>`(fun _ _ h r k => .cons (h fun a ha => k a (as9 _ ha)) (r fun a ha => k a (as7 _ ha)))
|"at"=>`(fun j δ ⟨_, _, e⟩ => by subst e; exact atf rfl)
|"au"=>`(∀ x, foldedSetIterable iter X.env x = pure x)
|"av"=>`(g7 (i := 0) (j := 0) E.fP.1 rfl rfl rfl)
|"aw"=>`(.Call (.Name x pp) (e :: es) [] pos)
|"ax"=>`(dJ E.eZ E.bY (aL E.dF) fC)
|"ay"=>`(fun _ _ _ k => by rw [D.qc] at k; cases k)
|"az"=>`(fun hp => by cases hp)
|"aA"=>`(Lies X pins σ H s H' e C a0 B s')
|"aB"=>`(fun e => by rw [e] at h; exact absurd h Q.d)
|"aC"=>`(ck Q.u rfl rfl (ai (bW Q.b Q.U)) h8)
|"aD"=>`(.ListComp elt [⟨tg, iter, ifs, 0⟩] scope pos)
|"aE"=>`(ai (v_ (oG (i := 1) rfl Q.d)))
|"aF"=>`(bG (ay Q.A (ay aj bK)) Q.i)
|"aG"=>`(sP (X := X.pinned p) (bs, nm, ks, es, ss, is, os, ws) E.nx E.iu.pin E.gK (ao (ai (v_ E.aY.1.pin)) aG) (by dsimp only [cA]; exact ⟨h, hr⟩))
|"aH"=>`(fU X scope Nc s3.heap.objs.size s3 (upd H s.heap.objs.size (.lst [])) fp)
|"aI"=>`(fun h _ r a ha => (atl.mp ha).elim (fun q => ⟨_, q ▸ h⟩) (r a))
|"aJ"=>`(es.getD (1 + (j : Int)).toNat 0 ∈ (j : Int) :: oB es (j : Int))
|"aK"=>`(swapsWith e (some (.Name x pos')) pos.line X.env = pure false)
|"aL"=>`(X.fn x = true \/ X.env.scope.names.lookup x = some .local)
|"aM"=>`(fun _ _ h r a ha => (ate.mp ha).elim (h a) (r a))
|"aN"=>`(some (.builtin "BaseException.__getattribute__"))
|"aO"=>`(qf (c / 100) (p.nm.getD i Str.empty))
|"aP"=>`(fun _ _ _ _ _ _ => by refine qR ?_; exact fun _ _ => rfl)
|"aQ"=>`(ao (ai (BI (X := X.hand a) (v := .ty "ValueError") (by exact E.nj) (by exact E.nq) iX rfl)) aG)
|"aR"=>`(ao (ai (eY (X := X.hand a) (v := .ref (CL "BadTree")) (by exact E.fG) (by exact E.ez) rfl)) aG)
|"aS"=>`(ao (ai (eY (X := X.hand a) (v := .ref (CL "BadName")) (by exact E.f9) (by exact E.fc) rfl)) aG)
|"aT"=>`(ao (ai (eY (X := X.hand a) (v := .ref (CL "BadDeed")) (by exact E.jf) (by exact E.gR) rfl)) aG)
|"aU"=>`(ao (ai (eY (X := X.hand a) (v := .ref (CL "BadBox")) (by exact E.jY) (by exact E.ig) rfl)) aG)
|"aV"=>`(ao (ai (eY (X := X.hand a) (v := .ref (CL "BadWay")) (by exact E.m9) (by exact E.kG) rfl)) aG)
|"aW"=>`((δc = O5 δ1 ix /\ ∀ d ∈ ds, (g d).clean = true) \/ δc = O6 δ1 ix)
|"aX"=>`(fun j δ ⟨_, _, _, e⟩ => by subst e; exact atf rfl)
|"aY"=>`(Ar.deeper (envOfC qual (az st) s.heap.objs.size f lC))
|"aZ"=>`(∀ a o, H a = some o -> pG o = true -> Z a = some o)
|_=>u)
|'b'=>(match s with
|"b"=>`(ai aj)
|"ba"=>`(fun p => by rw [← M0]; exact PB (X := X.pinned p) E.g.nd E.sF.pin (Pz (X := X.pinned p) Q.aG))
|"bb"=>`(c7 (p := [.ix 1]) (ck (j := 1) Q.u rfl rfl Q.b rfl) rfl rfl (bH _))
|"bc"=>`(aQ (ai (aR (aL E.uD) Q.b ⟨by decide, by decide⟩)) Q.b Q.c)
|"bd"=>`(ua (sO (q := false) (bI (aL E.dD) (ai Q.A)).1 Q.az))
|"be"=>`(.cons ⟨_, rfl⟩ (.cons ⟨_, rfl⟩ (.cons ⟨_, rfl⟩ (.nil))))
|"bf"=>`(((backTo pb (starEach [e] X.env)).all (fun x => !x.1) && (backToKw pb (keywordEach [] X.env)).all (fun x => x.1.isSome) && decide ([e].length + ([] : List Keyword).length + (if ([] : List Keyword).isEmpty then 0 else 1) < 30)) = true)
|"bg"=>`(if p.ks.getD (ja p c) Str.empty = "one" then ([-1, (ja p c : Int)] : List Int).getD (c / 700 % 2).toNat 0 else ([0, (p.nm.length : Int)] : List Int).getD (c / 700 % 2).toNat 0)
|"bh"=>`(∀ b ∈ ch, (b ∈ X.ex \/ X.s₀.heap.objs.size <= b) /\ b ≠ X.env.locals /\ (∀ x c, X.env.cells.lookup x = some c -> c ≠ b) /\ ∀ p ∈ X.pn ++ pins, p.1 ≠ b)
|"bi"=>`(fun r s' => r = .ok (.ret (.bool true)) /\ OldK s₁.heap s'.heap /\ s'.os = s₁.os /\ AllBare s'.gens)
|"bj"=>`(c7 (p := [.ix 7]) (u := T.lst ((p.ws.map jK).map T.sh)) (ck (j := 7) Q.u rfl rfl Q.b rfl) rfl rfl (bH _))
|"bk"=>`(gP (kQ (aK (c_ (bs.map kL, nm.map L3.D.str, fJ ks es ss, is, os, ws) E.su E.jG (ao (aL E.aY) aG) (by dsimp only [dR]; exact ⟨hs.i1, hs.o1, hs.w1, hs.d1⟩) rfl) (t2 := .sh (.bl (oz nm.length bs.length is os ws))) (by show T.sh (.bl (oz (nm.map L3.D.str).length (bs.map kL).length is os ws)) = _; rw [el, eb]))))
|"bl"=>`(gP (kQ (aK (c_ (bs.map kL, nm.map L3.D.str, fJ ks es ss, is.map bX, os.map bX, ws) E.tV E.kF (ao (aL E.aY) aG) hs.w2 rfl) (t2 := .sh (.bl (Ij nm.length bs.length 0 ws))) (by show T.sh (.bl (Ij (nm.map L3.D.str).length (bs.map kL).length 0 ws)) = _; rw [el, eb]))))
|"bm"=>`(gP (kQ (aK (c_ (ks, es, ss, nm.map L3.D.str) E.vD E.lA (ao (dJ E.b8 E.qw (aL E.aY) Ie) (ao (dJ E.b8 E.cI (aL E.aY) iz) aG)) hs.k1 rfl) (t2 := .sh (.bl (BL ks es ss nm.length))) (by show T.sh (.bl (BL ks es ss (nm.map L3.D.str).length)) = _; rw [el]))))
|"bn"=>`(fun _ => zv (aK (c_ (bs, nm, tr, is, os, ws, a', c) E.i7 E.e7 (ao (aL E.aY) (ao (dN (aL E.jk) Q.b (b6 (j := 2) rfl)) aG)) trivial rfl) (t2 := .sh (.bl (D9 bs.length a' c))) rfl))
|_=>u)
|'c'=>(match s with
|"c"=>`((by decide))
|_=>u)
|'d'=>(match s with
|"d"=>`((by decide +kernel))
|_=>u)
|'e'=>(match s with
|"e"=>`(List Int)
|_=>u)
|'f'=>(match s with
|"f"=>`((by decide +kernel))
|_=>u)
|'g'=>(match s with
|"g"=>`(Str -> Addr)
|_=>u)
|'h'=>(match s with
|"h"=>`(List Str)
|_=>u)
|'i'=>(match s with
|"i"=>`(aC rfl)
|_=>u)
|'j'=>(match s with
|"j"=>`(.refl _)
|_=>u)
|'k'=>(match s with
|"k"=>`(model X.prog X.w)
|_=>u)
|'l'=>(match s with
|"l"=>`(PySem.W.Frag)
|_=>u)
|'m'=>(match s with
|"m"=>`(Inv X pins σ H s)
|_=>u)
|'n'=>(match s with
|"n"=>`(List (Option T))
|_=>u)
|'o'=>(match s with
|"o"=>`(List (Addr × Obj))
|_=>u)
|'p'=>(match s with
|"p"=>`(List Addr)
|_=>u)
|'q'=>(match s with
|"q"=>`(List Value)
|_=>u)
|'r'=>(match s with
|"r"=>`((by simp))
|_=>u)
|'s'=>(match s with
|"s"=>`((x == ("__debug__" : Str)) = false)
|_=>u)
|'t'=>(match s with
|"t"=>`(Str × T)
|_=>u)
|'u'=>(match s with
|"u"=>`(aW E.aO.1 rfl)
|_=>u)
|'v'=>(match s with
|"v"=>`(Value -> Shared -> Prop)
|_=>u)
|'w'=>(match s with
|"w"=>`(z1.trans z2)
|_=>u)
|'x'=>(match s with
|"x"=>`(ai (v_ E.xg.1.hand))
|_=>u)
|'y'=>(match s with
|"y"=>`((by exact E.aV))
|_=>u)
|'z'=>(match s with
|"z"=>`((by exact E.aU))
|_=>u)
|'A'=>(match s with
|"A"=>`(cg Q.b)
|_=>u)
|'B'=>(match s with
|"B"=>`(Str -> Option Value)
|_=>u)
|'C'=>(match s with
|"C"=>`(.Name x pos)
|_=>u)
|'D'=>(match s with
|"D"=>`(List (Str × Int))
|_=>u)
|'E'=>(match s with
|"E"=>`(k1.trans k2)
|_=>u)
|'F'=>(match s with
|"F"=>`(CL "Chart")
|_=>u)
|'G'=>(match s with
|"G"=>`(aR (aL E.aH) (ai aj) ⟨by decide, by decide⟩)
|_=>u)
|'H'=>(match s with
|"H"=>`(.ref (CL "BadTree"))
|_=>u)
|'I'=>(match s with
|"I"=>`(.ref (CL "BadName"))
|_=>u)
|'J'=>(match s with
|"J"=>`(.ref (CL "BadDeed"))
|_=>u)
|'K'=>(match s with
|"K"=>`(.ref (CL "BadBox"))
|_=>u)
|'L'=>(match s with
|"L"=>`(.ref (CL "BadWay"))
|_=>u)
|'M'=>(match s with
|"M"=>`(bZ K CL b H Z δ σ ts vs)
|_=>u)
|'N'=>(match s with
|"N"=>`(dz I q Q.r)
|_=>u)
|'O'=>(match s with
|"O"=>`(gO Q.b Q.b ⟨by decide, by decide, by decide⟩)
|_=>u)
|'P'=>(match s with
|"P"=>`(aQ (aL E.aH) Q.b Q.c)
|_=>u)
|'Q'=>(match s with
|"Q"=>`(model prog w)
|_=>u)
|'R'=>(match s with
|"R"=>`(starEach (e :: es) X.env = (false, eval e X.env) :: starEach es X.env)
|_=>u)
|'S'=>(match s with
|"S"=>`(fun _ _ _ _ => trivial)
|_=>u)
|'T'=>(match s with
|"T"=>`(dH X CL b e δ t δ1)
|_=>u)
|'U'=>(match s with
|"U"=>`(ai (aQ (ai Q.G) Q.b Q.c))
|_=>u)
|'V'=>(match s with
|"V"=>`(fun _ _ _ => trivial)
|_=>u)
|'W'=>(match s with
|"W"=>`(ne c (by simp [hc]))
|_=>u)
|'X'=>(match s with
|"X"=>`(List (Key × D))
|_=>u)
|'Y'=>(match s with
|"Y"=>`(s.heap.objs.size + 1)
|_=>u)
|'Z'=>(match s with
|"Z"=>`((by simp; omega))
|_=>u)
 |_=>u)
 | _ => u
noncomputable section
namespace L2
open PySem PySem.Spec PyProof.Rows
abbrev as4 := @List.length_map
abbrev as5 := @if_neg
abbrev as6 := @of_decide_eq_true
abbrev as7 := @List.mem_append_right
abbrev as8 := @Nat.le_add_right_of_le
abbrev as9 := @List.mem_append_left
abbrev ata := @decide_eq_true
abbrev atb := @if_pos
abbrev atc := @List.append_assoc
abbrev atd := @of_decide_eq_false
abbrev ate := @List.mem_append
abbrev atf := @Nat.le_of_ble_eq_true
abbrev atg := @List.getD_eq_getElem?_getD
abbrev ath := @Nat.le_trans
abbrev ati := @List.mem_cons_self
abbrev atj := @List.mem_map
abbrev atk := @List.mem_cons_of_mem
abbrev atl := @List.mem_cons
abbrev atm := @List.getElem?_eq_getElem
abbrev atn := @decide_eq_false
abbrev ato := @Bool.and_eq_true
abbrev atp := @Int.emod_lt_of_pos
abbrev atq := @Nat.le_refl
abbrev atr := @Bool.and_false
abbrev ats := @List.length_append
abbrev att := @List.not_mem_nil
abbrev atu := @Heap.get?_push_of_some
abbrev atv := @Bool.false_ne_true
abbrev atw := @Int.emod_nonneg
abbrev atx := @Nat.zero_le
abbrev aty := @wpAny_bind
abbrev atz := @List.length_set
abbrev atA := @Heap.lt_size
abbrev atB := @PySem.W.mg_of
abbrev atD := @List.mem_singleton
abbrev atE := @List.getElem?_map
abbrev atF := @List.map_map
abbrev atG := @List.map_cons
abbrev atH := @Int.toNat_natCast
abbrev atJ := @List.perm_append_comm
abbrev atL := @List.all_eq_true
abbrev atM := @List.getElem?_eq_some_iff
abbrev atN := @List.size_toArray
abbrev atO := @List.Sublist.append
abbrev atP := @List.mem_range
abbrev atQ := @List.Sublist.refl
abbrev atR := @List.nodup_append
abbrev atU := @List.length_range
abbrev atV := @List.cons_append
abbrev atW := @List.lookup_cons
abbrev atX := @Option.some.inj
abbrev atY := @List.append_nil
abbrev atZ := @Nat.lt_of_lt_of_le
abbrev at3 := @Nat.ne_of_lt
abbrev at4 := @Heap.get?_push_size
abbrev at5 := @wpAny_pure
abbrev at6 := @List.mem_of_getElem?
abbrev at7 := @List.Perm.append_left
abbrev at8 := @List.length_cons
abbrev at9 := @List.length_take
abbrev aua := @Bool.false_and
abbrev aub := @Nat.le_of_lt
abbrev auc := @Option.map_eq_some_iff
abbrev aud := @List.nodup_cons
abbrev aue := @List.reverse_cons
abbrev auf := @wpAny_mono
abbrev auh := @List.sublist_append_right
abbrev aui := @sizeLine_eq
abbrev auj := @PySem.W.mg_none_of
abbrev auk := @List.map_congr_left
abbrev aul := @Int.zero_add
abbrev aum := @List.filterMap_cons
abbrev aun := @List.all_cons
abbrev auo := @List.any_cons
abbrev aup := @Bool.or_eq_false_iff
abbrev auq := @wpAny_truthy_bool
abbrev aur := @decide_eq_true_eq
abbrev aus := @PySem.mem_of_lookup
abbrev aut := @List.replicate_succ
abbrev auu := @List.getElem?_set_self
abbrev auv := @List.getElem?_append_right
abbrev auw := @List.getElem_mem
abbrev auy := @List.length_replicate
abbrev auz := @List.nodup_nil
abbrev auA := @List.nil_append
abbrev auB := @PySem.W.hideAll_get
abbrev auC := @List.getElem?_range
abbrev auD := @List.perm_middle
abbrev auE := @PyProof.Rows.callWith_type1
abbrev auF := @wpAny_Call_Name_kw
abbrev auG := @Ne.symm
abbrev auH := @wpAny_passesOwn
abbrev auI := @List.find?_cons
abbrev auJ := @List.map_append
abbrev auK := @List.range_succ
abbrev auL := @wpAny_holding
abbrev auM := @List.flatten_cons
abbrev auN := @List.mem_of_mem_take
abbrev auO := @List.pairwise_iff_getElem
abbrev auP := @beq_self_eq_true
abbrev auQ := @F.called_set
abbrev auR := @beq_eq_false_iff_ne
abbrev auS := @List.perm_iff_count
abbrev auT := @List.length_pos_iff
abbrev auU := @wpAny_getItem_str_slice
abbrev auV := @List.mem_filter
abbrev auW := @Bool.eq_iff_iff
abbrev auX := @Nat.lt_of_le_of_lt
abbrev auY := @List.pairwise_cons
abbrev auZ := @List.all_append
abbrev au0 := @List.take_add_one
abbrev au1 := @List.count_append
abbrev au2 := @codeAny_mono
abbrev au3 := @List.getElem?_eq_none
abbrev au4 := @Txt.slice_le
abbrev au5 := @List.mem_set
abbrev au6 := @List.getElem?_set_ne
abbrev au7 := @beq_iff_eq
abbrev au8 := @Nat.lt_succ_self
abbrev au9 := @Nat.lt_irrefl
abbrev ava := @List.map_take
abbrev avb := @Int.le_refl
abbrev avc := @Array.toList_append
abbrev avd := @List.getElem?_append_left
abbrev ave := @List.drop_eq_getElem_cons
abbrev avf := @PySem.W.of_hideAll
abbrev avh := @Nat.sub_self
abbrev avi := @or_false
abbrev avj := @List.map_set
abbrev avk := @List.Pairwise.imp_of_mem
abbrev avl := @List.Perm.refl
abbrev avm := @PySem.F.plainAttrs_list
abbrev avn := @F.plain_set_update_loop
abbrev avo := @decide_eq_false_iff_not
abbrev avp := @List.pairwise_map
abbrev Key := Sum Int Str
def Kn : Key -> Value -> Bool
 | .inl k, v => Value.isInt k v
 | .inr x, v => Value.isStrOf x v
def anP (w : World) : Key -> Int
 | .inl k => hashInt k
 | .inr x => hashStr w x
theorem gb : ∀ {k : Key} {v : Value}, Kn k v = true -> (∃ i t, k = Sum.inl i /\ v = Value.int i t) \/ (∃ x t, k = Sum.inr x /\ v = Value.str x t)
 | .inl i, v, h => by
   obtain ⟨t, e⟩ := Value.isInt_shape (k := i) (v := v) h
   exact .inl ⟨i, t, rfl, e⟩
 | .inr x, v, h => by
   obtain ⟨t, e⟩ := Value.isStrOf_shape (x := x) (v := v) h
   exact .inr ⟨x, t, rfl, e⟩
theorem Xh (i : Int) (t : Tok) : Kn (.inl i) (.int i t) = true := by simp [Kn, Value.isInt]
theorem Xi (x : Str) (t : Tok) : Kn (.inr x) (.str x t) = true := by simp [Kn, Value.isStrOf]
theorem ahn (a b : Int) : decide ((Sum.inl a : Key) = Sum.inl b) = (a == b) := by
 by_cases e : a = b
 . subst e; simp
 . have h : ¬ (Sum.inl a : Key) = Sum.inl b := fun q => e (Sum.inl.inj q)
   rw [atn h]
   exact (auR.mpr e).symm
theorem aho (a b : Str) : decide ((Sum.inr a : Key) = Sum.inr b) = decide (a = b) := by
 by_cases e : a = b
 . subst e; simp
 . have h : ¬ (Sum.inr a : Key) = Sum.inr b := fun q => e (Sum.inr.inj q)
   rw [atn h, atn e]
theorem ahp (a : Int) (b : Str) : decide ((Sum.inl a : Key) = Sum.inr b) = false := atn (fun q => nomatch q)
theorem ahq (a : Str) (b : Int) : decide ((Sum.inr a : Key) = Sum.inl b) = false := atn (fun q => nomatch q)
def j8 (prog : Program) (w : World) : PySem.KeyKind prog w Key where
 is := Kn
 hash := anP w
 inj := fun v a b ha hb => by
   rcases gb ha with ⟨i, t, rfl, rfl⟩ | ⟨x, t, rfl, rfl⟩
   . rcases gb hb with ⟨j, u, rfl, e⟩ | ⟨y, u, rfl, e⟩
     . injection e with e1 _; rw [e1]
     . exact nomatch e
   . rcases gb hb with ⟨j, u, rfl, e⟩ | ⟨y, u, rfl, e⟩
     . exact nomatch e
     . injection e with e1 _; rw [e1]
 byValue := fun k v h => by
   rcases gb h with ⟨i, t, rfl, rfl⟩ | ⟨x, t, rfl, rfl⟩ <;> rfl
 pyHash := fun hv h => by
   rcases gb hv with ⟨i, t, rfl, rfl⟩ | ⟨x, t, rfl, rfl⟩
   . exact wpAny_pyHash_int h
   . exact wpAny_pyHash_str h
 eqBool := fun hu hv h => by
   rcases gb hu with ⟨i, t, rfl, rfl⟩ | ⟨x, t, rfl, rfl⟩
   . rcases gb hv with ⟨j, u, rfl, rfl⟩ | ⟨y, u, rfl, rfl⟩
     . rw [ahn] at h; exact wpAny_eqBool_int h
     . rw [ahp] at h; exact SeqAt.EqAt.int_str i t y u _ _ _ _ h
   . rcases gb hv with ⟨j, u, rfl, rfl⟩ | ⟨y, u, rfl, rfl⟩
     . rw [ahq] at h; exact SeqAt.EqAt.str_int x t j u _ _ _ _ h
     . rw [aho] at h; exact wpAny_eqBool_str h
 «strs» := fun k x t v h => by
   rcases gb h with ⟨i, u, rfl, e⟩ | ⟨y, u, rfl, e⟩
   . exact nomatch e
   . injection e with e1 _
     subst e1
     cases v <;> rfl
theorem OB (prog : Program) (w : World) (i : Int) (t : Tok) : (j8 prog w).is (.inl i) (.int i t) = true := Xh i t
theorem OD (prog : Program) (w : World) (x : Str) (t : Tok) : (j8 prog w).is (.inr x) (.str x t) = true := Xi x t
inductive V where
 | non | bl (b : Bool) | int (i : Int) | str (x : Str) | Xj (b : Array UInt8) | flt (b : UInt64) | ref (a : Addr) | ty (n : String)
 deriving DecidableEq
def RelV : V -> Value -> Prop
 | .non, u => u = Value.none
 | .bl b, u => u = Value.bool b
 | .int i, u => ∃ t, u = Value.int i t
 | .str x, u => ∃ t, u = Value.str x t
 | .Xj b, u => ∃ t, u = Value.bytes b t
 | .flt b, u => ∃ t, u = Value.float b t
 | .ref a, u => u = Value.ref a
 | .ty n, u => u = Value.type n
abbrev Vals : List V -> List Value -> Prop := Paired RelV
variable {us : Q.q}
theorem Vals.length {xs : List V} (r : Vals xs us) : xs.length = us.length := Paired.length r
theorem Vals.get : ∀ {xs : List V} {us : Q.q} {i : Nat} {x : V}, Vals xs us -> xs[i]? = some x -> ∃ u, us[i]? = some u /\ RelV x u
 | _, _, _, _, .nil, e => by simp at e
 | _, _, 0, _, .cons r _, e => by simp at e; subst e; exact ⟨_, rfl, r⟩
 | _, _, i + 1, x, .cons _ t, e => by
   obtain ⟨u, h1, h2⟩ := Vals.get (i := i) (x := x) t (by simpa using e)
   exact ⟨u, by simpa using h1, h2⟩
theorem Vals.set {x : V} {u : Value} (r : RelV x u) : ∀ {xs : List V} {us : Q.q} (i : Nat), Vals xs us -> Vals (xs.set i x) (us.set i u)
 | _, _, _, .nil => .nil
 | _, _, 0, .cons _ t => .cons r t
 | _, _, i + 1, .cons q t => .cons q (Vals.set r i t)
theorem Vals.append : ∀ {xs ys : List V} {us ws : Q.q}, Vals xs us -> Vals ys ws -> Vals (xs ++ ys) (us ++ ws)
 | _, _, _, _, .nil, s => s
 | _, _, _, _, .cons r t, s => .cons r (Vals.append t s)
theorem Vals.take : ∀ {xs : List V} {us : Q.q} (n : Nat), Vals xs us -> Vals (xs.take n) (us.take n)
 | _, _, 0, _ => .nil
 | _, _, _ + 1, .nil => .nil
 | _, _, n + 1, .cons r t => .cons r (Vals.take n t)
theorem Vals.drop : ∀ {xs : List V} {us : Q.q} (n : Nat), Vals xs us -> Vals (xs.drop n) (us.drop n)
 | _, _, 0, r => r
 | _, _, _ + 1, .nil => .nil
 | _, _, n + 1, .cons _ t => Vals.drop n t
def Hq : Option V -> Option Value -> Prop
 | some v, some u => RelV v u
 | none, none => True
 | _, _ => False
def KV {κ : Type} : List (κ × V) -> List (κ × Value) -> Prop := Paired fun (p : κ × V) (q : κ × Value) => p.1 = q.1 /\ RelV p.2 q.2
def kV : Key -> V
 | .inl i => .int i
 | .inr x => .str x
inductive HO where
 | lst (xs : List V)
 | tup (xs : List V)
 | dK (b9 : List (Key × V)) | dT (b9 : List (List Key × V))
 | set (S : Int -> Bool) (n : Nat)
 | ins (C dx : Addr) (fs : List (Str × V))
 | own (x : Addr)
 | xd (fs : List (Str × V))
 | met (f x : Addr)
 | rng (lo hi : Int)
 | iU (o : Obj) (u : HO)
 | tbl (ps : Array Value)
 | tabs (q : Str)
 | cod (q : Str)
 | ext (φ : Heap -> Prop)
abbrev Hp := Addr -> Option HO
def upd (H : Hp) (a : Addr) (o : HO) : Hp := fun b => if b = a then some o else H b
variable {H : Hp} {a : Addr} {o : HO}
theorem bR : upd H a o a = some o := by unfold upd; rw [atb rfl]
variable {b : Addr}
theorem aP (h : b ≠ a) : upd H a o b = H b := by unfold upd; rw [as5 h]
theorem akO {u : HO} (h : H a = some o) (h' : H b = some u) (d : o ≠ u) : a ≠ b := by
 intro e; subst e; rw [h] at h'; exact d (atX h')
theorem cM (h : H a = some o) (h' : H b = none) : a ≠ b := by
 intro e; subst e; rw [h] at h'; cases h'
section
variable (P : Program) (w : World)
def iV (H : Hp) (h : Heap) (a : Addr) : HO -> Prop
 | .lst xs => xs.length <= sizeLine /\ ∃ (its : Q.q) (n : Nat), Vals xs its /\ h.get? a = some { cls := .type "list", data := .seq its.toArray n }
 | .tup xs => xs.length <= sizeLine /\ ∃ its : List Value, Vals xs its /\ IsTup h a its.toArray
 | .dK b9 => b9.length <= sizeLine /\ (a == sysModules) = false /\ ∃ vs, KV b9 vs /\ h.DictOf (j8 P w) a vs
 | .dT b9 => b9.length <= sizeLine /\ (a == sysModules) = false /\ ∃ xs : List (List Key × Addr × Value),
     Paired (fun (p : List Key × V) (q : List Key × Addr × Value) => p.1 = q.1 /\ H q.2.1 = some (.tup (p.1.map kV)) /\ RelV p.2 q.2.2) b9 xs ∧
     ∃ o es ep, h.get? a = some o /\ o.ExactDict /\ o.data = .dict es ep /\ es.toList = xs.map (entryOfKey (tupleKind (j8 P w))) /\ (xs.map (·.1)).Nodup
 | .set S n => h.SetOf (intKind P w) a S n
 | .ins C dx fs => H dx = some (.own a) /\ fs.length <= 1000 /\ dx ≠ a /\ h.get? a = some (PySem.W.instObj C dx) ∧
     ∃ mA, h.Ns1 dx mA /\ (∀ f, Hq (fs.lookup f) (mA f)) /\ PySem.Within mA (fs.map (·.1))
 | .own _ => ∃ o, h.get? a = some o
 | .xd fs => ∃ mA, h.Ns1 a mA /\ ∀ f, Hq (fs.lookup f) (mA f)
 | .rng lo hi => ∃ t u v, h.get? a = some { cls := .type "range", data := .fields #[.int lo t, .int hi u, .int 1 v] }
 | .iU o u => h.get? a = some o /\ iV H h a u
 | .tbl ps => h.get? a = some { cls := .none, data := .fields ps }
 | .tabs q => ∃ ps : Array Value, h.get? a = some { cls := .none, data := .fields ps } /\ TriplesOk ps.toList /\ ∀ pos cv, codeAmong pos ps.toList = some cv -> ∃ c, cv = .ref c /\ H c = some (.cod q)
 | .cod q => ∃ o vs t, h.get? a = some o /\ o.data = .fields vs /\ vs[1]? = some (.str q t)
 | .met f x => h.get? a = some (PySem.W.methodObj (.ref f) (.ref x))
 | .ext φ => φ h /\ (∃ o, h.get? a = some o) /\ ∀ h1 h2 : Heap, φ h1 -> (∀ o, h1.get? a = some o -> h2.get? a = some o) -> φ h2
def xN (H : Hp) (h : Heap) : Prop := ∀ a o, H a = some o -> iV P w H h a o
end
variable {P : Program} {w : World} {H' : Hp} {h h' : Heap}
theorem iV.lt (x : iV P w H h a o) : a < h.objs.size := by
 cases o with
 | lst xs => obtain ⟨_, _, _, _, e⟩ := x; exact atA e
 | tup xs => obtain ⟨_, _, _, p⟩ := x; exact p.lt
 | dK b9 => obtain ⟨_, _, _, _, o, _, _, e, _⟩ := x; exact atA e
 | dT b9 => obtain ⟨_, _, _, _, o, _, _, e, _⟩ := x; exact atA e
 | set S n => obtain ⟨o, _, _, _, e, _⟩ := x; exact atA e
 | ins C dx fs => obtain ⟨_, _, _, e, _⟩ := x; exact atA e
 | own y => obtain ⟨_, e⟩ := x; exact atA e
 | xd fs => obtain ⟨_, ⟨_, _, _, e, _⟩, _⟩ := x; exact atA e
 | rng lo hi => obtain ⟨_, _, _, e⟩ := x; exact atA e
 | iU ob u => obtain ⟨e, _⟩ := x; exact atA e
 | tbl ps => exact atA (show h.get? a = some _ from x)
 | tabs q => obtain ⟨_, e, _⟩ := x; exact atA e
 | cod q => obtain ⟨_, _, _, e, _⟩ := x; exact atA e
 | met f y => exact atA (show h.get? a = some _ from x)
 | ext φ => obtain ⟨_, ⟨_, e⟩, _⟩ := x; exact atA e
theorem Paired.ahr {α β : Type} {F G : α -> β -> Prop} : ∀ {l₁ : List α} {l₂ : List β}, Paired F l₁ l₂ -> (∀ a b, F a b -> G a b) -> Paired G l₁ l₂
 | _, _, .nil, _ => .nil
 | _, _, .cons r t, f => .cons (f _ _ r) (Paired.ahr t f)
theorem iV.J3 (x : iV P w H h a o) (k : ∀ b u, (b = a \/ H b = some (.own a)) -> h.get? b = some u -> h'.get? b = some u)
   (ho : ∀ b, H b = some (.own a) -> H' b = some (.own a)) (ht : ∀ b xs, H b = some (.tup xs) -> H' b = some (.tup xs)) (rJ : ∀ b q, H b = some (.cod q) -> H' b = some (.cod q) := by intro _ _ q; exact q) : iV P w H' h' a o := by
 induction o with
 | lst xs => obtain ⟨z, its, n, r, e⟩ := x; exact ⟨z, its, n, r, k _ _ (.inl rfl) e⟩
 | tup xs => obtain ⟨z, its, r, ob, e, c⟩ := x; exact ⟨z, its, r, ob, k _ _ (.inl rfl) e, c⟩
 | dK b9 => obtain ⟨z, y, vs, r, ob, es, ep, e, c⟩ := x; exact ⟨z, y, vs, r, ob, es, ep, k _ _ (.inl rfl) e, c⟩
 | dT b9 =>
   obtain ⟨z, y, xs, r, ob, es, ep, e, c⟩ := x
   exact ⟨z, y, xs, Paired.ahr r fun p q z => ⟨z.1, ht _ _ z.2.1, z.2.2⟩, ob, es, ep, k _ _ (.inl rfl) e, c⟩
 | set S n => obtain ⟨ob, es, ep, t, e, c⟩ := x; exact ⟨ob, es, ep, t, k _ _ (.inl rfl) e, c⟩
 | ins C dx fs =>
   obtain ⟨d, z, ne, e, mA, ⟨od, es, ep, e2, c⟩, r⟩ := x
   exact ⟨ho _ d, z, ne, k _ _ (.inl rfl) e, mA, ⟨od, es, ep, k _ _ (.inr d) e2, c⟩, r⟩
 | own y => obtain ⟨ob, e⟩ := x; exact ⟨ob, k _ _ (.inl rfl) e⟩
 | xd fs => obtain ⟨mA, ⟨od, es, ep, e, c⟩, r⟩ := x; exact ⟨mA, ⟨od, es, ep, k _ _ (.inl rfl) e, c⟩, r⟩
 | rng lo hi => obtain ⟨t, u, v, e⟩ := x; exact ⟨t, u, v, k _ _ (.inl rfl) e⟩
 | iU ob u ih => obtain ⟨e, q⟩ := x; exact ⟨k _ _ (.inl rfl) e, ih q⟩
 | tbl ps =>
   have e : h.get? a = some { cls := .none, data := .fields ps } := x
   show h'.get? a = some { cls := .none, data := .fields ps }
   exact k a _ (.inl rfl) e
 | met f y =>
   have e : h.get? a = some (PySem.W.methodObj (.ref f) (.ref y)) := x
   show h'.get? a = some (PySem.W.methodObj (.ref f) (.ref y))
   exact k a _ (.inl rfl) e
 | tabs q => obtain ⟨ps, e, tr, cs⟩ := x; exact ⟨ps, k _ _ (.inl rfl) e, tr, fun pos cv z => let ⟨c, e1, e2⟩ := cs pos cv z; ⟨c, e1, rJ _ _ e2⟩⟩
 | cod q => obtain ⟨ob, vs, t, e, r⟩ := x; exact ⟨ob, vs, t, k _ _ (.inl rfl) e, r⟩
 | ext φ => obtain ⟨p, ⟨o, e⟩, st⟩ := x; exact ⟨st _ _ p fun o q => k _ _ (.inl rfl) q, ⟨o, k _ _ (.inl rfl) e⟩, st⟩
theorem xN.lt (x : xN P w H h) (e : H a = some o) : a < h.objs.size := (x a o e).lt
theorem xN.fresh (x : xN P w H h) (e : h.objs.size <= a) : H a = none := by
 cases q : H a with
 | none => rfl
 | some u => exact absurd (atZ (x.lt q) e) (au9 _)
theorem xN.kept (x : xN P w H h) (k : ∀ b u, h.get? b = some u -> h'.get? b = some u) : xN P w H h' := fun a o e =>
 (x a o e).J3 (fun b u _ q => k b u q) (fun _ q => q) fun _ _ q => q
theorem xN.laid (x : xN P w H h) (k : ∀ b u, h.get? b = some u -> h'.get? b = some u) (hp : h.objs.size <= a) (new : iV P w (upd H a o) h' a o) : xN P w (upd H a o) h' := fun b u e => by
 have hn := x.fresh hp
 by_cases hb : b = a
 . subst hb; rw [bR] at e; cases e; exact new
 . rw [aP hb] at e
   exact (x b u e).J3 (fun c v _ q => k c v q) (fun c q => by rw [aP (cM q hn)]; exact q) (fun c xs q => by rw [aP (cM q hn)]; exact q) fun c z q => by rw [aP (cM q hn)]; exact q
def Rd (H : Hp) (a : Addr) (u : HO) : Prop := H a = some u \/ ∃ o, H a = some (.iU o u)
theorem Rd.ok {u : HO} (r : Rd H a u) (x : xN P w H h) : iV P w H h a u := by
 rcases r with r | ⟨o, r⟩
 . exact x a u r
 . obtain ⟨_, q⟩ := x a _ r
   exact q
def Mut : Option HO -> Prop
 | some (.lst _) => True
 | some (.dK _) => True
 | some (.dT _) => True
 | some (.set _ _) => True
 | some (.ins _ _ _) => True
 | some (.ext _) => True
 | some (.tabs _) => True
 | _ => False
variable {x e : Addr} {o' : HO}
theorem xN.write (ok : xN P w H h) (mu : Mut (H x)) (he : e = x \/ H e = some (.own x)) (k : ∀ b u, b ≠ e -> h.get? b = some u -> h'.get? b = some u) (heo : ∃ u, h'.get? e = some u)
   (new : iV P w (upd H x o') h' x o') : xN P w (upd H x o') h' := fun b u q => by
 have akQ : ∀ c y, H c = some (.own y) -> c ≠ x := fun c y r z => by subst z; rw [r] at mu; exact mu
 have anQ : ∀ c xs, H c = some (.tup xs) -> c ≠ x := fun c xs r z => by subst z; rw [r] at mu; exact mu
 have anR : ∀ c q, H c = some (.cod q) -> c ≠ x := fun c q r z => by subst z; rw [r] at mu; exact mu
 by_cases hb : b = x
 . subst hb; rw [bR] at q; cases q; exact new
 . rw [aP hb] at q
   by_cases hbe : b = e
   . have q' : H b = some (.own x) := by
       rcases he with z | z
       . exact absurd (hbe.trans z) hb
       . rw [hbe]; exact z
     rw [q] at q'; cases q'
     obtain ⟨v, hv⟩ := heo
     exact ⟨v, by rw [hbe]; exact hv⟩
   . refine (ok b u q).J3 (fun c v hc r => k c v ?_ r) (fun c r => by rw [aP (akQ c b r)]; exact r) (fun c xs r => by rw [aP (anQ c xs r)]; exact r) fun c z r => by rw [aP (anR c z r)]; exact r
     rcases hc with rfl | hc
     . exact hbe
     . rintro rfl
       rcases he with z | z
       . exact akQ c b hc z
       . rw [hc] at z; cases z; exact hb rfl
structure Un (fs ex : Q.p) (H H' : Hp) (h h' : Heap) : Prop where
 keep : ∀ b o, h.get? b = some o -> H b = none -> b ∉ fs -> b ∉ ex -> h'.get? b = some o
 slot : ∀ b o, h.get? b = some o -> H b = none -> b ∈ fs -> b ∉ ex -> ∃ sl, h'.get? b = some { o with slots := sl }
 free : ∀ b o, h.get? b = some o -> H b = none -> b ∉ ex -> H' b = none
 there : ∀ b o, h.get? b = some o -> b ∉ ex -> ∃ o', h'.get? b = some o'
 F2 : ∀ b xs, H b = some (.tup xs) -> H' b = some (.tup xs)
 lB : ∀ b o u, H b = some (.iU o u) -> H' b = some (.iU o u)
 F3 : ∀ b ps, H b = some (.tbl ps) -> ∃ more, H' b = some (.tbl (ps ++ more))
section
variable {fs ex : Q.p} {H1 : Hp} {h1 : Heap}
theorem Un.any (u : Un fs ex H H1 h h1) {ob : Obj} (q : h.get? b = some ob) (n : H b = none) (hx : b ∉ ex) : ∃ sl, h1.get? b = some { ob with slots := sl } := by
 by_cases hb : b ∈ fs
 . exact u.slot b ob q n hb hx
 . exact ⟨ob.slots, u.keep b ob q n hb hx⟩
theorem Un.kept (k : ∀ b u, h.get? b = some u -> h'.get? b = some u) : Un fs ex H H h h' :=
 ⟨fun b ob q _ _ _ => k b ob q, fun b ob q _ _ _ => ⟨ob.slots, k b ob q⟩, fun _ _ _ n _ => n, fun b ob q _ => ⟨ob, k b ob q⟩, fun _ _ q => q, fun _ _ _ q => q, fun _ ps q => ⟨#[], by rw [q]; simp⟩⟩
theorem Un.refl : Un fs ex H H h h := Un.kept fun _ _ q => q
theorem Un.laid (k : ∀ b u, h.get? b = some u -> h'.get? b = some u) (hp : h.objs.size <= a) (hn : H a = none) : Un fs ex H (upd H a o) h h' where
 keep := fun b u q _ _ _ => k b u q
 slot := fun b u q _ _ _ => ⟨u.slots, k b u q⟩
 free := fun b u q n _ => by rw [aP (at3 (atZ (atA q) hp))]; exact n
 there := fun b u q _ => ⟨u, k b u q⟩
 F2 := fun b xs q => by rw [aP (cM q hn)]; exact q
 lB := fun b u xs q => by rw [aP (cM q hn)]; exact q
 F3 := fun b ps q => ⟨#[], by rw [aP (cM q hn), q]; simp⟩
theorem Un.write (mu : Mut (H x)) (he : e = x \/ H e = some (.own x)) (k : ∀ b u, b ≠ e -> h.get? b = some u -> h'.get? b = some u) (heo : ∃ u, h'.get? e = some u) : Un fs ex H (upd H x o) h h' := by
 have hx : ∀ b, H b = none -> b ≠ x := fun b n z => by subst z; rw [n] at mu; exact mu
 have hb : ∀ b, H b = none -> b ≠ e := fun b n z => by
   subst z
   rcases he with r | r
   . exact hx b n r
   . rw [n] at r; cases r
 have hm : ∀ b u, H b = some u -> ¬ Mut (some u) -> b ≠ x := fun b u q nm z => by subst z; rw [q] at mu; exact nm mu
 refine ⟨fun b u q n _ _ => k b u (hb b n) q, fun b u q n _ _ => ⟨u.slots, k b u (hb b n) q⟩, fun b u q n _ => by rw [aP (hx b n)]; exact n, fun b u q _ => ?_,
   fun b xs q => by rw [aP (hm b _ q fun z => z)]; exact q, fun b u xs q => by rw [aP (hm b _ q fun z => z)]; exact q, fun b ps q => ⟨#[], by rw [aP (hm b _ q fun z => z), q]; simp⟩⟩
 by_cases hbe : b = e
 . subst hbe; exact heo
 . exact ⟨u, k b u hbe q⟩
end
def trk (h : Heap) (H : Hp) : List Addr := (List.range h.objs.size).filter fun a => (H a).isSome
def K8 (h : Heap) (H : Hp) : Heap := PySem.W.hideAll h (trk h H)
theorem Xk (h : Heap) (H : Hp) : (K8 h H).objs.size = h.objs.size := PySem.W.hideAll_size _ _
theorem aac {o : Obj} (e : h.get? b = some o) (n : H b = none) : (K8 h H).get? b = some o :=
 auB _ e fun hm => by
   have q : (H b).isSome = true := (auV.mp hm).2
   rw [n] at q; simp at q
theorem ady {o : Obj} (e : (K8 h H).get? b = some o) : h.get? b = some o /\ H b = none := by
 have e' : h.get? b = some o := avf (trk h H) e
 refine ⟨e', ?_⟩
 cases q : H b with
 | none => rfl
 | some x =>
   have hm : b ∈ trk h H := auV.mpr ⟨atP.mpr (atA e'), by simp [q]⟩
   have z : (K8 h H).get? b = none := PySem.W.hideAll_none (trk h H) hm
   rw [z] at e; cases e
def adz (g h : Heap) (L : Addr) : List (Addr × Obj) := (List.range h.objs.size).filterMap fun a => if a = L \/ (g.get? a).isSome = true then none else (h.get? a).map fun o => (a, o)
def rest (g h : Heap) (L d : Addr) : List (Addr × Obj) := (adz g h L).filter fun p => decide (p.1 ≠ d)
structure Mod (K : Q.l) (mg : Q.B) (base : Heap) : Prop where
 kin : K.In base
 glob : base.Ns mainGlobals mg
 blt : ∃ mb, base.Ns builtinsNs mb /\ ∀ x : Str, x ≠ "__name__" -> mb x = bootBuiltins x
 nolimit : base.NoLimit
structure Cx where
 prog : Program
 w : World
 K : PySem.W.Frag
 mg : Str -> Option Value
 base : Heap
 A : Around
 N : List Str
 s₀ : Shared
 H₀ : Hp
 env : Env
 outer : List Env
 stack : List Env
 ex : List Addr
 fn : Str -> Bool
 calm : Bool
 pn : List (Addr × Obj)
 xe : Value -> Shared -> Prop
def vW (l : List Env) : List Addr := l.filterMap (·.frame)
abbrev Cx.fs (X : Cx) : List Addr := vW X.outer
def Vis (sc : Scope) (x : Str) : Prop := sc.names.lookup x = some .local \/ sc.names.lookup x = some .cell \/ sc.names.lookup x = some .free
def Loc (sc : Scope) (x : Str) : Prop := sc.names.lookup x = some .local \/ sc.names.lookup x = some .cell
def Look (env : Env) (h : Heap) (m : Q.B) (x : Str) (u : Value) : Prop :=
 (env.kindOf x = some .local /\ m x = some u) \/ ((env.kindOf x = some .cell \/ env.kindOf x = some .free) /\ ∃ c, env.cells.lookup x = some c /\ h.IsCell c (some u))
structure Cx.Ok (X : Cx) : Prop where
 mod : Mod X.K X.mg X.base
 kind : X.env.scope.kind = .function
 glob : X.env.globals = mainGlobals
 blt : X.env.builtins = builtinsNs
 above : X.s₀.heap.objs.size <= X.env.locals
 inj : ∀ x y c, X.env.cells.lookup x = some c -> X.env.cells.lookup y = some c -> x = y
 has : ∀ x, (X.env.kindOf x = some .cell \/ X.env.kindOf x = some .free) -> ∃ c, X.env.cells.lookup x = some c
 cab : ∀ x c, X.fn x = true -> X.env.cells.lookup x = some c -> X.s₀.heap.objs.size <= c
 hd : X.calm = true -> X.A.handled = none
 frames : X.A.frames = some X.stack
 stk : X.stack = X.outer \/ (X.stack = X.env :: X.outer /\ X.env.frame = some X.env.locals)
 exf : ∀ b ∈ X.ex, b ≠ X.env.locals /\ ∀ x c, X.env.cells.lookup x = some c -> c ≠ b
 bs : ∀ b o, X.base.get? b = some o -> X.s₀.heap.get? b = some o /\ X.H₀ b = none
 bsz : X.base.objs.size <= X.s₀.heap.objs.size
 Rp : ∀ b o, X.base.get? b = some o -> b ∉ X.ex
 Xl : ∀ b ∈ X.ex, b ∉ X.fs
 zo : X.s₀.heap.FunFrames X.base X.outer
 frf : ∀ b ∈ X.fs, X.H₀ b = none
structure Inv (X : Cx) (pins : Q.o) (σ : List (Option V)) (H : Hp) (s : Shared) : Prop where
 ok : X.Ok
 os : s.os = X.s₀.os
 bare : AllBare s.gens
 base : Un X.fs X.ex X.H₀ H X.s₀.heap s.heap
 loc : ∃ m, s.heap.Ns X.env.locals m /\ ∀ (i : Nat) (x : Str) (v : V), X.N[i]? = some x -> σ[i]? = some (some v) -> Vis X.env.scope x -> ∃ u, RelV v u /\ Look X.env s.heap m x u
 cell : ∀ x c, X.env.cells.lookup x = some c -> ∃ v, s.heap.IsCell c v
 free : H X.env.locals = none
 p8 : ∀ x c, X.env.cells.lookup x = some c -> H c = none
 pin : ∀ p ∈ X.pn ++ pins, s.heap.get? p.1 = some p.2 /\ H p.1 = none /\ p.1 ≠ X.env.locals /\ p.1 ∉ X.fs /\ ∀ v, p.2.data ≠ .cell v
 gS : xN X.prog X.w H s.heap
 len : σ.length = X.N.length
variable {X : Cx} {pins : Q.o} {σ : List (Option V)} {s : Shared}
theorem Cx.Ok.anS (ok : X.Ok) {o : Obj} (e : X.base.get? b = some o) : b ∉ X.fs := fun hb => by
 have := (ok.zo.mem hb).1
 rw [e] at this; cases this
theorem Inv.bs (I : Q.m) : ∀ b o, X.base.get? b = some o -> s.heap.get? b = some o /\ H b = none := fun b o e =>
 ⟨I.base.keep b o (I.ok.bs b o e).1 (I.ok.bs b o e).2 (I.ok.anS e) (I.ok.Rp b o e), I.base.free b o (I.ok.bs b o e).1 (I.ok.bs b o e).2 (I.ok.Rp b o e)⟩
theorem Inv.bk (I : Q.m) : ∀ b o, X.base.get? b = some o -> s.heap.get? b = some o := fun b o e => (I.bs b o e).1
theorem Inv.mod (I : Q.m) : Mod X.K X.mg X.base := I.ok.mod
theorem Inv.J1 (I : Q.m) : X.K.In s.heap := I.ok.mod.kin.keeps I.bk
theorem Inv.lt (I : Q.m) : X.env.locals < s.heap.objs.size := let ⟨_, hn, _⟩ := I.loc; hn.lt
theorem Inv.sz (I : Q.m) : X.s₀.heap.objs.size <= s.heap.objs.size := ath I.ok.above (aub I.lt)
theorem Inv.anT (I : Q.m) (h : s.heap.objs.size <= a) : a ∉ X.fs := fun hb => by
 obtain ⟨_, o, ho, _⟩ := I.ok.zo.mem hb
 exact absurd (atZ (atA ho) (ath I.sz h)) (au9 _)
theorem Inv.cne (I : Q.m) : ∀ x c, X.env.cells.lookup x = some c -> c ≠ X.env.locals := fun x c e z => by
 obtain ⟨v, o, ho, hd⟩ := I.cell x c e
 obtain ⟨m, ⟨o', es, ep, J4, hd', _⟩, _⟩ := I.loc
 rw [z, J4] at ho; cases ho; rw [hd'] at hd; cases hd
theorem Inv.zo (I : Q.m) : s.heap.FunFrames X.base X.outer := by
 have all : ∀ (l : List Env), (∀ b ∈ vW l, b ∈ X.fs) -> X.s₀.heap.FunFrames X.base l -> s.heap.FunFrames X.base l := by
   intro l
   induction l with
   | nil => intro _ _; trivial
   | cons env r ih =>
     intro hs hl
     obtain ⟨hk, ⟨L, o, hf, hn, ho, hd⟩, hr⟩ := hl
     have hL : L ∈ X.fs := hs L (by unfold vW; rw [aum, hf]; exact ati)
     obtain ⟨sl, e⟩ := I.base.slot L o ho (I.ok.frf L hL) hL fun z => I.ok.Xl L z hL
     exact ⟨hk, ⟨L, _, hf, hn, e, hd⟩, ih (fun b hb => hs b (by unfold vW; rw [aum, hf]; exact atk _ hb)) hr⟩
 exact all X.outer (fun _ hb => hb) I.ok.zo
theorem Inv.stack (I : Q.m) : s.heap.FunFrames X.base X.stack := by
 rcases I.ok.stk with e | ⟨e, hf⟩
 . rw [e]; exact I.zo
 . rw [e]
   obtain ⟨m, hn, _⟩ := I.loc
   refine .cons (by rw [I.ok.kind]; decide) hf hn ?_ I.zo
   exact Heap.get?_none_of_le (ath I.ok.bsz I.ok.above)
theorem Inv.K9 (I : Q.m) : ∀ b ∈ vW X.stack, b ∈ X.env.locals :: X.fs := fun b hb => by
 rcases I.ok.stk with e | ⟨e, hf⟩
 . rw [e] at hb; exact atk _ hb
 . rw [e] at hb
   unfold vW at hb
   rw [aum, hf] at hb
   exact hb
theorem Inv.La (I : Q.m) : ∀ b ∈ vW X.stack, H b = none := fun b hb => by
 rcases atl.mp (I.K9 b hb) with e | hb
 . rw [e]; exact I.free
 . obtain ⟨_, o, ho, _⟩ := I.ok.zo.mem hb
   exact I.base.free b o ho (I.ok.frf b hb) fun z => I.ok.Xl b z hb
variable {t' : Nat}
theorem Inv.step {g' : Array GenState} {d' : Drawn} {ch : Q.p} (I : Q.m)
   (hch : Q.bh)
   (keep : ∀ b o, b ≠ X.env.locals -> b ∉ X.fs -> b ∉ ch -> s.heap.get? b = some o -> H b = none -> h'.get? b = some o)
   (slot : ∀ b o, b ≠ X.env.locals -> b ∈ X.fs -> b ∉ ch -> s.heap.get? b = some o -> H b = none -> ∃ sl, h'.get? b = some { o with slots := sl }) (free : ∀ b o, b ∉ ch -> s.heap.get? b = some o -> H b = none -> H' b = none)
   (there : ∀ b o, b ∉ ch -> s.heap.get? b = some o -> ∃ o', h'.get? b = some o')
   (F2 : ∀ b xs, H b = some (.tup xs) -> H' b = some (.tup xs)) (lB : ∀ b o u, H b = some (.iU o u) -> H' b = some (.iU o u)) (F3 : ∀ b ps, H b = some (.tbl ps) -> ∃ more, H' b = some (.tbl (ps ++ more)))
   (ns : ∀ m, s.heap.Ns X.env.locals m -> h'.Ns X.env.locals m) (gS : xN X.prog X.w H' h') (hg : AllBare g') :
   Inv X pins σ H' { s with heap := h', gens := g', drawn := d', toks := t' } := by
 have neL : ∀ b o, X.s₀.heap.get? b = some o -> b ≠ X.env.locals := fun b o e => at3 (atZ (atA e) I.ok.above)
 have neC : ∀ b o, X.s₀.heap.get? b = some o -> b ∉ X.ex -> b ∉ ch := fun b o e hx hb => by
   rcases (hch b hb).1 with z | z
   . exact hx z
   . exact absurd (atZ (atA e) z) (au9 _)
 have cellK : ∀ x c, X.env.cells.lookup x = some c -> ∀ v, s.heap.IsCell c v -> h'.IsCell c v := fun x c e v ⟨o, ho, hd⟩ => by
   have nch : c ∉ ch := fun z => (hch c z).2.2.1 x c e rfl
   by_cases hc : c ∈ X.fs
   . obtain ⟨sl, q⟩ := slot c o (I.cne x c e) hc nch ho (I.p8 x c e)
     exact ⟨_, q, hd⟩
   . exact ⟨o, keep c o (I.cne x c e) hc nch ho (I.p8 x c e), hd⟩
 refine ⟨I.ok, I.os, hg, ⟨fun b o e n hb hx => ?_, fun b o e n hb hx => ?_, fun b o e n hx => ?_, fun b o e hx => ?_, fun b xs e => F2 b xs (I.base.F2 b xs e), fun b o xs e => lB b o xs (I.base.lB b o xs e), fun b ps e => ?_⟩, ?_, fun x c e => ?_, ?_, fun x c e => ?_, fun p hp => ?_, gS, I.len⟩
 . exact keep b o (neL b o e) hb (neC b o e hx) (I.base.keep b o e n hb hx) (I.base.free b o e n hx)
 . obtain ⟨sl, e1⟩ := I.base.slot b o e n hb hx
   obtain ⟨sl', e2⟩ := slot b _ (neL b o e) hb (neC b o e hx) e1 (I.base.free b o e n hx)
   exact ⟨sl', e2⟩
 . obtain ⟨o', e1⟩ := I.base.there b o e hx
   exact free b o' (neC b o e hx) e1 (I.base.free b o e n hx)
 . obtain ⟨o', e1⟩ := I.base.there b o e hx
   exact there b o' (neC b o e hx) e1
 . obtain ⟨m1, e1⟩ := I.base.F3 b ps e
   obtain ⟨m2, e2⟩ := F3 b _ e1
   exact ⟨m1 ++ m2, by rw [e2, Array.append_assoc]⟩
 . obtain ⟨m, hn, hl⟩ := I.loc
   refine ⟨m, ns m hn, fun i x v e1 e2 e3 => ?_⟩
   obtain ⟨u, r, l⟩ := hl i x v e1 e2 e3
   refine ⟨u, r, ?_⟩
   rcases l with l | ⟨k, c, e, z⟩
   . exact .inl l
   . exact .inr ⟨k, c, e, cellK x c e _ z⟩
 . obtain ⟨v, z⟩ := I.cell x c e
   exact ⟨v, cellK x c e v z⟩
 . obtain ⟨m, ⟨o, _, _, ho, _⟩, _⟩ := I.loc
   exact free _ o (fun z => (hch _ z).2.1 rfl) ho I.free
 . obtain ⟨v, o, ho, hd⟩ := I.cell x c e
   exact free c o (fun z => (hch c z).2.2.1 x c e rfl) ho (I.p8 x c e)
 . obtain ⟨e, n, ne, nf, d⟩ := I.pin p hp
   have nch : p.1 ∉ ch := fun z => (hch p.1 z).2.2.2 p hp rfl
   exact ⟨keep p.1 p.2 ne nf nch e n, free p.1 p.2 nch e n, ne, nf, d⟩
theorem Inv.un (I : Q.m) (u : Un X.fs [] H H' s.heap h') (gS : xN X.prog X.w H' h') : Inv X pins σ H' { s with heap := h', toks := t' } := by
 obtain ⟨m, ⟨o, es, ep, ho, r⟩, _⟩ := id I.loc
 obtain ⟨sl, hL⟩ := u.any ho I.free Q.r
 exact I.step (g' := s.gens) (d' := s.drawn) (ch := []) (fun _ z => nomatch z) (fun b o _ hb _ e n => u.keep b o e n hb Q.r) (fun b o _ hb _ e n => u.slot b o e n hb Q.r) (fun b o _ e n => u.free b o e n Q.r) (fun b o _ e => u.there b o e Q.r) u.F2 u.lB u.F3 (fun m' hm => by
   obtain ⟨o', es', ep', J4, r'⟩ := hm
   rw [ho] at J4; cases J4
   exact ⟨_, es', ep', hL, r'⟩) gS I.bare
theorem Inv.call {g' : Array GenState} {d' : Drawn} {ch : Q.p} (I : Q.m) (u : Un (vW X.stack) ch H H' s.heap h') (gS : xN X.prog X.w H' h') (hg : AllBare g')
   (hch : Q.bh) :
   Inv X pins σ H' { s with heap := h', gens := g', drawn := d', toks := t' } := by
 obtain ⟨m, ⟨o, es, ep, ho, r⟩, _⟩ := id I.loc
 obtain ⟨sl, hL⟩ := u.any ho I.free fun z => (hch _ z).2.1 rfl
 exact I.step (ch := ch) hch (fun b o hL hb hc e n => u.keep b o e n (fun z => (atl.mp (I.K9 b z)).elim hL hb) hc) (fun b o _ _ hc e n => u.any e n hc) (fun b o hc e n => u.free b o e n hc) (fun b o hc e => u.there b o e hc) u.F2 u.lB u.F3 (fun m' hm => by
   obtain ⟨o', es', ep', J4, r'⟩ := hm
   rw [ho] at J4; cases J4
   exact ⟨_, es', ep', hL, r'⟩) gS hg
theorem Inv.turned {it : Addr} (I : Q.m) (k : ∀ b o, b ≠ it -> s.heap.get? b = some o -> h'.get? b = some o) (hn : H it = none) (hL : it ≠ X.env.locals)
   (h1 : it ∈ X.ex \/ X.s₀.heap.objs.size <= it) (h2 : ∀ x c, X.env.cells.lookup x = some c -> c ≠ it) (h3 : ∀ p ∈ X.pn ++ pins, p.1 ≠ it) : Inv X pins σ H { s with heap := h', toks := t' } := by
 have nit : ∀ b u, H b = some u -> b ≠ it := fun b u e z => by rw [z, hn] at e; cases e
 refine I.step (g' := s.gens) (d' := s.drawn) (ch := [it]) (fun b hb => ?_) (fun b o _ _ hc e _ => k b o Q.aq e) (fun b o _ _ hc e _ => ⟨o.slots, k b o Q.aq e⟩) (fun _ _ _ _ n => n)
   (fun b o hc e => ⟨o, k b o Q.aq e⟩) (fun _ _ e => e) (fun _ _ _ e => e) (fun b ps e => ⟨#[], by rw [e]; simp⟩) (fun m hm => ?_) (fun b u e => ?_) I.bare
 . have e : b = it := by simpa using hb
   subst e
   exact ⟨h1, hL, h2, h3⟩
 . obtain ⟨o, es, ep, ho, r⟩ := hm
   exact ⟨o, es, ep, k _ o (auG hL) ho, r⟩
 . refine (I.gS b u e).J3 (fun c v hc q => k c v ?_ q) (fun _ q => q) fun _ _ q => q
   rcases hc with z | z
   . rw [z]; exact nit b u e
   . exact nit c _ z
theorem Inv.tok (I : Q.m) (t : Nat) : Inv X pins σ H { s with toks := t } := I.un (h' := s.heap) (t' := t) Un.refl I.gS
theorem Inv.kept (I : Q.m) (k : ∀ b u, s.heap.get? b = some u -> h'.get? b = some u) : Inv X pins σ H { s with heap := h', toks := t' } := I.un (Un.kept k) (I.gS.kept k)
theorem Inv.laid (I : Q.m) (k : ∀ b u, s.heap.get? b = some u -> h'.get? b = some u) (hp : s.heap.objs.size <= a) (new : iV X.prog X.w (upd H a o) h' a o) :
   Inv X pins σ (upd H a o) { s with heap := h', toks := t' } := I.un (Un.laid k hp (I.gS.fresh hp)) (I.gS.laid k hp new)
theorem Inv.write (I : Q.m) (mu : Mut (H x)) (he : e = x \/ H e = some (.own x)) (k : ∀ b u, b ≠ e -> s.heap.get? b = some u -> h'.get? b = some u) (heo : ∃ u, h'.get? e = some u)
   (new : iV X.prog X.w (upd H x o) h' x o) : Inv X pins σ (upd H x o) { s with heap := h', toks := t' } := I.un (Un.write mu he k heo) (I.gS.write mu he k heo new)
theorem Inv.GD {Ko : Q.o} (I : Q.m) (h : ∀ p ∈ Ko, s.heap.get? p.1 = some p.2 /\ H p.1 = none /\ p.1 ≠ X.env.locals /\ p.1 ∉ X.fs /\ ∀ v, p.2.data ≠ .cell v) : Inv X Ko σ H s :=
 ⟨I.ok, I.os, I.bare, I.base, I.loc, I.cell, I.free, I.p8, fun p hp => (ate.mp hp).elim (fun z => I.pin p (as9 _ z)) (h p), I.gS, I.len⟩
variable {i : Nat}
theorem Hr {N : Q.h} (hN : N.Nodup) {j : Nat} {x : Str} (a : N[i]? = some x) (b : N[j]? = some x) : i = j := by
 obtain ⟨h1, e1⟩ := atM.mp a
 obtain ⟨h2, e2⟩ := atM.mp b
 exact (List.getElem_inj hN).mp (e1.trans e2.symm)
variable {M : Model} {A : Around} {E : Q.v} {v : V} {u : Value} {Q : Unit -> Shared -> Prop}
theorem Xm {x : Str} (I : Q.m) (hN : X.N.Nodup) (hi : X.N[i]? = some x) (hx : Loc X.env.scope x) (r : RelV v u)
   (h : ∀ s', Inv X pins (σ.set i (some v)) H s' -> (∃ a, Heap.SameBut a s.heap s'.heap /\ (a = X.env.locals \/ X.env.cells.lookup x = some a)) -> Q () s') (hf : Q.aL := by first | exact .inl rfl | exact .inr rfl | assumption) : wpAny M A (storeName X.env x u) Q E s := by
 obtain ⟨m, hn, hl⟩ := id I.loc
 have aag : (X.env.scope.kind == .class || (X.env.scope.kind == .module && X.env.locals != X.env.globals)) = false := by rw [I.ok.kind]; rfl
 have hiσ : i < σ.length := by rw [I.len]; exact (atM.mp hi).1
 have cne := I.cne
 have tracked : ∀ {a : Addr} {h' : Heap}, (∃ o, s.heap.get? a = some o /\ H a = none) -> Heap.SameBut a s.heap h' -> xN X.prog X.w H h' := fun {a h'} ha hs b ob e => by
   obtain ⟨_, _, agJ⟩ := ha
   refine (I.gS b ob e).J3 (fun c w' hc q => (hs.2 c ?_).trans q) (fun _ q => q) fun _ _ q => q
   rintro rfl
   rcases hc with rfl | hc
   . rw [agJ] at e; cases e
   . rw [agJ] at hc; cases hc
 rcases hx with hk | hk
 . refine wpAny_storeName_local hk hn (fun h' hn' hs => ?_) aag
   obtain ⟨oL, _, _, hoL, _⟩ := id hn
   refine h _ ⟨I.ok, I.os, I.bare, ⟨fun b o e n hb hx => ?_, fun b o e n hb hx => ?_, I.base.free, fun b o e hx => ?_, I.base.F2, I.base.lB, I.base.F3⟩, ⟨_, hn', fun j y v' e1 e2 e3 => ?_⟩, fun y c e => ?_, I.free, I.p8, fun p hp => ?_, tracked ⟨oL, hoL, I.free⟩ hs, by simpa using I.len⟩ ⟨_, hs, .inl rfl⟩
   . exact (hs.2 b (at3 (atZ (atA e) I.ok.above))).trans (I.base.keep b o e n hb hx)
   . obtain ⟨sl, e1⟩ := I.base.slot b o e n hb hx
     exact ⟨sl, (hs.2 b (at3 (atZ (atA e) I.ok.above))).trans e1⟩
   . obtain ⟨o', e1⟩ := I.base.there b o e hx
     exact ⟨o', (hs.2 b (at3 (atZ (atA e) I.ok.above))).trans e1⟩
   . by_cases hj : j = i
     . subst hj
       rw [hi] at e1; cases e1
       rw [auu hiσ] at e2
       cases e2
       exact ⟨u, r, .inl ⟨hk, by simp⟩⟩
     . rw [au6 (auG hj)] at e2
       obtain ⟨u', r', q⟩ := hl j y v' e1 e2 e3
       refine ⟨u', r', ?_⟩
       rcases q with ⟨k, e⟩ | ⟨k, c, e, z⟩
       . refine .inl ⟨k, ?_⟩
         have : y ≠ x := fun e => hj (Hr hN e1 (e ▸ hi))
         simp [this, e]
       . exact .inr ⟨k, c, e, z.sameBut hs (cne y c e)⟩
   . obtain ⟨w', z⟩ := I.cell y c e
     exact ⟨w', z.sameBut hs (cne y c e)⟩
   . obtain ⟨e, n, ne, nf, d⟩ := I.pin p hp
     exact ⟨(hs.2 p.1 ne).trans e, n, ne, nf, d⟩
 . have hfn : X.fn x = true := by
     rcases hf with z | z
     . exact z
     . rw [z] at hk; cases hk
   obtain ⟨c, hc⟩ := I.ok.has x (.inl hk)
   obtain ⟨w', z⟩ := I.cell x c hc
   refine wpAny_storeName_cell I.ok.kind hk hc z (fun h' hc' hs => ?_)
   obtain ⟨oc, hoc, an0⟩ := id z
   refine h { s with heap := h' } ⟨I.ok, I.os, I.bare, ⟨fun b o e n hb hx => ?_, fun b o e n hb hx => ?_, I.base.free, fun b o e hx => ?_, I.base.F2, I.base.lB, I.base.F3⟩, ⟨m, hn.sameBut hs (Ne.symm (cne x c hc)), fun j y v' e1 e2 e3 => ?_⟩, fun y c' e => ?_, I.free, I.p8, fun p hp => ?_, tracked ⟨oc, hoc, I.p8 x c hc⟩ hs, by simpa using I.len⟩ ⟨c, hs, .inr hc⟩
   . exact (hs.2 b (at3 (atZ (atA e) (I.ok.cab x c hfn hc)))).trans (I.base.keep b o e n hb hx)
   . obtain ⟨sl, e1⟩ := I.base.slot b o e n hb hx
     exact ⟨sl, (hs.2 b (at3 (atZ (atA e) (I.ok.cab x c hfn hc)))).trans e1⟩
   . obtain ⟨o', e1⟩ := I.base.there b o e hx
     exact ⟨o', (hs.2 b (at3 (atZ (atA e) (I.ok.cab x c hfn hc)))).trans e1⟩
   . by_cases hj : j = i
     . subst hj
       rw [hi] at e1; cases e1
       rw [auu hiσ] at e2
       cases e2
       exact ⟨u, r, .inr ⟨.inl hk, c, hc, hc'⟩⟩
     . rw [au6 (auG hj)] at e2
       obtain ⟨u', r', q⟩ := hl j y v' e1 e2 e3
       refine ⟨u', r', ?_⟩
       rcases q with q | ⟨k, c', e, z'⟩
       . exact .inl q
       . refine .inr ⟨k, c', e, z'.sameBut hs ?_⟩
         rintro rfl
         exact hj (Hr hN e1 (I.ok.inj _ _ _ e hc ▸ hi))
   . by_cases hcc : c' = c
     . subst hcc; exact ⟨_, hc'⟩
     . obtain ⟨w2, z2⟩ := I.cell y c' e
       exact ⟨w2, z2.sameBut hs hcc⟩
   . obtain ⟨e, n, ne, nf, d⟩ := I.pin p hp
     refine ⟨(hs.2 p.1 ?_).trans e, n, ne, nf, d⟩
     intro q
     rw [q, hoc] at e
     have q' : oc = p.2 := atX e
     exact d w' (by rw [← q']; exact an0)
theorem Hs {x : Str} (I : Q.m) (hN : X.N.Nodup) (hi : X.N[i]? = some x) (hx : Loc X.env.scope x) (r : RelV v u)
   (h : ∀ s', Inv X pins (σ.set i (some v)) H s' -> Q () s') (hf : Q.aL := by first | exact .inl rfl | exact .inr rfl | assumption) : wpAny M A (storeName X.env x u) Q E s :=
 Xm I hN hi hx r (fun s' I' _ => h s' I') hf
theorem Inv.akU {s' : Shared} {ch : Q.p} (I : Q.m) (ho : s'.os = s.os) (u : Un (vW X.stack) ch H H' s.heap s'.heap) (gS : xN X.prog X.w H' s'.heap) (hg : AllBare s'.gens)
   (hch : Q.bh) : Inv X pins σ H' s' := by
 obtain ⟨h', g', d', t', o'⟩ := s'
 have e : o' = s.os := ho
 subst e
 exact I.call (g' := g') (t' := t') (d' := d') u gS hg hch
abbrev XK := Value -> Option Addr -> Hp -> Prop
abbrev St := List (Option V)
abbrev VK := V -> Hp -> Prop
abbrev TE := St -> Hp -> VK -> Prop
abbrev TT := St -> Hp -> (Bool -> Hp -> Prop) -> Prop
abbrev TA := St -> Hp -> (List V -> Hp -> Prop) -> Prop
structure Ends where
 nx : St -> Hp -> Prop
 rt : VK
 bk : St -> Hp -> Prop := fun _ _ => False
 ct : St -> Hp -> Prop := fun _ _ => False
abbrev TS := Ends -> St -> Hp -> Prop
def EP (X : Cx) (pins : Q.o) (σ : St) (Q : VK) (u : Value) (s' : Shared) : Prop := ∃ v H', Inv X pins σ H' s' /\ RelV v u /\ Q v H'
def TP (X : Cx) (pins : Q.o) (σ : St) (Q : Bool -> Hp -> Prop) (b : Bool) (s' : Shared) : Prop := ∃ H', Inv X pins σ H' s' /\ Q b H'
def AP (X : Cx) (pins : Q.o) (σ : St) (Q : List V -> Hp -> Prop) (us : Q.q) (s' : Shared) : Prop := ∃ vs H', Inv X pins σ H' s' /\ Vals vs us /\ Q vs H'
def SP (X : Cx) (pins : Q.o) (D : Ends) (f : Flow) (s' : Shared) : Prop :=
 match f with
 | .next => ∃ σ' H', Inv X pins σ' H' s' /\ D.nx σ' H'
 | .brk => ∃ σ' H', Inv X pins σ' H' s' /\ D.bk σ' H'
 | .cont => ∃ σ' H', Inv X pins σ' H' s' /\ D.ct σ' H'
 | .ret u => ∃ v σ' H', Inv X pins σ' H' s' /\ RelV v u /\ D.rt v H'
def PE (X : Cx) (e : Expr) (t : TE) : Prop :=
 ∀ (pins : Q.o) (s : Shared) (σ : St) (H : Hp) (Q : VK), Inv X pins σ H s -> t σ H Q -> wpAny Q.k X.A (eval e X.env) (EP X pins σ Q) X.xe s
def PT (X : Cx) (e : Expr) (t : TT) : Prop :=
 ∀ (pins : Q.o) (s : Shared) (σ : St) (H : Hp) (Q : Bool -> Hp -> Prop), Inv X pins σ H s -> t σ H Q -> wpAny Q.k X.A (isTrue e X.env (eval e X.env)) (TP X pins σ Q) X.xe s
def PW (X : Cx) (e : Expr) (t : TT) : Prop :=
 ∀ (whole : Sem Value) (pins : Q.o) (s : Shared) (σ : St) (H : Hp) (Q : Bool -> Hp -> Prop), Inv X pins σ H s -> t σ H Q -> wpAny Q.k X.A (isTrue e X.env whole) (TP X pins σ Q) X.xe s
def PA (X : Cx) (es : List Expr) (t : TA) : Prop :=
 ∀ (pos : Pos) (pins : Q.o) (s : Shared) (σ : St) (H : Hp) (Q : List V -> Hp -> Prop), Inv X pins σ H s -> t σ H Q -> wpAny Q.k X.A (spliced (backTo pos (starEach es X.env))) (AP X pins σ Q) X.xe s
def PS (X : Cx) (st : Stmt) (t : TS) : Prop :=
 ∀ (pins : Q.o) (s : Shared) (σ : St) (H : Hp) (D : Ends), Inv X pins σ H s -> t D σ H -> wpAny Q.k X.A (exec st X.env) (SP X pins D) X.xe s
def Vx (X : Cx) (st : List Stmt) (t : TS) : Prop :=
 ∀ (pins : Q.o) (s : Shared) (σ : St) (H : Hp) (D : Ends), Inv X pins σ H s -> t D σ H -> wpAny Q.k X.A (execs st X.env) (SP X pins D) X.xe s
theorem gM {α : Type} {t : Sem α} {Q Q' : α -> Shared -> Prop} (h : wpAny M A t Q E s) (hQ : ∀ a s, Q a s -> Q' a s) : wpAny M A t Q' E s := auf h hQ fun _ _ x => x
section
def an1 (i : Nat) : TE := fun σ H Q => ∃ v, σ[i]? = some (some v) /\ Q v H
def tC (v : V) : TE := fun _ H Q => Q v H
theorem oE {x : Str} {pos : Pos} (hN : X.N[i]? = some x) (hv : Vis X.env.scope x) (hd : Q.s := by decide) (rJ : Q.ao := by decide) : PE X Q.C (an1 i) := by
 intro pins s σ H Q I h
 obtain ⟨v, e, h⟩ := h
 obtain ⟨m, hn, hl⟩ := I.loc
 obtain ⟨u, r, l⟩ := hl i x v hN e hv
 have fin : EP X pins σ Q u s := ⟨v, H, I, r, h⟩
 rcases l with ⟨hk, hm⟩ | ⟨hk, c, hc, Kp⟩
 . exact wpAny_Name (wpAny_loadName_local I.ok.kind hk hn hm fin) hd
 . rcases hk with hk | hk
   . exact wpAny_Name (wpAny_loadName_cell I.ok.kind hk hc Kp fin) hd
   . exact wpAny_Name (wpAny_loadName_free I.ok.kind hk hc Kp fin rJ) hd
theorem aah {i j pos} : PE X (.Constant (.int i) j pos) (tC (.int i)) := fun _ _ _ H _ I h => wpAny_Constant_int ⟨.int i, H, I.tok _, ⟨_, rfl⟩, h⟩
theorem akV {b j pos} : PE X (.Constant (.bool b) j pos) (tC (.bl b)) := fun _ _ _ H _ I h => Constant_bool ⟨.bl b, H, I, rfl, h⟩
theorem ahv {x j pos} : PE X (.Constant (.str x) j pos) (tC (.str x)) := fun _ _ _ H _ I h => Calls.Constant_str ⟨.str x, H, I.tok _, ⟨_, rfl⟩, h⟩
def Gl (X : Cx) (x : Str) : Prop := X.env.kindOf x = some .globalImplicit
theorem rK {σ : St} {x : Str} {pos : Pos} {Q : Q.v} (I : Q.m) (hg : Gl X x) (hm : X.mg x = some u) (h : Q u s)
   (hd : Q.s := by decide) : wpAny Q.k X.A (eval Q.C X.env) Q E s :=
 Calls.Name_function_global I.ok.kind hg (Calls.loadGlobal_global (by rw [I.ok.glob]; exact I.mod.glob.keeps I.bk) hm h) hd
theorem DM {σ : St} {x : Str} {pos : Pos} {Q : Q.v} (I : Q.m) (hg : Gl X x) (hm : X.mg x = none) (hv : bootBuiltins x = some u) (h : Q u s)
   (hn : x ≠ "__name__" := by decide) (hd : Q.s := by decide) : wpAny Q.k X.A (eval Q.C X.env) Q E s := by
 obtain ⟨mb, h1, h2⟩ := I.mod.blt
 exact Calls.Name_function_global I.ok.kind hg (Calls.loadGlobal_builtin (by rw [I.ok.glob]; exact I.mod.glob.keeps I.bk) hm (by rw [I.ok.blt]; exact h1.keeps I.bk) ((h2 x hn).trans hv) h) hd
theorem GF {x : Str} {pos : Pos} (hg : Gl X x) (hm : X.mg x = some u) (r : RelV v u) (hd : Q.s := by decide) : PE X Q.C (tC v) :=
 fun _ _ _ H _ I h => rK I hg hm ⟨v, H, I, r, h⟩ hd
theorem adA {x : Str} {pos : Pos} (hg : Gl X x) (hm : X.mg x = none) (hv : bootBuiltins x = some u) (r : RelV v u) (hn : x ≠ "__name__" := by decide) (hd : Q.s := by decide) : PE X Q.C (tC v) :=
 fun _ _ _ H _ I h => DM I hg hm hv ⟨v, H, I, r, h⟩ hn hd
variable {a b : Expr} {ta tb : TE} {pos : Pos}
def PC (X : Cx) (op : CmpOp) (a b : Expr) (t : TE) : Prop :=
 ∀ (pins : Q.o) (s : Shared) (σ : St) (H : Hp) (Q : VK), Inv X pins σ H s -> t σ H Q →
   wpAny Q.k X.A (eval a X.env) (fun v s₁ => wpAny Q.k X.A (eval b X.env) (fun u s₂ => wpAny Q.k X.A (compareOp op v u) (EP X pins σ Q) X.xe s₂) X.xe s₁) X.xe s
theorem OG (b : Expr) {op : CmpOp} (h : op ≠ .In) (h2 : op ≠ .NotIn) : behindInMarks op b = false := by
 have e1 : (op == CmpOp.In) = false := by cases op <;> first | rfl | exact absurd rfl h
 have e2 : (op == CmpOp.NotIn) = false := by cases op <;> first | rfl | exact absurd rfl h2
 cases b <;> simp [behindInMarks, e1, e2]
def an2 (ta : TE) : TE := fun σ H Q => ta σ H fun x H1 => Q (.bl (decide (x = .non))) H1
theorem RelV.aai {x : V} {v : Value} (r : RelV x v) : (v == Value.none) = decide (x = .non) := by
 cases x with
 | non => cases r; rfl
 | bl _ => cases r; rfl
 | int _ => obtain ⟨t, rfl⟩ := r; rfl
 | str _ => obtain ⟨t, rfl⟩ := r; rfl
 | Xj _ => obtain ⟨t, rfl⟩ := r; rfl
 | flt _ => obtain ⟨t, rfl⟩ := r; rfl
 | ref _ => cases r; rfl
 | ty _ => cases r; rfl
theorem Rq {j pos'} (ha : PE X a ta) : PC X .Is a (.Constant .none j pos') (an2 ta) := by
 intro pins s σ H Q I h
 refine gM Q.am fun v s1 zz => ?_
 obtain ⟨x, H1, I1, r1, q1⟩ := zz
 exact Constant_none (is_none_gen ⟨.bl _, H1, I1, by rw [r1.aai]; rfl, q1⟩)
def tB (t : TE) : TT := fun σ H Q => t σ H fun x H1 => ∃ c, x = .bl c /\ Q c H1
theorem Rr {op : CmpOp} {t : TE} (h : PC X op a b t) (h1 : behindInMarks op b = false := by first | exact OG _ Q.c Q.c | rfl) : PE X (.Compare a [op] [b] pos) t := fun pins s σ H Q I hw => wpAny_Compare1 (h pins s σ H Q I hw) h1
theorem ahw {op : CmpOp} {t : TE} (h : PC X op a b t) (h1 : behindInMarks op b = false := by first | exact OG _ Q.c Q.c | rfl) : PT X (.Compare a [op] [b] pos) (tB t) := by
 intro pins s σ H Q I hw
 refine wpAny_isTrue_Compare1 (gM (h pins s σ H _ I hw) fun v s1 h1 => gM h1 fun u s2 h2 => gM h2 fun c s3 zz => ?_) h1
 obtain ⟨x, H1, I1, r1, q1⟩ := zz
 obtain ⟨d, rfl, q⟩ := q1
 cases r1
 exact auq ⟨H1, I1, q⟩
theorem ahx {e : Expr} {t : TE} (h : PE X e t) (he : ∀ whole, isTrue e X.env whole = (do let v ← whole; standAt e.pos; holding [v] (truthy v)) := by intro _; rfl) : PT X e (tB t) := by
 intro pins s σ H Q I hw
 refine isTrue_plain (gM (h pins s σ H _ I hw) fun v s1 zz => ?_) (he _)
 obtain ⟨x, H1, I1, r1, q1⟩ := zz
 obtain ⟨d, rfl, q⟩ := q1
 cases r1
 exact auq ⟨H1, I1, q⟩
variable {tA tB' : TT} {rest : List Expr}
def an3 (t u : TT) : TT := fun σ H Q => t σ H fun c H1 => if c = true then u σ H1 Q else Q false H1
def tOr (t u : TT) : TT := fun σ H Q => t σ H fun c H1 => if c = true then Q true H1 else u σ H1 Q
def an4 (t : TT) : TT := fun σ H Q => t σ H fun c H1 => Q (!c) H1
theorem adB (ha : PT X a tA) : PW X (.BoolOp .And [a] pos) tA := by
 intro wh pins s σ H Q I h
 refine isTrue_and (gM (ha pins s σ H Q I h) fun c s1 e => ?_)
 cases c with
 | true => exact isTrue_and_nil e
 | false => exact e
theorem ahy (ha : PT X a tA) : PW X (.BoolOp .Or [a] pos) tA := by
 intro wh pins s σ H Q I h
 refine isTrue_or (gM (ha pins s σ H Q I h) fun c s1 e => ?_)
 cases c with
 | false => exact isTrue_or_nil e
 | true => exact e
theorem ahz (ha : PT X a tA) (hb : PW X (.BoolOp .And (b :: rest) pos) tB') : PW X (.BoolOp .And (a :: b :: rest) pos) (an3 tA tB') := by
 intro wh pins s σ H Q I h
 refine isTrue_and (gM Q.am fun c s1 zz => ?_)
 obtain ⟨H1, I1, q1⟩ := zz
 cases c with
 | true => exact hb wh pins s1 σ H1 Q I1 q1
 | false => exact ⟨H1, I1, q1⟩
theorem akW (ha : PT X a tA) (hb : PW X (.BoolOp .Or (b :: rest) pos) tB') : PW X (.BoolOp .Or (a :: b :: rest) pos) (tOr tA tB') := by
 intro wh pins s σ H Q I h
 refine isTrue_or (gM Q.am fun c s1 zz => ?_)
 obtain ⟨H1, I1, q1⟩ := zz
 cases c with
 | true => exact ⟨H1, I1, q1⟩
 | false => exact hb wh pins s1 σ H1 Q I1 q1
theorem ahA (ha : PT X a tA) : PT X (.UnaryOp .Not a pos) (an4 tA) := by
 intro pins s σ H Q I h
 exact isTrue_not (ha pins s σ H (fun c H1 => Q (!c) H1) I h)
def akX (ta tb : TE) : TE := fun σ H Q => ta σ H fun x H1 => ∃ c, x = .bl c /\ if c = true then tb σ H1 Q else Q (.bl false) H1
def an5 (ta tb : TE) : TE := fun σ H Q => ta σ H fun x H1 => ∃ c, x = .bl c /\ if c = true then Q (.bl true) H1 else tb σ H1 Q
theorem ahB {op} {t : TE} (h : PE X a t) : PE X (.BoolOp op [a] pos) t := fun pins s σ H Q I hw => BoolOp_one (h pins s σ H Q I hw)
theorem ahC (ha : PE X a ta) (hb : PE X (.BoolOp .And (b :: rest) pos) tb) : PE X (.BoolOp .And (a :: b :: rest) pos) (akX ta tb) := by
 intro pins s σ H Q I h
 refine BoolOp_and (gM Q.am fun v s1 zz => ?_)
 obtain ⟨x, H1, I1, r1, q1⟩ := zz
 obtain ⟨c, rfl, q1⟩ := q1
 cases r1
 refine auq ?_
 cases c with
 | true => exact hb pins s1 σ H1 Q I1 q1
 | false => exact ⟨.bl false, H1, I1, rfl, q1⟩
theorem akY (ha : PE X a ta) (hb : PE X (.BoolOp .Or (b :: rest) pos) tb) : PE X (.BoolOp .Or (a :: b :: rest) pos) (an5 ta tb) := by
 intro pins s σ H Q I h
 refine BoolOp_or (gM Q.am fun v s1 zz => ?_)
 obtain ⟨x, H1, I1, r1, q1⟩ := zz
 obtain ⟨c, rfl, q1⟩ := q1
 cases r1
 refine auq ?_
 cases c with
 | false => exact hb pins s1 σ H1 Q I1 q1
 | true => exact ⟨.bl true, H1, I1, rfl, q1⟩
end
def vN (K : Q.l) (H : Hp) (a : Addr) (xs : List V) : Prop :=
 Rd H a (.lst xs) ∨
   ∃ (o : Obj) (its : Array Value) (n : Nat), K.lookup a = some o /\ o.cls = .type "list" /\ o.dict = none /\ o.data = .seq its n /\ its.size <= sizeLine /\ Vals xs its.toList
def Fq (K : Q.l) (H : Hp) (a : Addr) (xs : List V) : Prop :=
 Rd H a (.tup xs) ∨
   ∃ (o : Obj) (its : Array Value) (n : Nat), K.lookup a = some o /\ o.cls = .type "tuple" /\ o.data = .seq its n /\ its.size <= sizeLine /\ Vals xs its.toList
def an6 : Value -> Option V
 | .none => some .non
 | .bool b => some (.bl b)
 | .int i _ => some (.int i)
 | .str x _ => some (.str x)
 | .bytes b _ => some (.Xj b)
 | .float b _ => some (.flt b)
 | .ref a => some (.ref a)
 | .type n => some (.ty n)
 | _ => none
theorem RelV.abs {x : V} (r : RelV x u) : an6 u = some x := by
 cases x with
 | non => cases r; rfl
 | bl _ => cases r; rfl
 | int _ => obtain ⟨t, rfl⟩ := r; rfl
 | str _ => obtain ⟨t, rfl⟩ := r; rfl
 | Xj _ => obtain ⟨t, rfl⟩ := r; rfl
 | flt _ => obtain ⟨t, rfl⟩ := r; rfl
 | ref _ => cases r; rfl
 | ty _ => cases r; rfl
theorem RelV.inj {x y : V} (r : RelV x u) (q : RelV y u) : x = y := atX (r.abs.symm.trans q.abs)
theorem Vals.inj {xs ys : List V} (h : Vals xs us) (q : Vals ys us) : xs = ys := by
 induction h generalizing ys with
 | nil => cases q; rfl
 | cons r _ i => cases q with
   | cons r' t' => rw [r.inj r', i t']
variable {σ : St} {xs ys : List V} {K : Q.l}
theorem vN.of (h : H a = some (.lst xs)) : vN K H a xs := .inl (.inl h)
theorem Fq.of (h : H a = some (.tup xs)) : Fq K H a xs := .inl (.inl h)
theorem Inv.list (I : Q.m) (h : vN X.K H a xs) : ∃ its : List Value, Vals xs its /\ PlainL s.heap a its.toArray /\ xs.length <= sizeLine := by
 rcases h with h | ⟨o, its, n, hk, hc, hd, hs, hz, r⟩
 . obtain ⟨z, its, n, r, e⟩ := h.ok I.gS
   exact ⟨its, r, ⟨_, n, e, rfl, rfl, rfl⟩, z⟩
 . refine ⟨its.toList, r, ⟨o, n, I.J1 a o hk, hc, hd, by simpa using hs⟩, ?_⟩
   have e := r.length
   simp only [Array.length_toList] at e
   omega
theorem Inv.tuple (I : Q.m) (h : Fq X.K H a xs) : ∃ its : List Value, Vals xs its /\ IsTup s.heap a its.toArray /\ xs.length <= sizeLine := by
 rcases h with h | ⟨o, its, n, hk, hc, hs, hz, r⟩
 . obtain ⟨z, its, r, p⟩ := h.ok I.gS
   exact ⟨its, r, p, z⟩
 . refine ⟨its.toList, r, ⟨o, I.J1 a o hk, hc, n, by simpa using hs⟩, ?_⟩
   have e := r.length
   simp only [Array.length_toList] at e
   omega
theorem Inv.OI (I : Q.m) (h : vN X.K H a xs) (h' : vN X.K H a ys) : xs = ys := by
 obtain ⟨its, r, ⟨o, n, e, _, _, d⟩, _⟩ := I.list h
 obtain ⟨its', r', ⟨o', n', e', _, _, d'⟩, _⟩ := I.list h'
 rw [e] at e'; cases e'
 rw [d] at d'
 injection d' with d1 _
 have : its = its' := by simpa using congrArg Array.toList d1
 subst this
 exact r.inj r'
theorem Inv.Xn (I : Q.m) (h : Fq X.K H a xs) (h' : Fq X.K H a ys) : xs = ys := by
 obtain ⟨its, r, ⟨o, e, _, n, d⟩, _⟩ := I.tuple h
 obtain ⟨its', r', ⟨o', e', _, n', d'⟩, _⟩ := I.tuple h'
 rw [e] at e'; cases e'
 rw [d] at d'
 injection d' with d1 _
 have : its = its' := by simpa using congrArg Array.toList d1
 subst this
 exact r.inj r'
abbrev Cx.wish (X : Cx) (E : Q.v) : Cx := { X with xe := E }
abbrev Cx.nox (X : Cx) : Cx := X.wish fun _ _ => False
theorem Cx.Ok.wish (ok : X.Ok) (E : Q.v) : (X.wish E).Ok :=
 ⟨ok.mod, ok.kind, ok.glob, ok.blt, ok.above, ok.inj, ok.has, ok.cab, ok.hd, ok.frames, ok.stk, ok.exf, ok.bs, ok.bsz, ok.Rp, ok.Xl, ok.zo, ok.frf⟩
theorem Cx.Ok.pS (ok : (X.wish E).Ok) : X.Ok :=
 ⟨ok.mod, ok.kind, ok.glob, ok.blt, ok.above, ok.inj, ok.has, ok.cab, ok.hd, ok.frames, ok.stk, ok.exf, ok.bs, ok.bsz, ok.Rp, ok.Xl, ok.zo, ok.frf⟩
theorem Inv.wish (I : Q.m) (E : Q.v) : Inv (X.wish E) pins σ H s := ⟨I.ok.wish E, I.os, I.bare, I.base, I.loc, I.cell, I.free, I.p8, I.pin, I.gS, I.len⟩
theorem Inv.pS (I : Inv (X.wish E) pins σ H s) : Inv X pins σ H s := ⟨I.ok.pS, I.os, I.bare, I.base, I.loc, I.cell, I.free, I.p8, I.pin, I.gS, I.len⟩
theorem SP.pS {D : Ends} {f : Flow} {s' : Shared} (h : SP (X.wish E) pins D f s') : SP X pins D f s' := by
 cases f with
 | next => obtain ⟨σ', H', I, q⟩ := h; exact ⟨σ', H', I.pS, q⟩
 | brk => obtain ⟨σ', H', I, q⟩ := h; exact ⟨σ', H', I.pS, q⟩
 | cont => obtain ⟨σ', H', I, q⟩ := h; exact ⟨σ', H', I.pS, q⟩
 | ret u => obtain ⟨v, σ', H', I, r, q⟩ := h; exact ⟨v, σ', H', I.pS, r, q⟩
theorem Vx.nox {st : List Stmt} {t : TS} (h : Vx X.nox st t) : Vx X st t := fun pins s σ H D I hw =>
 auf (h pins s σ H D (I.wish _) hw) (fun _ _ q => q.pS) fun _ _ z => False.elim z
section
variable {st : Stmt} {rest : List Stmt} {t u : TS} {e : Expr} {te : TE} {pos : Pos}
def akZ : TS := fun D σ H => D.nx σ H
def an7 (t u : TS) : TS := fun D σ H => t { D with nx := u D } σ H
theorem adD : Vx X [] akZ := fun _ _ σ H _ I h => wpAny_execs_nil ⟨σ, H, I, h⟩
theorem Bj (h1 : PS X st t) (h2 : Vx X rest u) : Vx X (st :: rest) (an7 t u) := by
 intro pins s σ H D I h
 refine wpAny_execs_cons (gM (h1 pins s σ H { D with nx := u D } I h) fun f s1 q => ?_)
 cases f with
 | next =>
   obtain ⟨σ', H', I', q⟩ := q
   exact h2 pins s1 σ' H' D I' q
 | ret v => exact q
 | brk => exact q
 | cont => exact q
theorem Inv.quiet (I : Q.m) : interactive X.env = false := by simp [interactive, I.ok.kind]
def ak0 (te : TE) : TS := fun D σ H => te σ H fun _ H1 => D.nx σ H1
theorem Bk (he : PE X e te) (hs : swapsWith e none pos.line X.env = pure false := by rfl) : PS X (.Expr e pos) (ak0 te) := by
 intro pins s σ H D I h
 exact wpAny_Expr_any (gM (he pins s σ H _ I h) fun v s1 ⟨x, H1, I1, r1, q1⟩ => ⟨σ, H1, I1, q1⟩) I.quiet hs
def an8 (te : TE) : TS := fun D σ H => te σ H D.rt
theorem ahD (he : PE X e te) : PS X (.Return (some e) pos) (an8 te) := by
 intro pins s σ H D I h
 exact wpAny_Return_some (gM (he pins s σ H _ I h) fun v s1 ⟨x, H1, I1, r1, q1⟩ => ⟨x, σ, H1, I1, r1, q1⟩)
def an9 (c : TT) (t u : TS) : TS := fun D σ H => c σ H fun b H1 => if b = true then t D σ H1 else u D σ H1
theorem ak1 {c : Expr} {a b : List Stmt} {tc : TT} (hc : PT X c tc) (ha : Vx X a t) (hb : Vx X b u) : PS X (.If c a b pos) (an9 tc t u) := by
 intro pins s σ H D I h
 refine wpAny_If (gM (hc pins s σ H _ I h) fun d s1 zz => ?_)
 obtain ⟨H1, I1, q1⟩ := zz
 cases d with
 | true => exact ha pins s1 σ H1 D I1 q1
 | false => exact hb pins s1 σ H1 D I1 q1
end
abbrev TG := V -> St -> Hp -> (St -> Hp -> Prop) -> Prop
abbrev TGs := List V -> St -> Hp -> (St -> Hp -> Prop) -> Prop
def PG (X : Cx) (target : Expr) (t : TG) : Prop :=
 ∀ (pins : Q.o) (s : Shared) (σ : St) (H : Hp) (v : V) (u : Value) (Q : St -> Hp -> Prop), Inv X pins σ H s -> RelV v u -> t v σ H Q →
   wpAny Q.k X.A (assign target X.env u) (fun _ s' => ∃ σ' H', Inv X pins σ' H' s' /\ Q σ' H') X.xe s
def PGs (X : Cx) (ts : List Expr) (t : TGs) : Prop :=
 ∀ (pins : Q.o) (s : Shared) (σ : St) (H : Hp) (vs : List V) (us : Q.q) (Q : St -> Hp -> Prop), Inv X pins σ H s -> Vals vs us -> t vs σ H Q →
   wpAny Q.k X.A (assignInOrder ((assignEach ts X.env).map (·.2)) us) (fun _ s' => ∃ σ' H', Inv X pins σ' H' s' /\ Q σ' H') X.xe s
abbrev ahF := V -> V -> V -> Hp -> (Hp -> Prop) -> Prop
def ak2 (X : Cx) (t : ahF) : Prop :=
 ∀ (pins : Q.o) (s : Shared) (σ : St) (H : Hp) (o i v : V) (ov iv u : Value) (Q : Hp -> Prop), Inv X pins σ H s -> RelV o ov -> RelV i iv -> RelV v u -> t o i v H Q →
   wpAny Q.k X.A (setItem ov iv u) (fun _ s' => ∃ H', Inv X pins σ H' s' /\ Q H') X.xe s
variable {pos : Pos}
def Ft (i : Nat) : TG := fun v σ H Q => Q (σ.set i (some v)) H
theorem Bl {x : Str} (hN : X.N.Nodup) (hi : X.N[i]? = some x) (hx : Loc X.env.scope x) (hf : Q.aL := by first | exact .inl rfl | exact .inr rfl | assumption) : PG X Q.C (Ft i) := by
 intro pins s σ H v u Q I r h
 exact wpAny_assign_Name (Hs I hN hi hx r (fun s' I' => ⟨_, H, I', h⟩) hf)
def ahG : TGs := fun vs σ H Q => vs = [] /\ Q σ H
def OJ (t : TG) (u : TGs) : TGs := fun vs σ H Q => ∃ v r, vs = v :: r /\ t v σ H fun σ' H' => u r σ' H' Q
theorem adE : PGs X [] ahG := by
 intro pins s σ H vs us Q I r h
 obtain ⟨e, h⟩ := h
 subst e
 cases r
 exact assignInOrder_nil ⟨σ, H, I, h⟩
variable {es : List Expr}
theorem OL {e : Expr} {t : TG} {u : TGs} (h1 : PG X e t) (h2 : PGs X es u)
   (hs : (assignEach (e :: es) X.env).map (·.2) = assign e X.env :: (assignEach es X.env).map (·.2) := by rfl) : PGs X (e :: es) (OJ t u) := by
 intro pins s σ H vs us Q I r h
 obtain ⟨v, vr, e1, h⟩ := h
 subst e1
 cases r with
 | cons r rr =>
   rw [hs]
   refine assignInOrder_cons (gM (h1 pins s σ H _ _ _ I r h) fun _ s1 zz => ?_)
   obtain ⟨σ1, H1, I1, q1⟩ := zz
   exact h2 pins s1 σ1 H1 _ _ Q I1 rr q1
def ahH (K : Q.l) (n : Nat) (t : TGs) : TG := fun v σ H Q => ∃ a xs, v = .ref a /\ Fq K H a xs /\ xs.length = n /\ t xs σ H Q
variable {k : Nat}
theorem ahI {t : TGs} {n : Nat} (hc : X.calm = true) (h : PGs X es t)
   (hn : (assignEach es X.env).length = n := by rfl) (vX : (assignEach es X.env).findIdx? (·.1) = none := by rfl) : PG X (.Tuple es k pos) (ahH X.K n t) := by
 intro pins s σ H v u Q I r hw
 obtain ⟨a, xs, e1, hq, hl, hw⟩ := hw
 subst e1
 cases r
 obtain ⟨its, rv, ht, hz⟩ := I.tuple hq
 refine assign_Tuple_tuple (I.ok.hd hc) ht (by simp [hn, ← hl, rv.length]) vX fun h' hx => ?_
 have I1 : Inv X pins σ H { s with heap := h' } := I.kept (t' := s.toks) fun b o e => hx b o (at3 (atA e)) e
 exact h pins _ σ H xs _ Q I1 (by simpa using rv) hw
def aoa (to ti : TE) (t : ahF) : TG := fun v σ H Q => to σ H fun o H1 => ti σ H1 fun i H2 => t o i v H2 fun H3 => Q σ H3
theorem aaj {o i : Expr} {to ti : TE} {t : ahF} (ho : PE X o to) (hi : PE X i ti) (hs : ak2 X t)
   (ha : ∀ v, assign (.Subscript o i pos) X.env v = (do
     let ov ← holding [v] (eval o X.env)
     let iv ← holding [v, ov] (eval i X.env)
     standAt pos
     holding [v, ov, iv] (setItem ov iv v)
     release [v, ov, iv] []) := by intro _; rfl) : PG X (.Subscript o i pos) (aoa to ti t) := by
 intro pins s σ H v u Q I r h
 rw [ha]
 refine aty (auL (gM (ho pins s σ H _ I h) fun ov s1 zz => ?_))
 obtain ⟨x, H1, I1, r1, q1⟩ := zz
 refine aty (auL (gM (hi pins s1 σ H1 _ I1 q1) fun iv s2 zz => ?_))
 obtain ⟨y, H2, I2, r2, q2⟩ := zz
 refine aty (wpAny_standAt (aty (auL (gM (hs pins s2 σ H2 x y v ov iv u _ I2 r1 r2 r q2) fun _ s3 zz => ?_))))
 obtain ⟨H3, I3, q3⟩ := zz
 exact wpAny_release ⟨σ, H3, I3, q3⟩
def ak3 (te : TE) (g : TG) : TS := fun D σ H => te σ H fun x H1 => g x σ H1 D.nx
variable {tg : Expr} {te : TE}
theorem aak {e : Expr} {g : TG} (he : PE X e te) (hg : PG X tg g) (hs : swapsWithSole [tg] e pos.line X.env = pure false := by rfl) (hw : swappedStores [tg] e X.env = pure none := by rfl)
   (h1 : (assignEach [tg] X.env).map (·.2) = [assign tg X.env] := by rfl) : PS X (.Assign [tg] e pos) (ak3 te g) := by
 intro pins s σ H D I h
 refine wpAny_Assign_stores (gM (he pins s σ H _ I h) fun v s1 zz => ?_) hs hw
 obtain ⟨x, H1, I1, r1, q1⟩ := zz
 rw [h1]
 exact gM (hg pins s1 σ H1 x v _ I1 r1 q1) fun _ s2 q => q
theorem Rt {x : Str} {e : Expr} {pos' : Pos} (hN : X.N.Nodup) (hi : X.N[i]? = some x) (hx : Loc X.env.scope x) (he : PE X e te) (hs : Q.aK := by rfl) (hf : Q.aL := by first | exact .inl rfl | exact .inr rfl | assumption) :
   PS X (.Assign [.Name x pos'] e pos) (ak3 te (Ft i)) := by
 intro pins s σ H D I h
 refine wpAny_Assign_Name (gM (he pins s σ H _ I h) fun v s1 zz => ?_) hs
 obtain ⟨y, H1, I1, r1, q1⟩ := zz
 exact Hs I1 hN hi hx r1 (fun s2 I2 => ⟨_, H1, I2, q1⟩) hf
def ahJ (c : TT) (tb : TS) : TS := fun D σ H => ∃ W : Nat -> St -> Hp -> Prop, (∃ m, W m σ H) /\ ∀ m σ H, W m σ H →
 c σ H fun b H1 => if b = true then ∃ N : St -> Hp -> Prop, (∀ σ' H', N σ' H' -> ∃ m', m' < m /\ W m' σ' H') /\ tb { D with nx := N, ct := N, bk := D.nx } σ H1 else D.nx σ H1
theorem aal {c : Expr} {body : List Stmt} {tc : TT} {tb : TS} (hp : PassesOwn Q.k X.A X.env X.xe) (hc : PT X c tc) (hb : Vx X body tb) : PS X (.While c body [] pos) (ahJ tc tb) := by
 intro pins s σ H D I h
 obtain ⟨W, ⟨m0, w0⟩, turn⟩ := h
 refine wpAny_While (codeAny_whileLoop (fun n s' => ∃ σ' H', Inv X pins σ' H' s' /\ W n σ' H') ?_ m0 ⟨σ, H, I, w0⟩)
 rintro n s1 ⟨σ1, H1, I1, w1⟩
 refine auH hp (gM (hc pins s1 σ1 H1 _ I1 (turn n σ1 H1 w1)) fun b s2 zz => ?_)
 obtain ⟨H2, I2, q2⟩ := zz
 cases b with
 | true =>
   obtain ⟨N, hN, q2⟩ := q2
   rw [atb rfl]
   refine auH hp (gM (hb pins s2 σ1 H2 _ I2 q2) fun f s3 q3 => ?_)
   cases f with
   | next =>
     obtain ⟨σ3, H3, I3, n3⟩ := q3
     obtain ⟨m', hm, w3⟩ := hN σ3 H3 n3
     exact ⟨m', hm, σ3, H3, I3, w3⟩
   | cont =>
     obtain ⟨σ3, H3, I3, n3⟩ := q3
     obtain ⟨m', hm, w3⟩ := hN σ3 H3 n3
     exact ⟨m', hm, σ3, H3, I3, w3⟩
   | brk => exact q3
   | ret v => exact q3
 | false =>
   rw [as5 atv]
   exact wpAny_execs_nil ⟨σ1, H2, I2, q2⟩
structure It where
 go : Nat -> Hp -> Prop
 yld : Nat -> Hp -> V -> Hp -> Prop
 stop : Nat -> Hp -> Prop
def F4 (X : Cx) (pins : Q.o) (H : Hp) (b : Addr) : Prop :=
 H b = none /\ b ≠ X.env.locals /\ b ∉ X.fs /\ (b ∈ X.ex \/ X.s₀.heap.objs.size <= b) /\ (∀ x c, X.env.cells.lookup x = some c -> c ≠ b) /\ ∀ p ∈ X.pn ++ pins, p.1 ≠ b
theorem Inv.Lb (I : Q.m) (hb : s.heap.objs.size <= b) (hn : H' b = none) : F4 X pins H' b := by
 refine ⟨hn, Nat.ne_of_gt (atZ I.lt hb), I.anT hb, .inr (ath I.sz hb), fun x c e z => ?_, fun p hp z => ?_⟩
 . obtain ⟨v, q⟩ := I.cell x c e
   exact absurd (atZ q.lt (by rw [z]; exact hb)) (au9 _)
 . exact absurd (atZ (atA (I.pin p hp).1) (by rw [z]; exact hb)) (au9 _)
structure Turn (P : Program) (w : World) (K : Q.l) (tg : Expr) (J : It) (fp : Q.p) (it : Addr) (tn : Nat -> Heap -> Prop) : Prop where
 mem : it ∈ fp
 obj : ∀ i h, tn i h -> ∀ b ∈ fp, ∃ o, h.get? b = some o /\ ∀ v, o.data ≠ .cell v
 keep : ∀ i h h', tn i h -> (∀ b ∈ fp, ∀ o, h.get? b = some o -> h'.get? b = some o) -> tn i h'
 item : ∀ (X : Cx), X.prog = P -> X.w = w -> X.K = K -> X.calm = true -> ∀ (i : Nat) (pins : Q.o) (s : Shared) (σ : St) (H : Hp) (E : Q.v), Inv X pins σ H s -> (∀ b ∈ fp, F4 X pins H b) -> tn i s.heap -> J.go i H →
   wpAny (model P w) X.A (pyNext (.ref it)) (fun r s1 => ∃ u, r = some u ∧
     wpAny (model P w) X.A (letOwnedTupleGo tg (.ref it) u) (fun _ s2 => ∃ x H', Inv X pins σ H' s2 /\ RelV x u /\ J.yld i H x H' /\ tn (i + 1) s2.heap /\ ∀ b ∈ fp, H' b = none) E s1) E s
 done : ∀ (X : Cx), X.prog = P -> X.w = w -> X.K = K -> X.calm = true -> ∀ (i : Nat) (pins : Q.o) (s : Shared) (σ : St) (H : Hp) (E : Q.v), Inv X pins σ H s -> (∀ b ∈ fp, F4 X pins H b) -> tn i s.heap -> J.stop i H →
   wpAny (model P w) X.A (pyNext (.ref it)) (fun r s1 => r = none /\ Inv X pins σ H s1) E s
 self : ∀ (A : Around) (i : Nat) (s : Shared) (Q : Q.v) (E : Q.v), tn i s.heap -> Q (.ref it) s -> wpAny (model P w) A (pyIter (.ref it)) Q E s
abbrev TI := St -> Hp -> (It -> Hp -> Prop) -> Prop
def PIE (X : Cx) (pins : Q.o) (σ : St) (tg : Expr) (R : It -> Hp -> Prop) (itv : Value) (s2 : Shared) : Prop :=
 ∃ (it : Addr) (fp : Q.p) (tn : Nat -> Heap -> Prop) (J : It) (H' : Hp), itv = .ref it /\ Inv X pins σ H' s2 /\ Turn X.prog X.w X.K tg J fp it tn /\ tn 0 s2.heap /\ (∀ b ∈ fp, F4 X pins H' b) /\ R J H'
def PI (X : Cx) (tg iter : Expr) (wi : TI) : Prop :=
 ∀ (pins : Q.o) (s : Shared) (σ : St) (H : Hp) (R : It -> Hp -> Prop), Inv X pins σ H s -> wi σ H R →
   wpAny Q.k X.A (eval iter X.env) (fun v s1 => wpAny Q.k X.A (pyIter v) (PIE X pins σ tg R) X.xe s1) X.xe s
theorem OO {it : Addr} {o : Obj} {n : String} {vs : Array Value} (ho : s.heap.get? it = some o) (hc : o.cls = .type n) (hd : o.data = .fields vs)
   (hn : ["enumerate", "zip", "dict_itemiterator", "dict_reverseitemiterator", "odict_iterator", "itertools.zip_longest", "itertools.pairwise"].contains n = false) (hQ : Q () s) : wpAny M A (letOwnedTupleGo tg (.ref it) u) Q E s := by
 unfold letOwnedTupleGo
 cases tg <;> first
   | exact at5 hQ
   | (cases u <;> first
       | exact at5 hQ
       | (refine aty (wpAny_load ho ?_)
          rw [hc, hd]
          show wpAny M A (if (["enumerate", "zip", "dict_itemiterator", "dict_reverseitemiterator", "odict_iterator", "itertools.zip_longest", "itertools.pairwise"].contains n && vs[0]? == some (rawInt _)) = true then _ else _) Q E s
          rw [as5 (by intro h; rw [hn, aua] at h; cases h)]
          exact at5 hQ))
def Itl (K : Q.l) (a : Addr) : It :=
 ⟨fun i H => ∃ xs x, vN K H a xs /\ xs[i]? = some x, fun i H x H' => H' = H /\ ∀ xs, vN K H a xs -> xs[i]? = some x, fun i H => ∃ xs, vN K H a xs /\ xs.length <= i⟩
def Itt (K : Q.l) (a : Addr) : It :=
 ⟨fun i H => ∃ xs x, Fq K H a xs /\ xs[i]? = some x, fun i H x H' => H' = H /\ ∀ xs, Fq K H a xs -> xs[i]? = some x, fun i H => ∃ xs, Fq K H a xs /\ xs.length <= i⟩
def Itr (lo : Int) (n : Nat) : It := ⟨fun i _ => i < n, fun i H x H' => H' = H /\ x = .int (lo + i), fun i _ => n <= i⟩
theorem Xo (a it : Addr) : Turn P w K tg (Itl K a) [it] it (fun i h => h.IsListIter it a i) where
 mem := by simp
 obj := fun i h st b hb => by
   have e : b = it := by simpa using hb
   subst e
   obtain ⟨o, e, c, d⟩ := st
   exact ⟨o, e, fun v z => by rw [d] at z; cases z⟩
 keep := fun i h h' st k => st.at fun o e => k it Q.r o e
 item := by
   intro X hP hw hK hc i pins s σ H E I hf st hg
   subst hP hw hK
   obtain ⟨xs, x, hq, hx⟩ := hg
   obtain ⟨its, rv, p, hz⟩ := I.list hq
   obtain ⟨u, hu, ru⟩ := rv.get hx
   obtain ⟨f0, f1, f2, f3, f4, f5⟩ := hf it Q.r
   refine wpAny_pyNext_list_item st p.isList (x := u) (by simpa using hu) fun h' Vy sb => ?_
   have I1 : Inv X pins σ H { s with heap := h' } := I.turned (t' := s.toks) (fun b o hb e => (sb.2 b hb).trans e) f0 f1 f3 f4 f5
   obtain ⟨o, e, c, d⟩ := id Vy
   exact ⟨u, rfl, OO (s := { s with heap := h' }) e c d Q.c ⟨x, H, I1, ru, ⟨rfl, fun ys hy => by rw [I.OI hy hq]; exact hx⟩, Vy, fun b hb => (hf b hb).1⟩⟩
 done := by
   intro X hP hw hK hc i pins s σ H E I hf st hg
   subst hP hw hK
   obtain ⟨xs, hq, hx⟩ := hg
   obtain ⟨its, rv, p, hz⟩ := I.list hq
   obtain ⟨f0, f1, f2, f3, f4, f5⟩ := hf it Q.r
   have hl := rv.length
   exact wpAny_pyNext_list_end (I.ok.hd hc) st p.isList Q.Z fun h' eb => ⟨rfl, I.turned (t' := s.toks) (fun b o hb e => eb b o hb e) f0 f1 f3 f4 f5⟩
 self := fun _ _ _ _ _ st h => wpAny_pyIter_listiter st h
theorem Ru (a it : Addr) : Turn P w K tg (Itt K a) [it] it (fun i h => h.IsTupleIter it a i) where
 mem := by simp
 obj := fun i h st b hb => by
   have e : b = it := by simpa using hb
   subst e
   obtain ⟨o, e, c, d⟩ := st
   exact ⟨o, e, fun v z => by rw [d] at z; cases z⟩
 keep := fun i h h' st k => st.at fun o e => k it Q.r o e
 item := by
   intro X hP hw hK hc i pins s σ H E I hf st hg
   subst hP hw hK
   obtain ⟨xs, x, hq, hx⟩ := hg
   obtain ⟨its, rv, p, hz⟩ := I.tuple hq
   obtain ⟨u, hu, ru⟩ := rv.get hx
   obtain ⟨f0, f1, f2, f3, f4, f5⟩ := hf it Q.r
   refine wpAny_pyNext_tuple_item st (show s.heap.IsTuple a its.toArray from p) (x := u) (by simpa using hu) fun h' Vy sb => ?_
   have I1 : Inv X pins σ H { s with heap := h' } := I.turned (t' := s.toks) (fun b o hb e => (sb.2 b hb).trans e) f0 f1 f3 f4 f5
   obtain ⟨o, e, c, d⟩ := id Vy
   exact ⟨u, rfl, OO (s := { s with heap := h' }) e c d Q.c ⟨x, H, I1, ru, ⟨rfl, fun ys hy => by rw [I.Xn hy hq]; exact hx⟩, Vy, fun b hb => (hf b hb).1⟩⟩
 done := by
   intro X hP hw hK hc i pins s σ H E I hf st hg
   subst hP hw hK
   obtain ⟨xs, hq, hx⟩ := hg
   obtain ⟨its, rv, p, hz⟩ := I.tuple hq
   obtain ⟨f0, f1, f2, f3, f4, f5⟩ := hf it Q.r
   have hl := rv.length
   exact wpAny_pyNext_tuple_end (I.ok.hd hc) st (show s.heap.IsTuple a its.toArray from p) Q.Z fun h' eb => ⟨rfl, I.turned (t' := s.toks) (fun b o hb e => eb b o hb e) f0 f1 f3 f4 f5⟩
 self := fun _ _ _ _ _ st h => wpAny_pyIter_tupleiter st h
theorem Rw (it : Addr) (lo : Int) (n : Nat) : Turn P w K tg (Itr lo n) [it] it (fun i h => IsRangeIter h it (lo + (i : Nat) * 1) ((n : Int) - (i : Nat)) 1) where
 mem := by simp
 obj := fun i h st b hb => by
   have e : b = it := by simpa using hb
   subst e
   exact ⟨_, st, fun v z => by
     have z' : Data.fields _ = Data.cell v := z
     cases z'⟩
 keep := fun i h h' st k => k it Q.r _ st
 item := by
   intro X hP hw hK hc i pins s σ H E I hf st hg
   subst hP hw hK
   obtain ⟨f0, f1, f2, f3, f4, f5⟩ := hf it Q.r
   have W := Walks.range (prog := X.prog) (w := X.w) (I.ok.hd hc) it lo 1 n
   refine W.item i s _ _ hg st fun v h' tk hv Vy kk => ?_
   obtain ⟨t, rfl⟩ := hv
   have I1 : Inv X pins σ H { s with heap := h', toks := tk } := I.turned (fun b o hb e => kk b o (by simpa using hb) e) f0 f1 f3 f4 f5
   refine ⟨_, rfl, OO (s := { s with heap := h', toks := tk }) (n := "range_iterator") Vy rfl rfl Q.c ⟨.int (lo + i), H, I1, ⟨t, ?_⟩, ⟨rfl, rfl⟩, Vy, fun b hb => (hf b hb).1⟩⟩
   rw [Int.mul_one]
 done := by
   intro X hP hw hK hc i pins s σ H E I hf st hg
   subst hP hw hK
   obtain ⟨f0, f1, f2, f3, f4, f5⟩ := hf it Q.r
   exact wpAny_pyNext_range_end (I.ok.hd hc) st (by have : n <= i := hg; omega) fun h' eb => ⟨rfl, I.turned (t' := s.toks) (fun b o hb e => eb b o hb e) f0 f1 f3 f4 f5⟩
 self := fun _ _ _ _ _ st h => wpAny_pyIter_rangeiter st h
def ak4 (K : Q.l) (tl : TE) : TI := fun σ H R => tl σ H fun x H1 => ∃ a, x = .ref a /\ (∃ xs, vN K H1 a xs) /\ R (Itl K a) H1
def aob (K : Q.l) (tl : TE) : TI := fun σ H R => tl σ H fun x H1 => ∃ a, x = .ref a /\ (∃ xs, Fq K H1 a xs) /\ R (Itt K a) H1
theorem adF {l : Expr} {tl : TE} (hl : PE X l tl) : PI X tg l (ak4 X.K tl) := by
 intro pins s σ H R I h
 refine gM (hl pins s σ H _ I h) fun v s1 zz => ?_
 obtain ⟨x, H1, I1, r1, q1⟩ := zz
 obtain ⟨a, e, ⟨xs, hq⟩, q⟩ := q1
 subst e
 cases r1
 obtain ⟨its, rv, p, hz⟩ := I1.list hq
 refine wpAny_pyIter_list p.isList ?_
 refine ⟨s1.heap.objs.size, [s1.heap.objs.size], _, _, H1, rfl, I1.kept (t' := s1.toks) fun b o e => atu _ e, Xo a _, ⟨_, at4 _ rfl, rfl, rfl⟩, fun b hb => ?_, q⟩
 have e : b = s1.heap.objs.size := by simpa using hb
 subst e
 exact I1.Lb (atq _) (I1.gS.fresh (atq _))
theorem ahL {l : Expr} {tl : TE} (hl : PE X l tl) : PI X tg l (aob X.K tl) := by
 intro pins s σ H R I h
 refine gM (hl pins s σ H _ I h) fun v s1 zz => ?_
 obtain ⟨x, H1, I1, r1, q1⟩ := zz
 obtain ⟨a, e, ⟨xs, hq⟩, q⟩ := q1
 subst e
 cases r1
 obtain ⟨its, rv, p, hz⟩ := I1.tuple hq
 refine wpAny_pyIter_tuple (show s1.heap.IsTuple a its.toArray from p) ?_
 refine ⟨s1.heap.objs.size, [s1.heap.objs.size], _, _, H1, rfl, I1.kept (t' := s1.toks) fun b o e => atu _ e, Ru a _, ⟨_, at4 _ rfl, rfl, rfl⟩, fun b hb => ?_, q⟩
 have e : b = s1.heap.objs.size := by simpa using hb
 subst e
 exact I1.Lb (atq _) (I1.gS.fresh (atq _))
theorem OQ {R : It -> Hp -> Prop} {lo hi : Int} {t u v : Tok} {tk : Nat} (I : Q.m) (h1 : -(2 ^ 62) <= lo) (h2 : lo < 2 ^ 62) (h3 : -(2 ^ 62) <= hi) (h4 : hi < 2 ^ 62)
   (q : R (Itr lo (hi - lo).toNat) H) : wpAny Q.k X.A (pyIter (.ref s.heap.objs.size)) (PIE X pins σ tg R) E { s with heap := s.heap.push { cls := .type "range", data := .fields #[.int lo t, .int hi u, .int 1 v] }, toks := tk } := by
 refine wpAny_pyIter_range (IsRange.new ..) (small_one h1 h2 h3 h4) ?_
 have I1 : Inv X pins σ H { s with heap := s.heap.push { cls := .type "range", data := .fields #[.int lo t, .int hi u, .int 1 v] }, toks := tk } := I.kept fun b o e => atu _ e
 refine ⟨(s.heap.push { cls := .type "range", data := .fields #[.int lo t, .int hi u, .int 1 v] }).objs.size, [(s.heap.push { cls := .type "range", data := .fields #[.int lo t, .int hi u, .int 1 v] }).objs.size], _, _, H, rfl,
   I1.kept (t' := tk) fun b o e => atu _ e, Rw _ lo (hi - lo).toNat, ?_, fun b hb => ?_, q⟩
 . have e1 : lo + ((0 : Nat) : Int) * 1 = lo := by simp
   have e2 : (((hi - lo).toNat : Nat) : Int) - ((0 : Nat) : Int) = Builtin.Range.rangeSize lo hi 1 := by rw [rangeSize_one]; split <;> omega
   show IsRangeIter _ _ (lo + ((0 : Nat) : Int) * 1) ((((hi - lo).toNat : Nat) : Int) - ((0 : Nat) : Int)) 1
   rw [e1, e2]
   exact at4 _ rfl
 . have e : b = (s.heap.push { cls := .type "range", data := .fields #[.int lo t, .int hi u, .int 1 v] }).objs.size := by simpa using hb
   subst e
   exact I1.Lb (atq _) (I1.gS.fresh (atq _))
def ak5 (ta : TA) : TI := fun σ H R => ta σ H fun vs H1 => ∃ j : Int, vs = [.int j] /\ -(2 ^ 62) <= j /\ j < 2 ^ 62 /\ R (Itr 0 j.toNat) H1
def ak6 (ta : TA) : TI := fun σ H R => ta σ H fun vs H1 => ∃ i j : Int, vs = [.int i, .int j] /\ (-(2 ^ 62) <= i /\ i < 2 ^ 62 /\ -(2 ^ 62) <= j /\ j < 2 ^ 62) /\ R (Itr i (j - i).toNat) H1
variable {p : Pos}
theorem Xp {a : Expr} {ta : TA} (hg : Gl X "range") (hm : X.mg "range" = none) (ha : PA X [a] ta) (hs : starEach [a] X.env = [(false, eval a X.env)] := by rfl) : PI X tg (.Call (.Name "range" p) [a] [] pos) (ak5 ta) := by
 intro pins s σ H R I h
 refine Call_ (DM I hg hm boot_range (auE (gM (ha pos pins s σ H _ I h) fun us s1 zz => ?_) hs rfl))
 obtain ⟨vs, H1, I1, r1, q1⟩ := zz
 obtain ⟨j, e, q1, q2, q⟩ := q1
 subst e
 cases r1 with
 | cons r rr =>
   cases rr
   obtain ⟨t, rfl⟩ := r
   exact call_range_1 (OQ I1 Q.a Q.a q1 q2 (by simpa using q))
theorem Xq {a b : Expr} {ta : TA} (hg : Gl X "range") (hm : X.mg "range" = none) (ha : PA X [a, b] ta) (hs : starEach [a, b] X.env = [(false, eval a X.env), (false, eval b X.env)] := by rfl) (Ov : starEach [b] X.env = [(false, eval b X.env)] := by rfl) :
   PI X tg (.Call (.Name "range" p) [a, b] [] pos) (ak6 ta) := by
 intro pins s σ H R I h
 refine Call_ (DM I hg hm boot_range (auE (gM (ha pos pins s σ H _ I h) fun us s1 zz => ?_) (by rw [hs, Ov]) (by rw [Ov]; rfl)))
 obtain ⟨vs, H1, I1, r1, q1⟩ := zz
 obtain ⟨i, j, e, ⟨q1, q2, q3, q4⟩, q⟩ := q1
 subst e
 cases r1 with
 | cons r rr =>
   cases rr with
   | cons r' rr =>
     cases rr
     obtain ⟨t, rfl⟩ := r
     obtain ⟨t', rfl⟩ := r'
     exact call_range_2 (OQ I1 q1 q2 q3 q4 q)
def aoc (wi : TI) (g : TG) (tb : TS) : TS := fun D σ H => wi σ H fun J H1 => ∃ W : Nat -> Nat -> St -> Hp -> Prop, (∃ m, W 0 m σ H1) /\ ∀ i m σ H, W i m σ H →
 (J.stop i H /\ D.nx σ H) \/ (J.go i H /\ ∃ N : St -> Hp -> Prop, (∀ σ' H', N σ' H' -> ∃ m', m' < m /\ W (i + 1) m' σ' H') /\ ∀ x H', J.yld i H x H' -> g x σ H' fun σ2 H2 => tb { D with nx := N, ct := N, bk := D.nx } σ2 H2)
def Ht (fp : Q.p) (h : Heap) : List (Addr × Obj) := fp.filterMap fun b => (h.get? b).map fun o => (b, o)
theorem t7 {fp : Q.p} {o : Obj} (hb : b ∈ fp) (e : h.get? b = some o) : (b, o) ∈ Ht fp h := List.mem_filterMap.mpr ⟨b, hb, by rw [e]; rfl⟩
theorem Xr {fp : Q.p} {p : Addr × Obj} (hp : p ∈ Ht fp h) : p.1 ∈ fp /\ h.get? p.1 = some p.2 := by
 obtain ⟨b, hb, e⟩ := List.mem_filterMap.mp hp
 cases q : h.get? b with
 | none => rw [q] at e; cases e
 | some o =>
   rw [q] at e
   have e' : (b, o) = p := atX e
   subst e'
   exact ⟨hb, q⟩
theorem Inv.pinned {fp : Q.p} (I : Q.m) (hf : ∀ b ∈ fp, F4 X pins H b) (ho : ∀ b ∈ fp, ∃ o, s.heap.get? b = some o /\ ∀ v, o.data ≠ .cell v) : Inv X (pins ++ Ht fp s.heap) σ H s :=
 I.GD fun p hp => (ate.mp hp).elim (fun z => I.pin p (as7 _ z)) fun z => by
   obtain ⟨hb, e⟩ := Xr z
   obtain ⟨f0, f1, f2, _⟩ := hf p.1 hb
   obtain ⟨o, e', d⟩ := ho p.1 hb
   rw [e] at e'; cases e'
   exact ⟨e, f0, f1, f2, d⟩
theorem Inv.Bm {pl : Q.o} (I : Inv X (pins ++ pl) σ H s) : Inv X pins σ H s := I.GD fun p hp => I.pin p (as7 _ (as9 _ hp))
theorem aam {iter : Expr} {body : List Stmt} {wi : TI} {g : TG} {tb : TS} (hp : PassesOwn Q.k X.A X.env X.xe) (hc : X.calm = true) (hi : PI X tg iter wi) (hg : PG X tg g) (hb : Vx X body tb)
   (hs : Q.au := by intro _; rfl) : PS X (.For tg iter body [] pos) (aoc wi g tb) := by
 intro pins s σ H D I h
 refine wpAny_For (gM (hi pins s σ H _ I h) fun v s1 h1 => gM h1 fun itv s2 h2 => ?_) hs
 obtain ⟨it, fp, tn, J, H2, e, I2, T, st2, f2, W, ⟨m0, w0⟩, turn⟩ := h2
 subst e
 have stat : ∀ {H' : Hp}, (∀ b ∈ fp, H' b = none) -> ∀ b ∈ fp, F4 X pins H' b := fun hn b hb => ⟨hn b hb, (f2 b hb).2⟩
 refine codeAny_forLoop_any (fun n s' => ∃ i σ' H', Inv X pins σ' H' s' /\ tn i s'.heap /\ (∀ b ∈ fp, H' b = none) /\ W i n σ' H') ?_ m0 ⟨0, σ, H2, I2, st2, fun b hb => (f2 b hb).1, w0⟩
 rintro n s3 ⟨i, σ3, H3, I3, st3, fr3, w3⟩
 rcases turn i n σ3 H3 w3 with ⟨stop, qn⟩ | ⟨go, N, hN, step⟩
 . refine auH hp (gM (T.done X rfl rfl rfl hc i pins s3 σ3 H3 X.xe I3 (stat fr3) st3 stop) fun r s4 zz => ?_)
   obtain ⟨hr, I4⟩ := zz
   subst hr
   exact wpAny_execs_nil ⟨σ3, H3, I4, qn⟩
 . refine auH hp (gM (T.item X rfl rfl rfl hc i pins s3 σ3 H3 X.xe I3 (stat fr3) st3 go) fun r s4 zz => ?_)
   obtain ⟨u, hr, h4⟩ := zz
   subst hr
   refine auH hp (gM h4 fun _ s5 zz => ?_)
   obtain ⟨x, H5, I5, r5, y5, st5, fr5⟩ := zz
   have I5' := I5.pinned (stat fr5) (T.obj _ _ st5)
   refine auH hp (gM (hg _ s5 σ3 H5 x u _ I5' r5 (step x H5 y5)) fun _ s6 zz => ?_)
   obtain ⟨σ6, H6, I6, q6⟩ := zz
   refine auH hp (gM (hb _ s6 σ6 H6 _ I6 q6) fun f s7 q7 => ?_)
   have again : ∀ {σ7 : St} {H7 : Hp}, Inv X (pins ++ Ht fp s5.heap) σ7 H7 s7 -> N σ7 H7 -> ∃ m, m < n /\ ∃ i σ' H', Inv X pins σ' H' s7 /\ tn i s7.heap /\ (∀ b ∈ fp, H' b = none) /\ W i m σ' H' := fun {σ7 H7} I7 n7 => by
     obtain ⟨m', hm, w7⟩ := hN σ7 H7 n7
     refine ⟨m', hm, i + 1, σ7, H7, I7.Bm, T.keep _ _ _ st5 fun b hb o e => (I7.pin (b, o) (as7 _ (as7 _ (t7 hb e)))).1, fun b hb => ?_, w7⟩
     obtain ⟨o, e, d⟩ := T.obj _ _ st5 b hb
     exact (I7.pin (b, o) (as7 _ (as7 _ (t7 hb e)))).2.1
   cases f with
   | next => obtain ⟨σ7, H7, I7, n7⟩ := q7; exact again I7 n7
   | cont => obtain ⟨σ7, H7, I7, n7⟩ := q7; exact again I7 n7
   | brk => obtain ⟨σ7, H7, I7, q7⟩ := q7; exact ⟨σ7, H7, I7.Bm, q7⟩
   | ret v => obtain ⟨x7, σ7, H7, I7, r7, q7⟩ := q7; exact ⟨x7, σ7, H7, I7.Bm, r7, q7⟩
abbrev R2 := V -> V -> Hp -> VK -> Prop
def vY (X : Cx) (f : Value -> Value -> Sem Value) (r : R2) : Prop :=
 ∀ (pins : Q.o) (s : Shared) (σ : St) (H : Hp) (x y : V) (v u : Value) (Q : VK), Inv X pins σ H s -> RelV x v -> RelV y u -> r x y H Q →
   wpAny Q.k X.A (f v u) (EP X pins σ Q) X.xe s
def UnR (X : Cx) (f : Value -> Sem Value) (r : V -> Hp -> VK -> Prop) : Prop :=
 ∀ (pins : Q.o) (s : Shared) (σ : St) (H : Hp) (x : V) (v : Value) (Q : VK), Inv X pins σ H s -> RelV x v -> r x H Q →
   wpAny Q.k X.A (f v) (EP X pins σ Q) X.xe s
def vA (X : Cx) (f : Value) (r : List V -> Hp -> VK -> Prop) : Prop :=
 ∀ (pins : Q.o) (s : Shared) (σ : St) (H : Hp) (xs : List V) (us : Q.q) (Q : VK), Inv X pins σ H s -> Vals xs us -> r xs H Q →
   wpAny Q.k X.A (call f us) (EP X pins σ Q) X.xe s
def tOp (r : R2) (ta tb : TE) : TE := fun σ H Q => ta σ H fun x H1 => tb σ H1 fun y H2 => r x y H2 Q
def tUn (r : V -> Hp -> VK -> Prop) (ta : TE) : TE := fun σ H Q => ta σ H fun x H1 => r x H1 Q
def rI (C : Int -> Int -> Prop) (g : Int -> Int -> V) : R2 := fun x y H Q => ∃ i j, x = .int i /\ y = .int j /\ C i j /\ Q (g i j) H
def rI0 (g : Int -> Int -> V) : R2 := fun x y H Q => ∃ i j, x = .int i /\ y = .int j /\ Q (g i j) H
def rU (g : Int -> V) : V -> Hp -> VK -> Prop := fun x H Q => ∃ i, x = .int i /\ Q (g i) H
variable {a b : Expr} {ta tb : TE} {f : Value -> Value -> Sem Value}
theorem ahM (ha : PE X a ta) (hb : PE X b tb) {R : V -> V -> Hp -> Prop} (I : Q.m)
   (h : ta σ H fun x H1 => tb σ H1 fun y H2 => R x y H2) {Q : Q.v}
   (hf : ∀ v u s2 x y H2, Inv X pins σ H2 s2 -> RelV x v -> RelV y u -> R x y H2 -> wpAny Q.k X.A (f v u) Q X.xe s2) :
   wpAny Q.k X.A (eval a X.env) (fun v s₁ => wpAny Q.k X.A (eval b X.env) (fun u s₂ => wpAny Q.k X.A (f v u) Q X.xe s₂) X.xe s₁) X.xe s := by
 refine gM Q.am fun v s1 zz => ?_
 obtain ⟨x, H1, I1, r1, q1⟩ := zz
 refine gM (hb pins s1 σ H1 _ I1 q1) fun u s2 zz => ?_
 obtain ⟨y, H2, I2, r2, q2⟩ := zz
 exact hf v u s2 x y H2 I2 r1 r2 q2
variable {r : R2}
theorem aan {op : Operator} (ho : vY X (binaryOp op) r) (ha : PE X a ta) (hb : PE X b tb) : PE X (.BinOp a op b pos) (tOp r ta tb) := by
 intro pins s σ H Q I h
 exact wpAny_BinOp (ahM ha hb I h fun v u s2 x y H2 I2 rx ry q => ho pins s2 σ H2 x y v u Q I2 rx ry q)
theorem ak8 {op : UnaryOp} {r : V -> Hp -> VK -> Prop} (ho : UnR X (unaryOp op) r) (ha : PE X a ta) : PE X (.UnaryOp op a pos) (tUn r ta) := by
 intro pins s σ H Q I h
 exact UnaryOp_ (gM Q.am fun v s1 ⟨x, H1, I1, r1, q1⟩ => ho pins s1 σ H1 x v Q I1 r1 q1)
theorem opI {C : Int -> Int -> Prop} {g : Int -> Int -> Int}
   (rule : ∀ (i j : Int) (t u : Tok) (s : Shared) (Q : Q.v) (E : Q.v), C i j -> Q (.int (g i j) s.toks) { s with toks := s.toks + 1 } -> wpAny Q.k X.A (f (.int i t) (.int j u)) Q E s) :
   vY X f (rI C fun i j => .int (g i j)) := by
 intro pins s σ H x y v u Q I rx ry h
 obtain ⟨i, j, rfl, rfl, hc, q⟩ := h
 obtain ⟨t, rfl⟩ := rx
 obtain ⟨t', rfl⟩ := ry
 exact rule i j t t' s _ _ hc ⟨.int (g i j), H, I.tok _, ⟨_, rfl⟩, q⟩
theorem ala {g : Int -> Int -> Int}
   (rule : ∀ (i j : Int) (t u : Tok) (s : Shared) (Q : Q.v) (E : Q.v), Q (.int (g i j) s.toks) { s with toks := s.toks + 1 } -> wpAny Q.k X.A (f (.int i t) (.int j u)) Q E s) :
   vY X f (rI0 fun i j => .int (g i j)) := by
 intro pins s σ H x y v u Q I rx ry h
 obtain ⟨i, j, rfl, rfl, q⟩ := h
 obtain ⟨t, rfl⟩ := rx
 obtain ⟨t', rfl⟩ := ry
 exact rule i j t t' s _ _ ⟨.int (g i j), H, I.tok _, ⟨_, rfl⟩, q⟩
theorem ahN {g : Int -> Int -> Bool}
   (rule : ∀ (i j : Int) (t u : Tok) (s : Shared) (Q : Q.v) (E : Q.v), Q (.bool (g i j)) s -> wpAny Q.k X.A (f (.int i t) (.int j u)) Q E s) :
   vY X f (rI0 fun i j => .bl (g i j)) := by
 intro pins s σ H x y v u Q I rx ry h
 obtain ⟨i, j, rfl, rfl, q⟩ := h
 obtain ⟨t, rfl⟩ := rx
 obtain ⟨t', rfl⟩ := ry
 exact rule i j t t' s _ _ ⟨.bl (g i j), H, I, rfl, q⟩
def alb (i j : Int) : Prop := 0 < j /\ j < 1073741824
def alc (i j : Int) : Prop := 0 <= j /\ j <= 1000000 /\ i.natAbs < 2 ^ 64
def adI (i j : Int) : Prop := (-(2 ^ 64) < i /\ i < 2 ^ 64) \/ (-(2 ^ 64) < j /\ j < 2 ^ 64)
theorem adI.ok {i j : Int} (h : adI i j) : IntMulOk i j := by
 rcases h with ⟨h1, h2⟩ | ⟨h1, h2⟩
 . exact .of_left (intBits_le_64 h1 h2)
 . exact .of_right (intBits_le_64 h1 h2)
theorem ahO : vY X (binaryOp .Add) (rI0 fun i j => .int (i + j)) := ala fun _ _ _ _ _ _ _ q => add_int q
theorem ahP : vY X (binaryOp .Sub) (rI0 fun i j => .int (i - j)) := ala fun _ _ _ _ _ _ _ q => sub_int q
theorem ahQ : vY X (binaryOp .Mult) (rI adI fun i j => .int (i * j)) := opI fun _ _ _ _ _ _ _ hc q => mul_int q hc.ok
theorem adJ : vY X (binaryOp .FloorDiv) (rI alb fun i j => .int (i / j)) := opI fun i j _ _ _ _ _ hc q => by
 have h1 : (0 : Int) < j := hc.1
 have h2 : j < 1073741824 := hc.2
 exact floordiv_int Q.a (by rw [Int.fdiv_eq_ediv_of_nonneg i Q.a]; exact q) (.inl (PyProof.noPylong_small Q.a))
theorem ahR : vY X (binaryOp .Mod) (rI (fun _ j => 0 < j) fun i j => .int (i % j)) := opI fun i j _ _ _ _ _ hc q => by
 have h1 : (0 : Int) < j := hc
 exact mod_int' Q.a (by rw [Int.fmod_eq_emod_of_nonneg i Q.a]; exact q)
theorem ahT : vY X (binaryOp .Pow) (rI alc fun i j => .int (i ^ j.toNat)) := opI fun _ _ _ _ _ _ _ hc q => pow_int_small hc.1 hc.2.1 hc.2.2 q
theorem unI {f : Value -> Sem Value} {g : Int -> Int}
   (rule : ∀ (i : Int) (t : Tok) (s : Shared) (Q : Q.v) (E : Q.v), Q (.int (g i) s.toks) { s with toks := s.toks + 1 } -> wpAny Q.k X.A (f (.int i t)) Q E s) :
   UnR X f (rU fun i => .int (g i)) := by
 intro pins s σ H x v Q I rx h
 obtain ⟨i, rfl, q⟩ := h
 obtain ⟨t, rfl⟩ := rx
 exact rule i t s _ _ ⟨.int (g i), H, I.tok _, ⟨_, rfl⟩, q⟩
theorem ahU : UnR X (unaryOp .USub) (rU fun i => .int (-i)) := unI fun _ _ _ _ _ q => neg_int q
def ahV : V -> V -> Bool
 | .non, .non => true | .non, .int _ => true | .int _, .non => true | .non, .bl _ => true | .bl _, .non => true | .non, .str _ => true | .str _, .non => true
 | .int _, .int _ => true | .bl _, .bl _ => true | .str _, .str _ => true | .Xj _, .Xj _ => true
 | .int _, .str _ => true | .str _, .int _ => true | .bl _, .str _ => true | .str _, .bl _ => true
 | _, _ => false
def rEq : R2 := fun x y H Q => ahV x y = true /\ Q (.bl (decide (x = y))) H
def rNe : R2 := fun x y H Q => ahV x y = true /\ Q (.bl (!decide (x = y))) H
theorem Vz {i j : Int} : decide (V.int i = V.int j) = (i == j) := by
 rw [auW]
 simp
theorem aao {i j : Bool} : decide (V.bl i = V.bl j) = (i == j) := by
 rw [auW]
 simp
theorem VA {i j : Str} : decide (V.str i = V.str j) = (i == j) := by
 rw [auW]
 simp
theorem VB {i j : Array UInt8} : decide (V.Xj i = V.Xj j) = (i.toList == j.toList) := by
 rw [auW]
 cases i
 cases j
 simp
variable {c : Expr} {tc : TE}
theorem dz {Q : VK} {k k' : Bool} (I : Q.m) (q : Q (.bl k) H) (e : k = k') : EP X pins σ Q (.bool k') s := by
 subst e
 exact ⟨.bl k, H, I, rfl, q⟩
theorem aap : vY X (compareOp .Eq) rEq := by
 intro pins s σ H x y v u Q I rx ry h
 obtain ⟨hs, q⟩ := h
 cases x with
 | non =>
   cases rx
   cases y with
   | non => cases ry; exact PySem.EqNone.eq_none_none Q.N
   | bl j => cases ry; exact PySem.EqNone.eq_none_bool Q.N
   | int j => obtain ⟨t', rfl⟩ := ry; exact PySem.EqNone.eq_none_int Q.N
   | str j => obtain ⟨t', rfl⟩ := ry; exact PySem.EqNone.eq_none_str Q.N
   | _ => exact absurd Q.ak atv
 | bl i =>
   cases rx
   cases y with
   | non => cases ry; exact PySem.EqNone.eq_bool_none Q.N
   | bl j => cases ry; exact eq_bool (dz I q aao)
   | str j => obtain ⟨t', rfl⟩ := ry; exact PySem.EqMixed.eq_bool_str Q.N
   | _ => exact absurd Q.ak atv
 | int i =>
   obtain ⟨t, rfl⟩ := rx
   cases y with
   | non => cases ry; exact PySem.EqNone.eq_int_none Q.N
   | int j => obtain ⟨t', rfl⟩ := ry; exact eq_int (dz I q Vz)
   | str j => obtain ⟨t', rfl⟩ := ry; exact PySem.EqMixed.eq_int_str Q.N
   | _ => exact absurd Q.ak atv
 | str i =>
   obtain ⟨t, rfl⟩ := rx
   cases y with
   | non => cases ry; exact PySem.EqNone.eq_str_none Q.N
   | bl j => cases ry; exact PySem.EqMixed.eq_str_bool Q.N
   | int j => obtain ⟨t', rfl⟩ := ry; exact PySem.EqMixed.eq_str_int Q.N
   | str j => obtain ⟨t', rfl⟩ := ry; exact eq_str (dz I q VA)
   | _ => exact absurd Q.ak atv
 | Xj i =>
   obtain ⟨t, rfl⟩ := rx
   cases y with
   | Xj j => obtain ⟨t', rfl⟩ := ry; exact PySem.W.eq_bytes (dz I q VB)
   | _ => exact absurd Q.ak atv
 | _ => cases y <;> exact absurd Q.ak atv
theorem agL : vY X (compareOp .NotEq) rNe := by
 intro pins s σ H x y v u Q I rx ry h
 obtain ⟨hs, q⟩ := h
 cases x with
 | non =>
   cases rx
   cases y with
   | non => cases ry; exact PySem.EqNone.ne_none_none Q.N
   | bl j => cases ry; exact PySem.EqNone.ne_none_bool Q.N
   | int j => obtain ⟨t', rfl⟩ := ry; exact PySem.EqNone.ne_none_int Q.N
   | str j => obtain ⟨t', rfl⟩ := ry; exact PySem.EqNone.ne_none_str Q.N
   | _ => exact absurd Q.ak atv
 | bl i =>
   cases rx
   cases y with
   | non => cases ry; exact PySem.EqNone.ne_bool_none Q.N
   | bl j => cases ry; exact ne_bool (dz I q (congrArg not aao))
   | str j => obtain ⟨t', rfl⟩ := ry; exact PySem.EqMixed.ne_bool_str Q.N
   | _ => exact absurd Q.ak atv
 | int i =>
   obtain ⟨t, rfl⟩ := rx
   cases y with
   | non => cases ry; exact PySem.EqNone.ne_int_none Q.N
   | int j => obtain ⟨t', rfl⟩ := ry; exact ne_int (dz I q (congrArg not Vz))
   | str j => obtain ⟨t', rfl⟩ := ry; exact PySem.EqMixed.ne_int_str Q.N
   | _ => exact absurd Q.ak atv
 | str i =>
   obtain ⟨t, rfl⟩ := rx
   cases y with
   | non => cases ry; exact PySem.EqNone.ne_str_none Q.N
   | bl j => cases ry; exact PySem.EqMixed.ne_str_bool Q.N
   | int j => obtain ⟨t', rfl⟩ := ry; exact PySem.EqMixed.ne_str_int Q.N
   | str j => obtain ⟨t', rfl⟩ := ry; exact ne_str (dz I q (congrArg not VA))
   | _ => exact absurd Q.ak atv
 | Xj i =>
   obtain ⟨t, rfl⟩ := rx
   cases y with
   | Xj j => obtain ⟨t', rfl⟩ := ry; exact PySem.W.ne_bytes (dz I q (congrArg not VB))
   | _ => exact absurd Q.ak atv
 | _ => cases y <;> exact absurd Q.ak atv
theorem VC : vY X (compareOp .Lt) (rI0 fun i j => .bl (decide (i < j))) := ahN fun _ _ _ _ _ _ _ q => lt_int q
theorem ald : vY X (compareOp .LtE) (rI0 fun i j => .bl (decide (i <= j))) := ahN fun _ _ _ _ _ _ _ q => le_int q
theorem ale : vY X (compareOp .Gt) (rI0 fun i j => .bl (decide (j < i))) := ahN fun _ _ _ _ _ _ _ q => gt_int q
theorem Lc : vY X (compareOp .NotIn) (fun x y H Q => ∃ i j, x = .str i /\ y = .str j /\ Q (.bl (!(!(Builtin.Str.occurrences j i 0 j.length 1).isEmpty))) H) := by
 intro pins s σ H x y v u Q I rx ry h
 obtain ⟨i, j, rfl, rfl, q⟩ := h
 obtain ⟨t, rfl⟩ := rx
 obtain ⟨t', rfl⟩ := ry
 exact notIn_str (dz I q rfl)
variable {op : CmpOp}
theorem t8 (b : Expr) (h : op ≠ .In := by decide) (h2 : op ≠ .NotIn := by decide) : behindInMarks op b = false := by
 have e1 : (op == CmpOp.In) = false := by cases op <;> first | rfl | exact absurd rfl h
 have e2 : (op == CmpOp.NotIn) = false := by cases op <;> first | rfl | exact absurd rfl h2
 cases b <;> simp [behindInMarks, e1, e2]
theorem xO (ho : vY X (compareOp op) r) (ha : PE X a ta) (hb : PE X b tb) (hm : behindInMarks op b = false) : PE X (.Compare a [op] [b] pos) (tOp r ta tb) := by
 intro pins s σ H Q I h
 exact wpAny_Compare1 (ahM ha hb I h fun v u s2 x y H2 I2 rx ry q => ho pins s2 σ H2 x y v u Q I2 rx ry q) hm
def agM (t : TE) : TT := fun σ H Q => t σ H fun x H' => ∃ k, x = .bl k /\ Q k H'
theorem xP (ho : vY X (compareOp op) r) (ha : PE X a ta) (hb : PE X b tb) (hm : behindInMarks op b = false) : PT X (.Compare a [op] [b] pos) (agM (tOp r ta tb)) := by
 intro pins s σ H Q I h
 refine wpAny_isTrue_Compare1 (gM Q.am fun v s1 ⟨x, H1, I1, r1, q1⟩ => gM (hb pins s1 σ H1 _ I1 q1) fun u s2 ⟨y, H2, I2, r2, q2⟩ =>
   gM (ho pins s2 σ H2 x y v u _ I2 r1 r2 q2) fun c s3 ⟨z, H3, I3, r3, k, e, q3⟩ => ?_) hm
 subst e
 cases r3
 exact auq ⟨H3, I3, q3⟩
def aaq (r r' : R2) (ta tb tc : TE) : TE := fun σ H Q => ta σ H fun x H1 => tb σ H1 fun y H2 => r x y H2 fun z H3 => ∃ k, z = .bl k ∧
 (if k = true then tc σ H3 fun w' H4 => r' y w' H4 Q else Q (.bl false) H3)
theorem aar {op' : CmpOp} {r' : R2} (ho : vY X (compareOp op) r) (J4 : vY X (compareOp op') r') (ha : PE X a ta) (hb : PE X b tb) (hc : PE X c tc)
   (hm : lastMarks [op, op'] [b, c] = false := by with_unfolding_all rfl) : PE X (.Compare a [op, op'] [b, c] pos) (aaq r r' ta tb tc) := by
 intro pins s σ H Q I h
 refine Compare_chain (gM Q.am fun v s1 ⟨x, H1, I1, r1, q1⟩ => chain_link (gM (hb pins s1 σ H1 _ I1 q1) fun u s2 ⟨y, H2, I2, r2, q2⟩ =>
   gM (ho pins s2 σ H2 x y v u _ I2 r1 r2 q2) fun d s3 ⟨z, H3, I3, r3, k, e, q3⟩ => ?_)) hm
 subst e
 cases r3
 refine auq ?_
 cases k with
 | false => exact ite_ff ⟨.bl false, H3, I3, rfl, q3⟩
 | true => exact ite_tt (chain_last (gM (hc pins s3 σ H3 _ I3 q3) fun w' s4 ⟨z', H4, I4, r4, q4⟩ => J4 pins s4 σ H4 y z' u w' Q I4 r2 r4 q4))
theorem aas {op' : CmpOp} {r' : R2} (ho : vY X (compareOp op) r) (J4 : vY X (compareOp op') r') (ha : PE X a ta) (hb : PE X b tb) (hc : PE X c tc)
   (hm : lastMarks [op, op'] [b, c] = false := by with_unfolding_all rfl) : PT X (.Compare a [op, op'] [b, c] pos) (agM (aaq r r' ta tb tc)) := by
 intro pins s σ H Q I h
 refine isTrue_chain (gM Q.am fun v s1 ⟨x, H1, I1, r1, q1⟩ => test_link (gM (hb pins s1 σ H1 _ I1 q1) fun u s2 ⟨y, H2, I2, r2, q2⟩ =>
   gM (ho pins s2 σ H2 x y v u _ I2 r1 r2 q2) fun d s3 ⟨z, H3, I3, r3, k, e, q3⟩ => ?_)) hm
 subst e
 cases r3
 refine auq ?_
 cases k with
 | false =>
   obtain ⟨k', e', q'⟩ := q3
   cases e'
   exact ite_ff ⟨H3, I3, q'⟩
 | true =>
   refine ite_tt (test_last (gM (hc pins s3 σ H3 _ I3 q3) fun w' s4 ⟨z', H4, I4, r4, q4⟩ => gM (J4 pins s4 σ H4 y z' u w' _ I4 r2 r4 q4) fun d' s5 zz => ?_))
   obtain ⟨z2, H5, I5, r5, k2, e2, q5⟩ := zz
   subst e2
   cases r5
   exact auq ⟨H5, I5, q5⟩
theorem DN : (sizeLine : Nat) < 2 ^ 63 := by rw [aui]; decide
theorem Rx : vY X (binaryOp .Add) (fun x y H Q => ∃ i j, x = .str i /\ y = .str j /\ i.length + j.length <= sizeLine /\ Q (.str (i ++ j)) H) := by
 intro pins s σ H x y v u Q I rx ry h
 obtain ⟨i, j, rfl, rfl, hz, q⟩ := h
 obtain ⟨t, rfl⟩ := rx
 obtain ⟨t', rfl⟩ := ry
 exact add_str (fun t' tk => ⟨.str (i ++ j), H, I.tok _, ⟨_, rfl⟩, q⟩) hz
theorem vals1 {x : V} (r : Vals [x] us) : ∃ u, us = [u] /\ RelV x u := by
 cases r with
 | cons r1 r2 => cases r2; exact ⟨_, rfl, r1⟩
theorem Xs : vA X (.type "int") (fun xs H Q => (∃ i, xs = [.int i] /\ Q (.int i) H) \/ ∃ k, xs = [.bl k] /\ Q (.int (if k then 1 else 0)) H) := by
 intro pins s σ H xs us Q I r h
 rcases h with ⟨i, rfl, q⟩ | ⟨k, rfl, q⟩
 . obtain ⟨u, rfl, t, rfl⟩ := vals1 r
   exact call_int_int ⟨.int i, H, I, ⟨_, rfl⟩, q⟩
 . obtain ⟨u, rfl, r1⟩ := vals1 r
   cases r1
   exact call_int_bool ⟨.int (if k then 1 else 0), H, I.tok _, ⟨_, rfl⟩, q⟩
theorem Ld : vA X (.type "str") (fun xs H Q => ∃ i, xs = [.int i] /\ i.natAbs.log2 < 1920 /\ Q (.str (toString i)) H) := by
 intro pins s σ H xs us Q I r h
 obtain ⟨i, rfl, hz, q⟩ := h
 obtain ⟨u, rfl, t, rfl⟩ := vals1 r
 exact PySem.P.str_of_int hz ⟨.str _, H, I.tok _, ⟨_, rfl⟩, q⟩
structure Xu (h : Heap) (x dx C : Addr) (mA : Q.B) : Prop where
 obj : h.get? x = some (PySem.W.instObj C dx)
 ns : h.Ns1 dx mA
 ne : dx ≠ x
variable {dx : Addr}
theorem Xv {mA : Q.B} (n : h.Ns1 dx mA) : ∃ od, h.get? dx = some od /\ ∀ name, PySem.W.lookIn name od = some (mA name) := by
 obtain ⟨o, es, ep, ho, hd, hk, _, hm⟩ := n
 refine ⟨o, ho, fun name => ?_⟩
 have e := hm name
 unfold nsFind findBy at e
 rw [← Array.find?_toList] at e
 unfold PySem.W.lookIn
 rw [hd]
 dsimp only
 split
 . rename_i y q
   rw [q] at e
   exact congrArg some e
 . rename_i q
   rw [q] at e
   have a : es.toList.any (·.refKey) = false := by
     rw [List.any_eq_false]
     intro y hy
     obtain ⟨z, t, aoe⟩ := hk y (Array.mem_toList_iff.mp hy)
     simp [DictEntry.refKey, aoe]
   have a' : ¬ es.toList.any (·.refKey) = true := by rw [a]; exact atv
   rw [as5 a']
   exact congrArg some e
variable {C : Addr}
theorem Xu.look {mA : Q.B} (I : Xu h x dx C mA) : ∃ od, PySem.W.InstAt h x (PySem.W.instObj C dx) C (some od) /\ ∀ name, PySem.W.lookIn name od = some (mA name) :=
 let ⟨od, ho, hl⟩ := Xv I.ns
 ⟨od, ⟨I.obj, rfl, rfl, ho⟩, hl⟩
variable {prog : Program} {f : Addr} {mA : Q.B} {name : Str} {v : Value}
theorem get_map {expr : Bool} {Q : Q.v} (X : K.In s.heap) (I : Xu s.heap x dx C mA) (hg : PySem.W.plainGet K C name = true) (hh : PySem.W.hasDictIn K C = true)
   (ha : PySem.W.findIn K (.ref C) name = some none) (hv : mA name = some v) (hv' : PySem.W.handedIn v = true) (h : Q v { s with toks := s.toks + 1 }) :
   wpAny Q.Q A (getAttr (.ref x) name expr) Q E s := by
 obtain ⟨od, J, hl⟩ := I.look
 exact PySem.W.get_value X J (PySem.W.plainGet_of hg).1 (PySem.W.findObj_own hh ha rfl (by rw [hl, hv])) hv' h
theorem adK {ns : Q.h} (X : K.In s.heap) (I : Xu s.heap x dx C mA)
   (hs : PySem.W.findIn K (.ref C) "__setattr__" = some (some (.builtin "object.__setattr__"))) (hp : PySem.W.plainOver K C = true) (ht : PySem.W.takerIn K C name = some none) (hh : PySem.W.hasDictIn K C = true)
   (hw : PySem.Within mA ns) (hsz : ns.length <= sizeLine)
   (h : ∀ h', Xu h' x dx C (fun y => if y = name then some v else mA y) -> Heap.SameBut dx s.heap h' -> Q () { s with heap := h', toks := s.toks + 2 }) :
   wpAny Q.Q A (setAttr (.ref x) name v) Q E s := by
 obtain ⟨od, J, hl⟩ := I.look
 refine PySem.W.set_plain X J hs (PySem.W.osa_open (s := { s with toks := s.toks + 1 }) (r := none) X J hp ht fun b => ?_)
 obtain ⟨cd, hc, hd'⟩ := PySem.W.any_some hh
 have hx : s.heap.get? x = some ⟨.ref C, some dx, .plain, #[]⟩ := I.obj
 refine aty (at5 (aty (aty (wpAny_loadPart hx (aty (PySem.W.Looks.here (s := { s with toks := s.toks + 1 }) (PySem.W.looks_clsIn X hc) ?_))))))
 rw [hd']
 refine at5 (a := some dx) (aty (at5 (aty ?_)))
 refine wpAny_nsSet1 (s := { s with toks := s.toks + 1 }) I.ns fun h' hn2 Ov => ?_
 obtain ⟨oD, esD, epD, hoD, hdD, hcD⟩ := hn2.count (PySem.Within.cons name v hw)
 refine aty (wpAny_lookBehind hoD (by rw [hdD]; exact pastItsLine_dict (ath hcD (by rw [at8]; omega))) ?_)
 exact at5 (h _ ⟨(Ov.2 _ (auG I.ne)).trans I.obj, hn2, I.ne⟩ Ov)
theorem aat {R : Result -> Shared -> Prop} {vs : Q.q} {kw : List (Str × Value)} (X : K.In s.heap) (hm : PySem.W.makesIn K C = true)
   (hi : PySem.W.findIn K (.ref C) "__init__" = some (some (.ref f))) (hf : PySem.W.typeIn K (.ref f) = some (.type "function"))
   (h : codeAny Q.Q (A.under (.builtin "type.__call__" ⟨.ref C :: vs, kw⟩)) (.call (.ref f) ⟨.ref Q.Y :: vs, kw⟩) (PySem.W.InitBack Q.Y R)
     { s with heap := (s.heap.push PySem.W.emptyDict).push (PySem.W.instObj C s.heap.objs.size) }) :
   codeAny Q.Q A (.call (.ref C) ⟨vs, kw⟩) R s := by
 obtain ⟨hh, g, d, t, os⟩ := s
 exact PySem.W.make_core (PySem.W.makes_of X hm) (PySem.W.looks_findIn X hi) (fun self => PySem.W.bind_fn X self hf) (.inl rfl) h
def qM (f : Str) (v : V) : List (Str × V) -> List (Str × V)
 | [] => [(f, v)]
 | (g, x) :: r => if g = f then (g, v) :: r else (g, x) :: qM f v r
theorem Fv (f g : Str) (v : V) : ∀ fs : List (Str × V), (qM f v fs).lookup g = if g = f then some v else fs.lookup g
 | [] => by
   show List.lookup g [(f, v)] = _
   by_cases h : g = f
   . have hb : (g == f) = true := au7.mpr h
     simp only [List.lookup, hb, atb h]
   . have hb : (g == f) = false := auR.mpr h
     simp only [List.lookup, hb, as5 h]
 | (k, x) :: r => by
   have ih := Fv f g v r
   rw [show qM f v ((k, x) :: r) = (if k = f then (k, v) :: r else (k, x) :: qM f v r) from rfl]
   by_cases hk : k = f
   . rw [atb hk]
     by_cases h : g = k
     . have hb : (g == k) = true := au7.mpr h
       simp only [List.lookup, hb, atb (h.trans hk)]
     . have hb : (g == k) = false := auR.mpr h
       simp only [List.lookup, hb, as5 (fun e : g = f => h (e.trans hk.symm))]
   . rw [as5 hk]
     by_cases h : g = k
     . have hb : (g == k) = true := au7.mpr h
       simp only [List.lookup, hb, as5 (fun e : g = f => hk (h.symm.trans e))]
     . have hb : (g == k) = false := auR.mpr h
       simp only [List.lookup, hb]
       exact ih
theorem DP (f : Str) (v : V) : ∀ fs : List (Str × V), f ∈ (qM f v fs).map (·.1) /\ ∀ g, g ∈ fs.map (·.1) -> g ∈ (qM f v fs).map (·.1)
 | [] => ⟨by simp [qM], fun g h => by simp at h⟩
 | (k, x) :: r => by
   obtain ⟨i1, i2⟩ := DP f v r
   rw [show qM f v ((k, x) :: r) = (if k = f then (k, v) :: r else (k, x) :: qM f v r) from rfl]
   by_cases hk : k = f
   . rw [atb hk]
     subst hk
     exact ⟨by simp, fun g h => by simpa using h⟩
   . rw [as5 hk]
     refine ⟨?_, fun g h => ?_⟩
     . rw [atG]
       exact atk _ i1
     . rw [atG] at h ⊢
       rcases atl.mp h with e | e
       . exact atl.mpr (.inl e)
       . exact atk _ (i2 g e)
theorem Fw (f : Str) (v : V) : ∀ fs : List (Str × V), (qM f v fs).length <= fs.length + 1
 | [] => by simp [qM]
 | (k, x) :: r => by
   have ih := Fw f v r
   rw [show qM f v ((k, x) :: r) = (if k = f then (k, v) :: r else (k, x) :: qM f v r) from rfl]
   by_cases hk : k = f
   . rw [atb hk, at8, at8]; omega
   . rw [as5 hk, at8, at8]; omega
theorem Hq.some_of {v : V} {o : Option Value} (r : Hq (some v) o) : ∃ u, o = some u /\ RelV v u := by
 cases o with
 | none => exact (show False from r).elim
 | some u => exact ⟨u, rfl, r⟩
theorem Xw {v : V} (r : RelV v u) : PySem.W.handedIn u = true := by
 cases v with
 | non => cases (show u = Value.none from r); rfl
 | bl b => cases (show u = Value.bool b from r); rfl
 | int i => obtain ⟨t, e⟩ := (show ∃ t, u = Value.int i t from r); cases e; rfl
 | str x => obtain ⟨t, e⟩ := (show ∃ t, u = Value.str x t from r); cases e; rfl
 | Xj b => obtain ⟨t, e⟩ := (show ∃ t, u = Value.bytes b t from r); cases e; rfl
 | flt b => obtain ⟨t, e⟩ := (show ∃ t, u = Value.float b t from r); cases e; rfl
 | ref a => cases (show u = Value.ref a from r); rfl
 | ty n => cases (show u = Value.type n from r); rfl
variable {a : Addr} {fs : List (Str × V)}
theorem VD (gS : xN P w H h) (e : H a = some (.ins C dx fs)) : ∃ mA, Xu h a dx C mA /\ (∀ f, Hq (fs.lookup f) (mA f)) /\ PySem.Within mA (fs.map (·.1)) /\ fs.length <= 1000 /\ H dx = some (.own a) := by
 obtain ⟨d, z, ne, ob, mA, n, r, q⟩ := (show iV P w H h a (.ins C dx fs) from gS a _ e)
 exact ⟨mA, ⟨ob, n, ne⟩, r, q, z, d⟩
structure DQ (K : Q.l) (C : Addr) : Prop where
 pg : PySem.W.plainGet K C Str.empty = true
 hd : PySem.W.hasDictIn K C = true
 po : PySem.W.plainOver K C = true
 sa : PySem.W.findIn K (.ref C) "__setattr__" = some (some (.builtin "object.__setattr__"))
theorem DQ.get (c : DQ K C) (f : Str) : PySem.W.plainGet K C f = true := c.pg
def bQ (K : Q.l) (C : Addr) (f : Str) : Prop := PySem.W.findIn K (.ref C) f = some none
theorem bQ.alf {f : Str} (n : bQ K C f) : PySem.W.takerIn K C f = some none := by
 unfold PySem.W.takerIn
 rw [show PySem.W.findIn K (.ref C) f = some none from n]
 rfl
variable {f : Str} {v : V}
theorem Ry {b : Bool} {Q : Q.v} (I : Q.m) (e : H a = some (.ins C dx fs)) (c : DQ X.K C) (n : bQ X.K C f) (l : fs.lookup f = some v)
   (h : ∀ u s', Inv X pins σ H s' -> RelV v u -> Q u s') : wpAny Q.k A (getAttr (.ref a) f b) Q E s := by
 obtain ⟨mA, O, r, _, _, _⟩ := VD I.gS e
 obtain ⟨u, hu, ru⟩ := Hq.some_of (v := v) (o := mA f) (by rw [← l]; exact r f)
 exact get_map I.J1 O (c.get f) c.hd n hu (Xw ru) (h u _ (I.tok _) ru)
theorem Rz {y : V} (I : Q.m) (e : H a = some (.ins C dx fs)) (c : DQ X.K C) (n : bQ X.K C f) (hl : fs.length < 1000) (ry : RelV y u)
   (h : ∀ s', Inv X pins σ (upd H a (.ins C dx (qM f y fs))) s' -> Q () s') : wpAny Q.k A (setAttr (.ref a) f u) Q E s := by
 obtain ⟨mA, O, r, wi, _, ho⟩ := VD I.gS e
 have hz : (fs.map (·.1)).length <= sizeLine := by rw [as4, aui]; omega
 refine adK I.J1 O c.sa c.po n.alf c.hd wi hz fun h' O' sb => h _ ?_
 have hd : ∃ o, h'.get? dx = some o := let ⟨o, _, _, e', _⟩ := O'.ns; ⟨o, e'⟩
 refine I.write (x := a) (e := dx) (by rw [e]; exact True.intro) (.inr ho) (fun b q hb z => (sb.2 b hb).trans z) hd ?_
 refine ⟨by rw [aP O.ne]; exact ho, ?_, O.ne, O'.obj, _, O'.ns, fun g => ?_, fun g hg => ?_⟩
 . have := Fw f y fs; omega
 . show Hq ((qM f y fs).lookup g) (if g = f then some u else mA g)
   rw [Fv]
   by_cases q : g = f
   . rw [atb q, atb q]; exact ry
   . rw [as5 q, as5 q]; exact r g
 . by_cases q : g = f
   . rw [q]; exact (DP f y fs).1
   . refine (DP f y fs).2 g (wi g fun z => hg ?_)
     show (if g = f then some u else mA g) = none
     rw [as5 q]; exact z
theorem Inv.made (I : Q.m) : Inv X pins σ (upd (upd H s.heap.objs.size (.own Q.Y)) Q.Y (.ins C s.heap.objs.size []))
   { s with heap := (s.heap.push PySem.W.emptyDict).push (PySem.W.instObj C s.heap.objs.size) } := by
 have e1 : (s.heap.push PySem.W.emptyDict).get? s.heap.objs.size = some PySem.W.emptyDict := at4 s.heap rfl
 have e2 : ((s.heap.push PySem.W.emptyDict).push (PySem.W.instObj C s.heap.objs.size)).get? Q.Y = some (PySem.W.instObj C s.heap.objs.size) := by
   have := at4 (s.heap.push PySem.W.emptyDict) (o := PySem.W.instObj C s.heap.objs.size) rfl
   rwa [Heap.size_push] at this
 have e3 : (s.heap.push PySem.W.emptyDict).Ns s.heap.objs.size (fun _ => none) := ⟨PySem.W.emptyDict, #[], _, e1, rfl, (fun e he => absurd he Q.r), fun _ => rfl⟩
 have I1 := I.laid (a := s.heap.objs.size) (o := .own Q.Y) (h' := s.heap.push PySem.W.emptyDict) (t' := s.toks) (fun b u q => atu _ q) (atq _) ⟨_, e1⟩
 refine I1.laid (a := s.heap.objs.size + 1) (o := .ins C s.heap.objs.size []) (t' := s.toks) (fun b u q => atu _ q) (Nat.le_of_eq (Heap.size_push _ _)) ?_
 have ne : s.heap.objs.size ≠ s.heap.objs.size + 1 := at3 (au8 _)
 refine ⟨by rw [aP ne, bR], atx _, ne, e2, fun _ => none, (Heap.Ns1.of_empty e3).at fun o q => atu _ q, fun _ => True.intro, fun y hy => absurd rfl hy⟩
theorem adL {env : Env} {e : Expr} {Q : Q.v} (hb : attributeBase e f env (eval e env) = eval e env)
   (h : wpAny Q.Q A (eval e env) (fun o s₁ => wpAny Q.Q A (getAttr o f true) Q E s₁) E s) : wpAny Q.Q A (eval (.Attribute e f pos) env) Q E s :=
 Attribute_any_ h (by rw [arm_eval_Attribute, hb])
def aof (K : Q.l) (ta : TE) (f : Str) : TE := fun σ H Q => ta σ H fun x H1 => ∃ a C dx fs v, x = .ref a /\ H1 a = some (.ins C dx fs) /\ DQ K C /\ bQ K C f /\ fs.lookup f = some v /\ Q v H1
def aog (K : Q.l) (ta tv : TE) (f : Str) : TS := fun D σ H => tv σ H fun y H1 => ta σ H1 fun x H2 => ∃ a C dx fs, x = .ref a /\ H2 a = some (.ins C dx fs) /\ DQ K C /\ bQ K C f /\ fs.length < 1000 ∧
 D.nx σ (upd H2 a (.ins C dx (qM f y fs)))
variable {o e value : Expr} {pos' : Pos} {tv : TE}
theorem aau (he : PE X e ta) (hb : attributeBase e f X.env (eval e X.env) = eval e X.env) : PE X (.Attribute e f pos) (aof X.K ta f) := by
 intro pins s σ H Q I h
 refine adL hb (gM (he pins s σ H _ I h) fun u s1 zz => ?_)
 obtain ⟨x, H1, I1, rx, a, C, dx, fs, v, ex, ea, c, n, l, q⟩ := zz
 subst ex
 obtain rfl : u = Value.ref a := rx
 exact Ry I1 ea c n l fun u' s2 I2 ru => ⟨v, H1, I2, ru, q⟩
theorem ahW (ha : PE X o ta) (hv : PE X value tv) (hs : swapsWith value (some (.Attribute o f pos')) pos.line X.env = pure false) : PS X (.Assign [.Attribute o f pos'] value pos) (aog X.K ta tv f) := by
 intro pins s σ H D I h
 refine plainObj_wpAny_Assign_Attribute (gM (hv pins s σ H _ I h) fun u s1 ⟨y, H1, I1, ry, q⟩ => gM (ha pins s1 σ H1 _ I1 q) fun ov s2 zz => ?_) hs
 obtain ⟨x, H2, I2, rx, a, C, dx, fs, ex, ea, c, n, l, q2⟩ := zz
 subst ex
 obtain rfl : ov = Value.ref a := rx
 exact Rz I2 ea c n l ry fun s3 I3 => ⟨σ, _, I3, q2⟩
structure jH (k : Nat) (A : Around) : Prop where
 hd : A.handled = none
 dp : A.depth + 3 * k + 5 < recursionLimit
 un : A.units + 16 * k + 200 < cLine
theorem jH.mono {j : Nat} (r : jH k A) (h : j <= k) : jH j A := ⟨r.hd, by have := r.dp; omega, by have := r.un; omega⟩
theorem jH.deeper (r : jH (k + 1) A) (env : Env) : jH k (A.deeper env) :=
 ⟨r.hd, by have := r.dp; show A.depth + 1 + 3 * k + 5 < _; omega, by have := r.un; show A.units + 3 + 16 * k + 200 < _; omega⟩
theorem RA {kw : List (Str × Value)} : (A.under (.builtin "type.__call__" ⟨.ref C :: us, kw⟩)).depth = A.depth + 1 := by
 first | rfl | simp [Around.under, Code.weight, Code.isCreation, Code.isGuard, Code.isCaller, Code.frames, Code.isFrame, guardIds]
theorem RB {kw : List (Str × Value)} : (A.under (.builtin "type.__call__" ⟨.ref C :: us, kw⟩)).units = A.units + 1 := by
 first | rfl | simp [Around.under, Code.cUnits, Code.frames, Code.isFrame]
theorem jH.make (r : jH (k + 1) A) (C : Addr) (us : Q.q) (kw : List (Str × Value)) : jH k (A.under (.builtin "type.__call__" ⟨.ref C :: us, kw⟩)) :=
 ⟨r.hd, by have := r.dp; rw [RA]; omega, by have := r.un; rw [RB]; omega⟩
theorem jH.depth (r : jH k A) : A.depth < recursionLimit := by have := r.dp; omega
theorem jH.units (r : jH k A) : A.units + 64 < cLine := by have := r.un; omega
def alg : TA := fun _ H Q => Q [] H
def alh (ta : TE) (tr : TA) : TA := fun σ H Q => ta σ H fun x H1 => tr σ H1 fun xs H2 => Q (x :: xs) H2
variable {t : TA}
theorem iA : PA X [] alg := fun _ _ _ _ H Q I h => Calls.spliced_nil ⟨[], H, I, .nil, h⟩
theorem dm (ha : PE X e te) (hr : PA X es t) (hs : Q.R := by rfl) : PA X (e :: es) (alh te t) := by
 intro pos pins s σ H Q I h
 rw [hs]
 show wpAny _ _ (spliced ((false, eval e X.env) :: backTo pos (starEach es X.env))) _ _ s
 refine Calls.spliced_cons (gM Q.am fun u s1 zz => ?_)
 obtain ⟨x, H1, I1, r1, q1⟩ := zz
 exact gM (hr pos pins s1 σ H1 _ I1 q1) fun us s2 ⟨xs, H2, I2, r2, q2⟩ => ⟨x :: xs, H2, I2, .cons r1 r2, q2⟩
def aoh (t : TA) : TE := fun σ H Q => t σ H fun xs H1 => xs.length <= sizeLine /\ ∀ p, H1 p = none -> Q (.ref p) (upd H1 p (.tup xs))
def aoi (t : TA) : TE := fun σ H Q => t σ H fun xs H1 => xs.length <= sizeLine /\ ∀ p, H1 p = none -> Q (.ref p) (upd H1 p (.lst xs))
theorem ahX {x1} (h : PA X es t) : PE X (.Tuple es x1 pos) (aoh t) := by
 intro pins s σ H Q I hq
 refine wpAny_Tuple_spliced (gM (h pos pins s σ H _ I hq) fun us s1 ⟨xs, H1, I1, r, z, q⟩ => ⟨by rw [← r.length]; exact z, ?_⟩)
 have hf : H1 s1.heap.objs.size = none := I1.gS.fresh (atq _)
 refine ⟨.ref s1.heap.objs.size, upd H1 s1.heap.objs.size (.tup xs), I1.laid (t' := s1.toks) (fun b u e => atu _ e) (atq _) ?_, rfl, q _ hf⟩
 exact ⟨z, us, r, ⟨_, at4 _ rfl, rfl, _, rfl⟩⟩
theorem ahY (h : PA X es t) : PE X (.List es pos) (aoi t) := by
 intro pins s σ H Q I hq
 refine wpAny_List_spliced (gM (h pos pins s σ H _ I hq) fun us s1 ⟨xs, H1, I1, r, z, q⟩ => ⟨by rw [← r.length]; exact z, ?_⟩)
 have hf : H1 s1.heap.objs.size = none := I1.gS.fresh (atq _)
 refine ⟨.ref s1.heap.objs.size, upd H1 s1.heap.objs.size (.lst xs), I1.laid (t' := s1.toks) (fun b u e => atu _ e) (atq _) ?_, rfl, q _ hf⟩
 exact ⟨z, us, 0, r, at4 _ rfl⟩
abbrev Sp := List V -> Hp -> VK -> XK -> Prop
abbrev ZR := List Env -> Hp -> Shared -> XK -> Value -> Shared -> Prop
structure RC (P : Program) (w : World) (K : Q.l) (mg : Q.B) (base : Heap) (A : Around) (outer : List Env) (s : Shared) (H : Hp) : Prop where
 frames : A.frames = some outer
 mod : Mod K mg base
 bs : ∀ b o, base.get? b = some o -> s.heap.get? b = some o /\ H b = none
 bsz : base.objs.size <= s.heap.objs.size
 zo : s.heap.FunFrames base outer
 frf : ∀ b ∈ vW outer, H b = none
 gS : xN P w H s.heap
 bare : AllBare s.gens
def CE (outer : List Env) (P : Program) (w : World) (H : Hp) (s : Shared) (Q : VK) (u : Value) (s' : Shared) : Prop :=
 ∃ v H', s'.os = s.os /\ AllBare s'.gens /\ Un (vW outer) [] H H' s.heap s'.heap /\ xN P w H' s'.heap /\ RelV v u /\ Q v H'
def CR (CX : ZR) (outer : List Env) (P : Program) (w : World) (H : Hp) (s : Shared) (Q : VK) (E : XK) (r : Result) (s' : Shared) : Prop :=
 match r with
 | .ok (.ret u) => CE outer P w H s Q u s'
 | .ok _ => False
 | .error e => CX outer H s E e s'
structure iy (P : Program) (w : World) (K : Q.l) (mg : Q.B) (base : Heap) (CX : ZR) (k : Nat) (f : Addr) (fd : FuncData) (ps : Q.h) (sp : Sp) : Prop where
 len : ∀ vs H Q E, sp vs H Q E -> vs.length = ps.length
 run : ∀ (A : Around) (outer : List Env) (s : Shared) (H : Hp) (args : Args) (us : Q.q) (vs : List V) (Q : VK) (E : XK), jH k A -> RC P w K mg base A outer s H -> BindsTo s fd args (ps.zip us) -> Vals vs us -> sp vs H Q E →
   codeAny (model P w) A (.call (.ref f) args) (CR CX outer P w H s Q E) s
variable {mg : Q.B} {base : Heap} {CX : ZR} {ps : Q.h}
theorem iy.imp {f : Addr} {fd : FuncData} {sp sp' : Sp} (F : iy P w K mg base CX k f fd ps sp)
   (h : ∀ vs H Q E, sp' vs H Q E -> sp vs H Q E) : iy P w K mg base CX k f fd ps sp' :=
 ⟨fun vs H Q E q => F.len vs H Q E (h _ _ _ _ q), fun A outer s H args us vs Q E hr he hb hv hs => F.run A outer s H args us vs Q E hr he hb hv (h _ _ _ _ hs)⟩
theorem RC.make {outer : List Env} (e : RC P w K mg base A outer s H) (C : Addr) (us : Q.q) (kw : List (Str × Value)) :
   RC P w K mg base (A.under (.builtin "type.__call__" ⟨.ref C :: us, kw⟩)) outer s H := ⟨by first | exact e.frames | (simpa [Around.under, Code.envs, Code.isFrame, pushEnvs] using e.frames), e.mod, e.bs, e.bsz, e.zo, e.frf, e.gS, e.bare⟩
variable {s' : Shared}
theorem Inv.ahZ (I : Q.m) : RC X.prog X.w X.K X.mg X.base X.A X.stack s H :=
 ⟨I.ok.frames, I.ok.mod, I.bs, ath I.ok.bsz I.sz, I.stack, I.La, I.gS, I.bare⟩
theorem Inv.after {Q : VK} (I : Q.m) (h : CE X.stack X.prog X.w H s Q u s') : EP X pins σ Q u s' := by
 obtain ⟨v, H', os, bare, un, gS, r, q⟩ := h
 obtain ⟨hh, g, d, t, os'⟩ := s'
 obtain rfl : os' = s.os := os
 exact ⟨v, H', I.call (h' := hh) (g' := g) (d' := d) (t' := t) (ch := []) un gS bare (fun b z => absurd z Q.r), r, q⟩
def agN (sp : Sp) (OS : List V) (E : XK) (t : TA) : TE := fun σ H Q => t σ H fun vs H1 => sp (vs ++ OS) H1 Q E
def ali (C : Addr) (sp : Sp) (OS : List V) (E : XK) (t : TA) : TE := fun σ H Q => t σ H fun vs H1 => ∀ x dx, H1 x = none -> H1 dx = none -> dx ≠ x →
 sp (.ref x :: (vs ++ OS)) (upd (upd H1 dx (.own x)) x (.ins C dx [])) (fun v H2 => v = .non /\ Q (.ref x) H2) E
def Binds (K : Q.l) (fd : FuncData) (ps : Q.h) (ds : Q.q) : Prop :=
 ∀ (s : Shared) (us : Q.q), K.In s.heap -> (us ++ ds).length = ps.length -> BindsTo s fd ⟨us, []⟩ (ps.zip (us ++ ds))
theorem Binds.all {fd : FuncData} (h : ∀ us : List Value, us.length = ps.length -> bindArgs fd ⟨us, []⟩ = pure (ps.zip us)) : Binds K fd ps [] := fun s us _ hl => by
 rw [atY] at hl ⊢
 exact .of_eq (h us hl)
def Passes (CX : ZR) (X : Cx) (E : XK) : Prop := ∀ (pins : Q.o) (σ : St) (H : Hp) (s : Shared) (e : Value) (s' : Shared), Inv X pins σ H s -> CX X.stack H s E e s' -> X.xe e s'
section
variable {f : Addr} {fd : FuncData} {sp : Sp} {OS : List V} {ds : Q.q} {E : XK} {x : Str}
theorem aav {Q : VK} {vs : List V} (F : iy X.prog X.w X.K X.mg X.base CX k f fd ps sp) (hr : jH k X.A) (hb : Binds X.K fd ps ds) (hd : Vals OS ds) (hx : Passes CX X E)
   (I : Q.m) (r : Vals vs us) (h : sp (vs ++ OS) H Q E) : wpAny Q.k X.A (call (.ref f) us) (EP X pins σ Q) X.xe s := by
 have r2 : Vals (vs ++ OS) (us ++ ds) := r.append hd
 have hl : (us ++ ds).length = ps.length := by rw [← r2.length]; exact F.len _ _ _ _ h
 refine wpAny_call (au2 (F.run X.A X.stack s H ⟨us, []⟩ (us ++ ds) (vs ++ OS) Q E hr I.ahZ (hb s us I.J1 hl) r2 h) fun r s' hq => ?_)
 cases r with
 | error e => exact hx pins σ H s e s' I hq
 | ok fl =>
   cases fl with
   | ret u => exact I.after hq
   | next => exact False.elim hq
   | brk => exact False.elim hq
   | cont => exact False.elim hq
theorem VF (F : iy X.prog X.w X.K X.mg X.base CX k f fd ps sp) (hr : jH k X.A) (hg : Gl X x) (hm : X.mg x = some (.ref f)) (hk : PySem.W.keepIn X.K (.ref f) = true) (hb : Binds X.K fd ps ds) (hd : Vals OS ds) (hx : Passes CX X E)
   (ha : PA X (e :: es) t) (Bo : Q.s := by decide) (he : Q.R := by rfl) (hpl : Q.ac := by rfl) :
   PE X (.Call (.Name x p) (e :: es) [] pos) (agN sp OS E t) := by
 intro pins s σ H Q I h
 refine auF (rK I hg hm ?_ Bo)
 refine PySem.W.callWith_K (h₀ := X.base) I.ok.mod.kin hk (gM (ha pos pins s σ H _ I h) fun us s1 ⟨vs, H1, I1, r, q⟩ => ⟨I1.J1, ?_⟩) he hpl
 exact aav F hr hb hd hx I1 r q
theorem aaw (F : iy X.prog X.w X.K X.mg X.base CX k f fd ps sp) (hr : jH k X.A) (hg : Gl X x) (hm : X.mg x = some (.ref f)) (hk : PySem.W.keepIn X.K (.ref f) = true) (hb : Binds X.K fd ps ds) (hd : Vals OS ds) (hx : Passes CX X E)
   (Bo : Q.s := by decide) : PE X (.Call (.Name x p) [] [] pos) (agN sp OS E alg) := by
 intro pins s σ H Q I h
 refine auF (rK I hg hm ?_ Bo)
 exact PySem.W.callWith_K0 I.J1 hk (aav (us := []) F hr hb hd hx I .nil h)
structure Mk (K : Q.l) (C f : Addr) : Prop where
 makes : PySem.W.makesIn K C = true
 init : PySem.W.findIn K (.ref C) "__init__" = some (some (.ref f))
 fn : PySem.W.isFn K (.ref f) = true
 kp : PySem.W.keepIn K (.ref C) = true
theorem aax {Q : VK} {vs : List V} (M : Mk X.K C f) (F : iy X.prog X.w X.K X.mg X.base CX k f fd ps sp) (hr : jH (k + 1) X.A) (hb : Binds X.K fd ps ds) (hd : Vals OS ds)
   (hx : Passes CX X E) (I : Q.m) (r : Vals vs us)
   (h : ∀ x dx, H x = none -> H dx = none -> dx ≠ x -> sp (.ref x :: (vs ++ OS)) (upd (upd H dx (.own x)) x (.ins C dx [])) (fun v H2 => v = .non /\ Q (.ref x) H2) E) :
   wpAny Q.k X.A (call (.ref C) us) (EP X pins σ Q) X.xe s := by
 have hq := h Q.Y s.heap.objs.size (I.gS.fresh (Nat.le_succ _)) (I.gS.fresh (atq _)) (at3 (au8 _))
 have I2 := Inv.made (C := C) I
 have r2 : Vals (V.ref Q.Y :: (vs ++ OS)) (Value.ref Q.Y :: (us ++ ds)) := .cons rfl (r.append hd)
 have hl : (Value.ref Q.Y :: us ++ ds).length = ps.length := by
   have e := r2.length
   rw [F.len _ _ _ _ hq] at e
   exact e.symm
 refine wpAny_call (aat (f := f) I.J1 M.makes M.init (au7.mp M.fn) (au2 (F.run _ X.stack _ _ ⟨Value.ref Q.Y :: us, []⟩ (Value.ref Q.Y :: (us ++ ds)) _ _ E (hr.make C us [])
   (I2.ahZ.make C us []) (hb _ (Value.ref Q.Y :: us) I2.J1 hl) r2 hq) fun r s' hq' => ?_))
 cases r with
 | error e => exact hx pins σ _ _ e s' I2 hq'
 | ok fl =>
   cases fl with
   | ret u =>
     obtain ⟨v, H', I3, rv, ev, q3⟩ := I2.after hq'
     subst ev
     exact ⟨rv, ⟨V.ref Q.Y, H', I3, rfl, q3⟩⟩
   | next => exact False.elim hq'
   | brk => exact False.elim hq'
   | cont => exact False.elim hq'
theorem VG (M : Mk X.K C f) (F : iy X.prog X.w X.K X.mg X.base CX k f fd ps sp) (hr : jH (k + 1) X.A) (hg : Gl X x) (hm : X.mg x = some (.ref C)) (hb : Binds X.K fd ps ds) (hd : Vals OS ds) (hx : Passes CX X E)
   (ha : PA X (e :: es) t) (Bo : Q.s := by decide) (he : Q.R := by rfl) (hpl : Q.ac := by rfl) :
   PE X (.Call (.Name x p) (e :: es) [] pos) (ali C sp OS E t) := by
 intro pins s σ H Q I h
 refine auF (rK I hg hm ?_ Bo)
 refine PySem.W.callWith_K (h₀ := X.base) I.ok.mod.kin M.kp (gM (ha pos pins s σ H _ I h) fun us s1 ⟨vs, H1, I1, r, q⟩ => ⟨I1.J1, ?_⟩) he hpl
 exact aax M F hr hb hd hx I1 r q
end
structure aZ (N P : Q.h) (sc : Scope) : Prop where
 kind : sc.kind = .function
 co : sc.isCoroutine = false
 gen : sc.isGenerator = false
 nd : N.Nodup
 pre : N.take P.length = P
 par : ∀ x ∈ P, sc.names.lookup x = some .local \/ sc.names.lookup x = some .cell
 ah0 : ∀ y ∈ sc.names, y.2 ≠ .free
theorem Kq {kindOf : Str -> Option NameKind} {x : Str} : ∀ {binds : List (Str × Value)} {m : Q.B}, (∀ v, (x, v) ∉ binds) -> bindL kindOf binds m x = m x
 | [], _, _ => rfl
 | (n, v) :: r, m, h => by
   unfold bindL
   rw [Kq fun w hw => h w (atk _ hw)]
   split
   . have : x ≠ n := by rintro rfl; exact h v ati
     simp [this]
   . rfl
theorem Kr {kindOf : Str -> Option NameKind} {x : Str} : ∀ {binds : List (Str × Value)} {m : Q.B}, (∀ v, (x, v) ∉ binds) -> bindC kindOf binds m x = m x
 | [], _, _ => rfl
 | (n, v) :: r, m, h => by
   unfold bindC
   rw [Kr fun w hw => h w (atk _ hw)]
   split
   . rfl
   . have : x ≠ n := by rintro rfl; exact h v ati
     simp [this]
theorem Ks {kindOf : Str -> Option NameKind} {x : Str} {v : Value} : ∀ {P : Q.h} {vs : Q.q} {i : Nat} {m : Q.B}, P.Nodup -> P[i]? = some x -> vs[i]? = some v -> kindOf x = some .local →
   bindL kindOf (P.zip vs) m x = some v
 | [], _, _, _, _, h, _, _ => by simp at h
 | _ :: _, [], _, _, _, _, h, _ => by simp at h
 | p :: P, w :: vs, 0, m, nd, h1, h2, hk => by
   simp at h1 h2; subst h1; subst h2
   show bindL kindOf ((p, w) :: P.zip vs) m p = _
   unfold bindL
   rw [Kq fun v hv => (aud.mp nd).1 (List.of_mem_zip hv).1, atb hk]
   simp
 | p :: P, w :: vs, i + 1, m, nd, h1, h2, hk => by
   show bindL kindOf ((p, w) :: P.zip vs) m x = _
   unfold bindL
   exact Ks (i := i) (List.nodup_cons.mp nd).2 (by simpa using h1) (by simpa using h2) hk
theorem Ku {kindOf : Str -> Option NameKind} {x : Str} {v : Value} : ∀ {P : Q.h} {vs : Q.q} {i : Nat} {m : Q.B}, P.Nodup -> P[i]? = some x -> vs[i]? = some v -> kindOf x ≠ some .local →
   bindC kindOf (P.zip vs) m x = some v
 | [], _, _, _, _, h, _, _ => by simp at h
 | _ :: _, [], _, _, _, _, h, _ => by simp at h
 | p :: P, w :: vs, 0, m, nd, h1, h2, hk => by
   simp at h1 h2; subst h1; subst h2
   show bindC kindOf ((p, w) :: P.zip vs) m p = _
   unfold bindC
   rw [Kr fun v hv => (aud.mp nd).1 (List.of_mem_zip hv).1, as5 hk]
   simp
 | p :: P, w :: vs, i + 1, m, nd, h1, h2, hk => by
   show bindC kindOf ((p, w) :: P.zip vs) m x = _
   unfold bindC
   exact Ku (i := i) (List.nodup_cons.mp nd).2 (by simpa using h1) (by simpa using h2) hk
def start (N : Q.h) (vs : List V) : St := vs.map some ++ List.replicate (N.length - vs.length) none
def DR (CX : ZR) (P : Program) (w : World) (K : Q.l) (mg : Q.B) (base : Heap) (N : Q.h) (qual : Str) (scope : Scope) (f : Addr) (cd : Value) (A : Around) (outer : List Env) (s : Shared) (H : Hp) (E : XK) : Cx where
 prog := P
 w := w
 K := K
 mg := mg
 base := base
 A := A.deeper (envOfC qual scope s.heap.objs.size f cd)
 N := N
 s₀ := s
 H₀ := H
 env := envOfC qual scope s.heap.objs.size f cd
 outer := outer
 stack := envOfC qual scope s.heap.objs.size f cd :: outer
 ex := []
 calm := true
 fn := fun _ => true
 pn := []
 xe := fun e s' => wpAny (model P w) (A.deeper (envOfC qual scope s.heap.objs.size f cd)) (leaving (envOfC qual scope s.heap.objs.size f cd) e) (fun _ s'' => CX outer H s E e s'') (fun e' s'' => CX outer H s E e' s'') s'
theorem OU {sc : Scope} {n : Nat} {x : Str} (h : sc.names.lookup x = some .cell) : ∃ c, (cellsFrom n sc.names []).lookup x = some c := by
 have q := PySem.W.cellsFrom_some sc.names n [] (.inl h)
 exact Option.isSome_iff_exists.mp q
theorem Xx {N : Q.h} {qual : Str} {scope : Scope} {f : Addr} {cd : Value} {outer : List Env} {s1 : Shared} {E : XK} {vs : List V}
   (S : aZ N ps scope) (hd : A.handled = none) (e0 : RC P w K mg base A outer s H) (hl : vs.length = ps.length) (r : Vals vs us)
   (x : InCallC s s.heap.objs.size (bindL (envOfC qual scope s.heap.objs.size f cd).kindOf (ps.zip us) fun _ => none) (cellsFrom Q.Y scope.names []) (bindC (envOfC qual scope s.heap.objs.size f cd).kindOf (ps.zip us) fun _ => none) s1) :
   Inv (DR CX P w K mg base N qual scope f cd A outer s H E) [] (start N vs) H s1 := by
 have hpl : ps.length <= N.length := by have := congrArg List.length S.pre; rw [at9] at this; omega
 obtain ⟨h1, tk, rfl, hk⟩ := x.done
 have noA : ∀ b : Addr, b ∉ (DR CX P w K mg base N qual scope f cd A outer s H E).ex := fun b z => absurd (show b ∈ ([] : List Addr) from z) Q.r
 refine ⟨⟨e0.mod, S.kind, rfl, rfl, atq _, fun y z c h1 h2 => ?_, fun y hy => ?_, fun y c _ h => ?_, fun _ => hd, Around.frames_deeper e0.frames, .inr ⟨rfl, rfl⟩, fun b z => absurd z (noA b), e0.bs, e0.bsz, fun b _ _ => noA b, fun b z => absurd z (noA b), e0.zo, e0.frf⟩,
   rfl, e0.bare, Un.kept hk, ⟨_, x.toInCall.ns, fun i y v h1 h2 h3 => ?_⟩, fun y c h => ⟨_, x.cell y c h⟩, e0.gS.fresh (atq _), fun y c h => ?_, fun p hp => absurd (show p ∈ ([] : List (Addr × Obj)) from hp) Q.r, e0.gS.kept hk, ?_⟩
 . exact name_of_addr x.apart (aus h1) (aus h2)
 . have hy : scope.names.lookup y = some .cell \/ scope.names.lookup y = some .free := hy
   rcases hy with hy | hy
   . exact OU hy
   . exact absurd rfl (S.ah0 _ (aus hy))
 . exact aub (x.above y c (aus h))
 . have hi : i < vs.length := by
     unfold start at h2
     by_cases hi : i < vs.length
     . exact hi
     . rw [List.getElem?_append_right (by simpa using hi)] at h2
       rw [List.getElem?_replicate] at h2
       split at h2 <;> cases h2
   have ha : vs[i]? = some v := by
     unfold start at h2
     rw [List.getElem?_append_left (by simpa using hi), List.getElem?_map] at h2
     cases e : vs[i]? with
     | none => rw [e] at h2; cases h2
     | some a => rw [e] at h2; cases h2; rfl
   obtain ⟨u, hu, rv⟩ := r.get ha
   have hp : ps[i]? = some y := by
     rw [← S.pre, List.getElem?_take_of_lt Q.a]; exact h1
   have ndP : ps.Nodup := by rw [← S.pre]; exact S.nd.sublist (List.take_sublist _ _)
   refine ⟨u, rv, ?_⟩
   rcases S.par y (at6 hp) with k | k
   . exact .inl ⟨k, Ks ndP hp hu k⟩
   . obtain ⟨c, e⟩ := OU (n := s.heap.objs.size + 1) k
     refine .inr ⟨.inl k, c, e, ?_⟩
     have q := x.cell y c e
     rw [Ku ndP hp hu (by show scope.names.lookup y ≠ _; rw [k]; decide)] at q
     exact q
 . exact e0.gS.fresh (aub (x.above y c (aus h)))
 . unfold start
   show _ = N.length
   rw [ats, as4, auy]
   omega
theorem agO {f : Addr} {qual : Str} {params : Arguments} {body : List Stmt} {scope : Scope} {dV kV doc pm lC ct oc : Value} {an od : Option Addr}
   {osl : Array (Option Value)} {N : Q.h} {sp : Sp} (lk : K.lookup f = some ⟨oc, od, .func (PySem.W.fnOf name qual params body scope dV kV doc pm an lC ct), osl⟩) (rJ : PySem.W.codeIn K lC qual = true) (S : aZ N ps scope)
   (len : ∀ vs H Q E, sp vs H Q E -> vs.length = ps.length)
   (aay : ∀ (A : Around) (outer : List Env) (s : Shared) (H : Hp) (vs : List V) (Q : VK) (E : XK), jH k (A.deeper (envOfC qual scope s.heap.objs.size f lC)) -> sp vs H Q E →
     ∃ t, Vx (DR CX P w K mg base N qual scope f lC A outer s H E) body t /\ t { nx := fun _ H' => Q .non H', rt := Q } (start N vs) H) :
   iy P w K mg base CX (k + 1) f (PySem.W.fnOf name qual params body scope dV kV doc pm an lC ct) ps sp := by
 refine ⟨len, fun A outer s H args us vs Q E hr e0 hb r J2 => ?_⟩
 have hl := len _ _ _ _ J2
 have KX : K.In s.heap := e0.mod.kin.keeps fun b o e => (e0.bs b o e).1
 have lim : s.heap.NoLimit := e0.mod.nolimit.keeps fun b o e => (e0.bs b o e).1
 have VH : ∀ y ∈ ps.zip us, scope.names.lookup y.1 = some .local \/ (scope.names.lookup y.1 = some .cell /\ ((cellsFrom Q.Y scope.names []).lookup y.1).isSome = true) := fun ⟨n, v⟩ hy => by
   rcases S.par n (List.of_mem_zip hy).1 with q | q
   . exact .inl q
   . exact .inr ⟨q, PySem.W.cellsFrom_some _ _ _ (.inl q)⟩
 refine codeAny_call_function hr.depth (KX _ _ lk) rfl S.co S.gen rfl (PySem.W.codeRec_of KX rJ) (hb _ _ _ _ ?_)
 refine wpAny_newFunctionEnv_cells S.kind VH fun env he s1 x => ?_
 subst he
 refine ⟨lim.keeps x.toInCall.keep, codeAny_func ?_⟩
 obtain ⟨t, ht, hq⟩ := aay A outer s H vs Q E (hr.deeper _) J2
 have I : Inv (DR CX P w K mg base N qual scope f lC A outer s H E) [] (start N vs) H s1 := Xx S hr.hd e0 hl r x
 refine auf (ht [] s1 (start N vs) H _ I hq) (fun fl s' hs => ?_) fun e s' hs => hs
 have fin : ∀ {σ' : St} {H' : Hp} {v : V} {u : Value}, Inv (DR CX P w K mg base N qual scope f lC A outer s H E) [] σ' H' s' -> RelV v u -> Q v H' -> CE outer P w H s Q u s' :=
   fun {σ' H' v u} J rv q => ⟨v, H', J.os, J.bare, J.base, J.gS, rv, q⟩
 cases fl with
 | ret u =>
   obtain ⟨v, σ', H', J, rv, q⟩ := hs
   exact fin J rv q
 | next =>
   obtain ⟨σ', H', J, q⟩ := hs
   exact fin (v := V.non) (u := Value.none) J rfl q
 | brk =>
   obtain ⟨_, _, _, q⟩ := hs
   exact False.elim q
 | cont =>
   obtain ⟨_, _, _, q⟩ := hs
   exact False.elim q
section
variable {x : Str} {id T : String} {r : List V -> Hp -> VK -> Prop}
def tCB (r : List V -> Hp -> VK -> Prop) (t : TA) : TE := fun σ H Q => t σ H fun vs H1 => r vs H1 Q
theorem vZ (hc : vA X (.builtin id) r) (hg : Gl X x) (hm : X.mg x = none) (hv : bootBuiltins x = some (.builtin id)) (ha : PA X (e :: es) t) (hn : x ≠ "__name__" := by decide) (Bo : Q.s := by decide)
   (he : Q.R := by rfl) (hpl : Q.ac := by rfl) : PE X (.Call (.Name x p) (e :: es) [] pos) (tCB r t) := by
 intro pins s σ H Q I h
 refine auF (DM I hg hm hv ?_ hn Bo)
 exact PyProof.Rows.callWith_builtin1 (gM (ha pos pins s σ H _ I h) fun us s1 ⟨vs, H1, I1, r1, q1⟩ => hc pins s1 σ H1 vs us Q I1 r1 q1) he hpl
theorem qD (hc : vA X (.type T) r) (hg : Gl X x) (hm : X.mg x = none) (hv : bootBuiltins x = some (.type T)) (ha : PA X (e :: es) t) (hn : x ≠ "__name__" := by decide) (Bo : Q.s := by decide)
   (he : Q.R := by rfl) (hpl : Q.ac := by rfl) : PE X (.Call (.Name x p) (e :: es) [] pos) (tCB r t) := by
 intro pins s σ H Q I h
 refine auF (DM I hg hm hv ?_ hn Bo)
 exact auE (gM (ha pos pins s σ H _ I h) fun us s1 ⟨vs, H1, I1, r1, q1⟩ => hc pins s1 σ H1 vs us Q I1 r1 q1) he hpl
end
end L2
namespace HT
open PySem PyProof.Rows
def DS (n d : Nat) : Option Int -> Nat
 | none => d
 | some v => if v < 0 then (v + (n : Int)).toNat else min v.toNat n
end HT
namespace L2
open PySem PySem.Spec PyProof.Rows
abbrev TO := St -> Hp -> (Option Int -> Hp -> Prop) -> Prop
def PO (X : Cx) (e : Option Expr) (t : TO) : Prop :=
 ∀ (pins : Q.o) (s : Shared) (σ : St) (H : Hp) (Q : Option Int -> Hp -> Prop), Inv X pins σ H s -> t σ H Q →
   wpAny Q.k X.A (evalPart e X.env) (fun u s' => ∃ o H', Inv X pins σ H' s' /\ IsPart u o /\ Q o H') X.xe s
def adM : TO := fun _ H Q => Q none H
def aln (t : TE) : TO := fun σ H Q => t σ H fun x H1 => ∃ i, x = .int i /\ Q (some i) H1
theorem intsAre_of {ns : Q.e} : ∀ {us : Q.q}, Vals (ns.map V.int) us -> IntsAre us ns := by
 induction ns with
 | nil => intro us r; rw [List.map_nil] at r; cases r; exact .nil
 | cons n ns ih =>
   intro us r
   rw [atG] at r
   cases r with
   | cons r1 r2 =>
     obtain ⟨t, e⟩ := r1
     subst e
     exact .cons n t (ih r2)
variable {X : Cx} {e : Expr} {te : TE} {lo hi : Option Expr} {tl th : TO} {pos p2 : Pos}
theorem adN : PO X none adM := by
 intro pins s σ H Q I h
 rw [evalPart_none]
 exact at5 ⟨none, H, I, .none, h⟩
theorem adO (h : PE X e te) : PO X (some e) (aln te) := by
 intro pins s σ H Q I hw
 rw [evalPart_some]
 refine gM (h pins s σ H _ I hw) fun u s1 zz => ?_
 obtain ⟨x, H1, I1, r1, q1⟩ := zz
 obtain ⟨i, rfl, q⟩ := q1
 obtain ⟨t, rfl⟩ := r1
 exact ⟨some i, H1, I1, .int i t, q⟩
def SlR (X : Cx) (r : V -> Option Int -> Option Int -> Hp -> VK -> Prop) : Prop :=
 ∀ (pins : Q.o) (s : Shared) (σ : St) (H : Hp) (x : V) (v vl vu : Value) (lo hi : Option Int) (sl : Addr) (Q : VK), Inv X pins σ H s -> RelV x v -> s.heap.IsSliceOf sl vl vu .none -> IsPart vl lo -> IsPart vu hi -> r x lo hi H Q →
   ∃ T id, typeLookup (.type T) "__getitem__" = pure (some (.builtin id)) /\ s.TypeIs v T /\ wpAny Q.k X.A (getItem v (.ref sl)) (EP X pins σ Q) X.xe s
def tSl (r : V -> Option Int -> Option Int -> Hp -> VK -> Prop) (te : TE) (tl th : TO) : TE := fun σ H Q => te σ H fun x H1 => tl σ H1 fun l H2 => th σ H2 fun u H3 => r x l u H3 Q
theorem OV {r : V -> Option Int -> Option Int -> Hp -> VK -> Prop} (hr : SlR X r) (he : PE X e te) (hl : PO X lo tl) (hu : PO X hi th) : PE X (.Subscript e (.Slice lo hi none p2) pos) (tSl r te tl th) := by
 intro pins s σ H Q I h
 refine Subscript_ (gM (he pins s σ H _ I h) fun v s1 zz => ?_)
 obtain ⟨x, H1, I1, r1, q1⟩ := zz
 refine wpAny_Slice (gM (hl pins s1 σ H1 _ I1 q1) fun vl s2 ⟨l, H2, I2, pl, q2⟩ => gM (hu pins s2 σ H2 _ I2 q2) fun vu s3 zz => ?_)
 obtain ⟨u, H3, I3, pu, q3⟩ := zz
 rw [evalPart_none]
 refine at5 ?_
 have I4 : Inv X pins σ H3 { s3 with heap := s3.heap.push { cls := .type "slice", data := .fields #[vl, vu, .none] } } := I3.kept (t' := s3.toks) fun b ob q => atu _ q
 obtain ⟨T, id, hT, ht, hg⟩ := hr pins { s3 with heap := s3.heap.push { cls := .type "slice", data := .fields #[vl, vu, .none] } } σ H3 x v vl vu l u s3.heap.objs.size Q I4 r1 (Heap.IsSliceOf.new ..) pl pu q3
 show wpAny Q.k X.A (subscriptTail e (.Slice lo hi none p2) v (.ref s3.heap.objs.size)) (EP X pins σ Q) X.xe { s3 with heap := s3.heap.push { cls := .type "slice", data := .fields #[vl, vu, .none] } }
 exact tail_any (ops := [.ref s3.heap.objs.size, v]) ht hT hg (by with_unfolding_all rfl)
def Xy (xs : List V) (lo hi : Option Int) : List V := (xs.drop (HT.DS xs.length 0 lo)).take (HT.DS xs.length xs.length hi - HT.DS xs.length 0 lo)
theorem OW (xs : List V) (lo hi : Option Int) : (Xy xs lo hi).length <= xs.length := by
 unfold Xy
 rw [at9, List.length_drop]
 omega
def xQ (n : Nat) (i : Int) : Option Nat := if 0 <= i then (if i < n then some i.toNat else none) else if -(n : Int) <= i then some (i + n).toNat else none
variable {α : Type}
def yW (xs : List α) (i : Int) : Option α := (xQ xs.length i).bind fun j => xs[j]?
variable {n : Nat}
theorem Bp {i : Int} {j : Nat} (h : xQ n i = some j) : seqIndex? i n = some j /\ j < n /\ -(n : Int) <= i /\ i < n := by
 unfold xQ at h
 by_cases h0 : 0 <= i
 . rw [atb h0] at h
   by_cases h1 : i < n
   . rw [atb h1] at h
     have e : i.toNat = j := atX h
     exact ⟨by rw [seqIndex_of h0 h1, e], by omega, by omega, h1⟩
   . rw [as5 h1] at h; cases h
 . rw [as5 h0] at h
   by_cases h1 : -(n : Int) <= i
   . rw [atb h1] at h
     have e : (i + n).toNat = j := atX h
     exact ⟨by rw [seqIndex_neg Q.a h1, e], by omega, h1, by omega⟩
   . rw [as5 h1] at h; cases h
theorem Le {xs : List α} {i : Int} {v : α} (h : yW xs i = some v) : ∃ j, seqIndex? i xs.length = some j /\ xs[j]? = some v /\ j < xs.length /\ -(xs.length : Int) <= i /\ i < xs.length := by
 unfold yW at h
 cases e : xQ xs.length i with
 | none => rw [e] at h; cases h
 | some j =>
   rw [e] at h
   obtain ⟨h1, h2, h3, h4⟩ := Bp e
   exact ⟨j, h1, h, h2, h3, h4⟩
theorem b6 {xs : List α} {j : Nat} {v : α} (h : xs[j]? = some v) : yW xs (j : Int) = some v := by
 have hj : j < xs.length := (atM.mp h).1
 have e : xQ xs.length (j : Int) = some j := by
   unfold xQ
   rw [atb Q.a, atb Q.a]; simp
 unfold yW; rw [e]; exact h
def Bq (b : Expr) : Prop := ∀ o i, subscripted b false o i = operate [o, i] (getItem o i)
def IxR (X : Cx) (r : R2) : Prop :=
 ∀ (value slice : Expr) (pins : Q.o) (s : Shared) (σ : St) (H : Hp) (x y : V) (v u : Value) (Q : VK), Inv X pins σ H s -> RelV x v -> RelV y u -> r x y H Q →
   subscripted slice false v u = operate [v, u] (getItem v u) -> wpAny Q.k X.A (subscriptTail value slice v u) (EP X pins σ Q) X.xe s
def MtR (X : Cx) (id : String) (r : V -> List V -> Hp -> VK -> Prop) : Prop :=
 ∀ (pins : Q.o) (s : Shared) (σ : St) (H : Hp) (x : V) (xs : List V) (v : Value) (us : Q.q) (Q : VK), Inv X pins σ H s -> RelV x v -> Vals xs us -> r x xs H Q →
   wpAny Q.k X.A (call (.builtin id) (v :: us)) (EP X pins σ Q) X.xe s
section
variable {a b : Expr} {ta tb : TE}
theorem OX {r : R2} (hr : IxR X r) (ha : PE X a ta) (hb : PE X b tb) (hs : Bq b) : PE X (.Subscript a b pos) (tOp r ta tb) := by
 intro pins s σ H Q I h
 exact Subscript_ (ahM ha hb I h fun v u s2 x y H2 I2 rx ry q => hr a b pins s2 σ H2 x y v u Q I2 rx ry q (hs _ _))
def aok (K : Q.l) : R2 := fun x y H Q => ∃ p xs i v, x = .ref p /\ y = .int i /\ vN K H p xs /\ yW xs i = some v /\ Q v H
def aol (K : Q.l) : R2 := fun x y H Q => ∃ p xs i v, x = .ref p /\ y = .int i /\ Fq K H p xs /\ yW xs i = some v /\ Q v H
def aom : R2 := fun x y H Q => ∃ z i c, x = .str z /\ y = .int i /\ z.length <= sizeLine /\ yW z.cps.toList i = some c /\ Q (.str ⟨#[c]⟩) H
theorem VJ : IxR X (aok X.K) := by
 intro value slice pins s σ H x y v u Q I rx ry h hs
 obtain ⟨p, xs, i, z, rfl, rfl, hq, he, q⟩ := h
 cases rx
 obtain ⟨t, rfl⟩ := ry
 obtain ⟨its, r, pl, hz⟩ := I.list hq
 obtain ⟨j, h1, h2, h3, h4, h5⟩ := Le he
 obtain ⟨w, ew, rw'⟩ := r.get h2
 have hl := r.length
 have hn := DN
 have fin : EP X pins σ Q w s := ⟨z, H, I, rw', q⟩
 by_cases h0 : 0 <= i
 . have hj : i.toNat = j := by
     rw [seqIndex_of h0 h5] at h1
     exact atX h1
   exact item_listR pl.isList h0 Q.a (by rw [hj]; simpa using ew) fin hs
 . have hj : (i + (its.toArray.size : Int)).toNat = j := by
     rw [seqIndex_neg Q.a h4] at h1
     rw [atN, ← hl]
     exact atX h1
   exact subscriptTail_builtinR (x := w) pl.isList.typeIs slot_list_getitem.lookup
     (wpAny_getItem_list_neg (Q := fun r s' => r = w /\ EP X pins σ Q r s') pl.isList Q.a (by rw [List.size_toArray] <;> omega) Q.a (by rw [hj]; simpa using ew) ⟨rfl, fin⟩) hs
theorem aaz : IxR X (aol X.K) := by
 intro value slice pins s σ H x y v u Q I rx ry h hs
 obtain ⟨p, xs, i, z, rfl, rfl, hq, he, q⟩ := h
 cases rx
 obtain ⟨t, rfl⟩ := ry
 obtain ⟨its, r, pl, hz⟩ := I.tuple hq
 obtain ⟨j, h1, h2, h3, h4, h5⟩ := Le he
 obtain ⟨w, ew, rw'⟩ := r.get h2
 have hl := r.length
 have hn := DN
 have fin : EP X pins σ Q w s := ⟨z, H, I, rw', q⟩
 exact subscriptTail_builtinR (x := w) pl.typeIs slot_tuple_getitem.lookup
   (getItem_tuple (j := j) (Q := fun r s' => r = w /\ EP X pins σ Q r s') pl Q.a Q.a (by rw [List.size_toArray, ← hl]; exact h1) (by simpa using ew) ⟨rfl, fin⟩) hs
theorem ah2 : IxR X aom := by
 intro value slice pins s σ H x y v u Q I rx ry h hs
 obtain ⟨z, i, c, rfl, rfl, hz, he, q⟩ := h
 obtain ⟨t, rfl⟩ := rx
 obtain ⟨t', rfl⟩ := ry
 obtain ⟨j, h1, h2, h3, h4, h5⟩ := Le he
 have hl : z.cps.toList.length = z.length := by simp [Str.length]
 rw [hl] at h1 h4 h5
 have hn := DN
 exact tail_any (typeIs_str s z t) slot_str_getitem.lookup (getItem_str (c := c) (by
   have e1 : decide (i < -(2 ^ 63 : Int)) = false := atn Q.a
   have e2 : decide (i ≥ 2 ^ 63) = false := atn Q.a
   rw [e1, e2, Bool.or_false]) (by rw [h1]; simpa using h2) ⟨.str ⟨#[c]⟩, H, I.tok _, ⟨_, rfl⟩, q⟩) hs
theorem RD (its : Q.q) (n j : Nat) (u : Value) : Obj.mapSeq (·.setIfInBounds j u) { cls := .type "list", data := .seq its.toArray n } = { cls := .type "list", data := .seq (its.set j u).toArray n } := by
 simp [Obj.mapSeq]
theorem Inv.lst {pins : Q.o} {σ : St} {H : Hp} {s : Shared} {p : Addr} {xs : List V} (I : Q.m) (h : H p = some (.lst xs)) :
   ∃ (its : Q.q) (n : Nat), Vals xs its /\ s.heap.get? p = some { cls := .type "list", data := .seq its.toArray n } /\ xs.length <= sizeLine := by
 obtain ⟨z, its, n, r, e⟩ := I.gS p _ h
 exact ⟨its, n, r, e, z⟩
theorem Inv.ah3 {pins : Q.o} {σ : St} {H : Hp} {s : Shared} {p : Addr} {xs ys : List V} {its its' : Q.q} {n' : Nat} {f : Obj -> Obj} (I : Q.m) (h : H p = some (.lst xs))
   (ho : s.heap.get? p = some { cls := .type "list", data := .seq its.toArray n }) (hf : f { cls := .type "list", data := .seq its.toArray n } = { cls := .type "list", data := .seq its'.toArray n' }) (r : Vals ys its') (hz : ys.length <= sizeLine) (t : Nat) :
   Inv X pins σ (upd H p (.lst ys)) { s with heap := s.heap.update p f, toks := t } := by
 have e : (s.heap.update p f).get? p = some { cls := .type "list", data := .seq its'.toArray n' } := by
   rw [Heap.get?_update_self f ho (by rw [hf] <;> rfl), hf]
 refine I.write (x := p) (e := p) (by rw [h]; trivial) (.inl rfl) (fun b u hb q => (Heap.get?_update_other _ _ (auG hb)).trans q) ⟨_, e⟩ ?_
 exact ⟨hz, its', n', r, e⟩
def alo : V -> V -> V -> Hp -> (Hp -> Prop) -> Prop := fun o i v H Q => ∃ p xs k j, o = .ref p /\ i = .int k /\ H p = some (.lst xs) /\ xQ xs.length k = some j /\ Q (upd H p (.lst (xs.set j v)))
theorem set_list : ak2 X alo := by
 intro pins s σ H o i v ov iv u Q I ro ri rv h
 obtain ⟨p, xs, k, j, rfl, rfl, hp, hj, q⟩ := h
 cases ro
 obtain ⟨t, rfl⟩ := ri
 obtain ⟨its, n, r, ho, hz⟩ := I.lst hp
 obtain ⟨h1, h2, h3, h4⟩ := Bp hj
 have hl := r.length
 have hn := DN
 have I' : Inv X pins σ (upd H p (.lst (xs.set j v))) { s with heap := s.heap.update p (Obj.mapSeq (·.setIfInBounds j u)) } :=
   I.ah3 hp ho (RD its n j u) (r.set rv j) (by rw [atz]; exact hz) s.toks
 by_cases h0 : 0 <= k
 . have hk : k.toNat = j := by
     rw [seqIndex_of h0 h4] at h1
     exact atX h1
   exact PySem.W.ki_setAt ho h0 Q.a (by rw [atN, ← hl]; exact h4) (by rw [hk]; exact ⟨_, I', q⟩)
 . have hk : (k + (its.toArray.size : Int)).toNat = j := by
     rw [seqIndex_neg Q.a h3] at h1
     rw [atN, ← hl]
     exact atX h1
   exact PySem.W.ki_setBack ho Q.a (by rw [atN, ← hl]; exact h3) Q.a (by rw [hk]; exact ⟨_, I', q⟩)
theorem Lf (lo hi : Option Int) (n : Nat) : (sliceBounds lo hi none n).1 = ((HT.DS n 0 lo : Nat) : Int) /\ (sliceBounds lo hi none n).2.1 = ((HT.DS n n hi : Nat) : Int) /\ (sliceBounds lo hi none n).2.2 = 1 := by
 refine ⟨?_, ?_, rfl⟩
 . cases lo with
   | none => simp [sliceBounds, HT.DS]
   | some i =>
     simp only [sliceBounds, HT.DS, Option.getD_none, show (1 : Int) > 0 by decide, if_true]
     by_cases h : i < 0
     . simp only [h, if_true] <;> omega
     . simp only [h, if_false] <;> omega
 . cases hi with
   | none => simp [sliceBounds, HT.DS]
   | some i =>
     simp only [sliceBounds, HT.DS, Option.getD_none, show (1 : Int) > 0 by decide, if_true]
     by_cases h : i < 0
     . simp only [h, if_true] <;> omega
     . simp only [h, if_false] <;> omega
theorem J5 (its : Q.q) (lo hi : Option Int) : slicePick its.toArray lo hi none = ((its.drop (HT.DS its.length 0 lo)).take (HT.DS its.length its.length hi - HT.DS its.length 0 lo)).toArray := by
 obtain ⟨h1, h2, h3⟩ := Lf lo hi its.toArray.size
 unfold slicePick
 rw [h1, h2, h3]
 simp only [sliceRange_one, pick_run, atN] <;> rfl
def aon (K : Q.l) : V -> Option Int -> Option Int -> Hp -> VK -> Prop := fun x lo hi H Q => ∃ a xs, x = .ref a /\ vN K H a xs /\ ∀ p, H p = none -> Q (.ref p) (upd H p (.lst (Xy xs lo hi)))
theorem adP : SlR X (aon X.K) := by
 intro pins s σ H x v vl vu lo hi sl Q I rx hs pl pu h
 obtain ⟨a, xs, rfl, hx, q⟩ := h
 cases rx
 obtain ⟨its, r, ht, hz⟩ := I.list hx
 have hlen := r.length
 refine ⟨"list", _, slot_list_getitem.lookup, ht.isList.typeIs, ?_⟩
 refine wpAny_getItem_list_slice ht.isList hs pl pu .none Q.r ?_ (by rw [atN] <;> omega)
 rw [J5, ← hlen]
 refine ⟨.ref s.heap.objs.size, _, I.laid (t' := s.toks) (o := .lst (Xy xs lo hi)) (fun b ob q => atu _ q) (atq _) ?_, rfl, q _ (I.gS.fresh (atq _))⟩
 exact ⟨ath (OW xs lo hi) hz, _, 0, (r.drop (HT.DS xs.length 0 lo)).take (HT.DS xs.length xs.length hi - HT.DS xs.length 0 lo), at4 _ rfl⟩
def yX : V -> Bool
 | .non => true
 | .bl _ => true
 | .int _ => true
 | .str _ => true
 | _ => false
def eqV : V -> V -> Bool
 | .non, .non => true
 | .bl a, .bl b => a == b
 | .bl a, .int b => (if a then 1 else 0) == b
 | .int a, .bl b => a == (if b then 1 else 0)
 | .int a, .int b => a == b
 | .str a, .str b => a == b
 | _, _ => false
theorem ah4 {A : Around} {s : Shared} {y x : V} {u v : Value} (ry : RelV y u) (rx : RelV x v) (fy : yX y = true) (fx : yX x = true) : SeqAt.EqAt A s u v (eqV y x) := by
 cases y with
 | non =>
   cases ry
   cases x with
   | non => cases rx; exact SeqAt.EqAt.same _
   | bl b => cases rx; exact SeqAt.EqAt.none_bool b
   | int b => obtain ⟨t, rfl⟩ := rx; exact SeqAt.EqAt.none_int b t
   | str b => obtain ⟨t, rfl⟩ := rx; exact SeqAt.EqAt.none_str b t
   | _ => exact absurd (show false = true from fx) atv
 | bl a =>
   cases ry
   cases x with
   | non => cases rx; exact SeqAt.EqAt.bool_none a
   | bl b => cases rx; exact SeqAt.EqAt.bool_bool a b
   | int b => obtain ⟨t, rfl⟩ := rx; exact SeqAt.EqAt.bool_int a b t
   | str b => obtain ⟨t, rfl⟩ := rx; exact SeqAt.EqAt.bool_str a b t
   | _ => exact absurd (show false = true from fx) atv
 | int a =>
   obtain ⟨t', rfl⟩ := ry
   cases x with
   | non => cases rx; exact SeqAt.EqAt.int_none a t'
   | bl b => cases rx; exact SeqAt.EqAt.int_bool a t' b
   | int b => obtain ⟨t, rfl⟩ := rx; exact SeqAt.EqAt.int_int a t' b t
   | str b => obtain ⟨t, rfl⟩ := rx; exact SeqAt.EqAt.int_str a t' b t
   | _ => exact absurd (show false = true from fx) atv
 | str a =>
   obtain ⟨t', rfl⟩ := ry
   cases x with
   | non => cases rx; exact SeqAt.EqAt.str_none a t'
   | bl b => cases rx; exact SeqAt.EqAt.str_bool a t' b
   | int b => obtain ⟨t, rfl⟩ := rx; exact SeqAt.EqAt.str_int a t' b t
   | str b => obtain ⟨t, rfl⟩ := rx; exact SeqAt.EqAt.str_str a t' b t
   | _ => exact absurd (show false = true from fx) atv
 | _ => exact absurd (show false = true from fy) atv
def RG (x : V) (u : Value) : Bool := match u with
 | .none => eqV .non x
 | .bool b => eqV (.bl b) x
 | .int i _ => eqV (.int i) x
 | .str z _ => eqV (.str z) x
 | _ => false
theorem aaB {x y : V} {u : Value} (r : RelV y u) (f : yX y = true) : RG x u = eqV y x := by
 cases y with
 | non => cases r; rfl
 | bl b => cases r; rfl
 | int i => obtain ⟨t, rfl⟩ := r; rfl
 | str z => obtain ⟨t, rfl⟩ := r; rfl
 | _ => exact absurd (show false = true from f) atv
theorem Br {x : V} : ∀ {xs : List V} {us : Q.q}, Vals xs us -> xs.all yX = true -> us.any (RG x) = xs.any fun y => eqV y x
 | _, _, .nil, _ => rfl
 | y :: xs, u :: us, .cons r t, f => by
   rw [aun, ato] at f
   rw [auo, auo, aaB r f.1, Br t f.2]
theorem v5 {A : Around} {s : Shared} {x : V} {v : Value} (rx : RelV x v) (fx : yX x = true) : ∀ {xs : List V} {us : Q.q}, Vals xs us -> xs.all yX = true -> ∀ u ∈ us, SeqAt.EqAt A s u v (RG x u)
 | _, _, .nil, _ => fun u hu => by cases hu
 | y :: xs, u :: us, .cons r t, f => fun u' hu => by
   rw [aun, ato] at f
   rcases atl.mp hu with rfl | hu
   . rw [aaB r f.1]; exact ah4 r rx f.1 fx
   . exact v5 rx fx t f.2 u' hu
def inV (x : V) (xs : List V) : Bool := xs.any fun y => eqV y x
def rIn (K : Q.l) (neg : Bool) : R2 := fun x y H Q => ∃ p xs, y = .ref p /\ (vN K H p xs \/ Fq K H p xs) /\ yX x = true /\ xs.all yX = true /\ Q (.bl (if neg then !inV x xs else inV x xs)) H
theorem xR : vY X (compareOp .In) (rIn X.K false) := by
 intro pins s σ H x y v u Q I rx ry h
 obtain ⟨p, xs, rfl, hq, fx, fs, q⟩ := h
 cases ry
 rcases hq with hq | hq
 . obtain ⟨its, r, pl, hz⟩ := I.list hq
   refine SeqAt.in_listAt (RG x) pl.isList (fun w hw => v5 rx fx r fs w (by simpa using hw)) ⟨.bl _, H, I, rfl, ?_⟩
   rw [show its.toArray.any (RG x) = its.any (RG x) by simp, Br r fs]
   exact q
 . obtain ⟨its, r, pl, hz⟩ := I.tuple hq
   refine SeqAt.in_tupleAt (RG x) pl (fun w hw => v5 rx fx r fs w (by simpa using hw)) ⟨.bl _, H, I, rfl, ?_⟩
   rw [show its.toArray.any (RG x) = its.any (RG x) by simp, Br r fs]
   exact q
theorem qb : vY X (compareOp .NotIn) (rIn X.K true) := by
 intro pins s σ H x y v u Q I rx ry h
 obtain ⟨p, xs, rfl, hq, fx, fs, q⟩ := h
 cases ry
 rcases hq with hq | hq
 . obtain ⟨its, r, pl, hz⟩ := I.list hq
   refine SeqAt.notIn_listAt (RG x) pl.isList (fun w hw => v5 rx fx r fs w (by simpa using hw)) ⟨.bl _, H, I, rfl, ?_⟩
   rw [show its.toArray.any (RG x) = its.any (RG x) by simp, Br r fs]
   exact q
 . obtain ⟨its, r, pl, hz⟩ := I.tuple hq
   refine SeqAt.notIn_tupleAt (RG x) pl (fun w hw => v5 rx fx r fs w (by simpa using hw)) ⟨.bl _, H, I, rfl, ?_⟩
   rw [show its.toArray.any (RG x) = its.any (RG x) by simp, Br r fs]
   exact q
theorem Lg : vA X (.builtin "len") (fun xs H Q => ∃ p ys, xs = [.ref p] /\ (vN X.K H p ys \/ Fq X.K H p ys) /\ Q (.int ys.length) H) := by
 intro pins s σ H xs us Q I r h
 obtain ⟨p, ys, rfl, hq, q⟩ := h
 obtain ⟨u, rfl, rx⟩ := vals1 r
 cases rx
 have hn := DN
 rcases hq with hq | hq
 . obtain ⟨its, r', pl, hz⟩ := I.list hq
   have hlen := r'.length
   exact Calls.call_len_list pl.isList (by simp only [atN] <;> omega) ⟨.int ys.length, H, I.tok _, ⟨s.toks + 1, by rw [atN, hlen]⟩, q⟩
 . obtain ⟨its, r', pl, hz⟩ := I.tuple hq
   have hlen := r'.length
   exact len_tuple pl (by simp only [atN] <;> omega) ⟨.int ys.length, H, I.tok _, ⟨s.toks + 1, by rw [atN, hlen]⟩, q⟩
theorem Lh : vA X (.builtin "len") (fun xs H Q => ∃ z, xs = [.str z] /\ z.length <= sizeLine /\ Q (.int z.length) H) := by
 intro pins s σ H xs us Q I r h
 obtain ⟨z, rfl, hz, q⟩ := h
 obtain ⟨u, rfl, t, rfl⟩ := vals1 r
 have hn := DN
 exact len_str Q.a ⟨.int z.length, H, I.tok _, ⟨_, rfl⟩, q⟩
theorem Bs : vA X (.type "list") (fun xs H Q => ∃ p ys, xs = [.ref p] /\ (vN X.K H p ys \/ Fq X.K H p ys) /\ ∀ l, H l = none -> Q (.ref l) (upd H l (.lst ys))) := by
 intro pins s σ H xs us Q I r h
 obtain ⟨p, ys, rfl, hq, q⟩ := h
 obtain ⟨u, rfl, rx⟩ := vals1 r
 cases rx
 have fin : ∀ (its : Q.q), Vals ys its -> ys.length <= sizeLine -> ∀ (h' : Heap) (c' : Nat), (∀ b o', s.heap.get? b = some o' -> h'.get? b = some o') →
     h'.get? s.heap.objs.size = some { cls := .type "list", dict := none, data := .seq its.toArray c', slots := #[] } -> EP X pins σ Q (.ref s.heap.objs.size) { s with heap := h' } := fun its r' hz h' c' kp e =>
   ⟨.ref s.heap.objs.size, _, I.laid (t' := s.toks) kp (atq _) (show iV X.prog X.w _ h' _ (.lst ys) from ⟨hz, its, c', r', e⟩), rfl, q _ (I.gS.fresh (atq _))⟩
 rcases hq with hq | hq
 . obtain ⟨its, r', pl, hz⟩ := I.list hq
   have hlen := r'.length
   obtain ⟨o, ho, hc, n, hd⟩ := pl.isList
   exact call_list_seq p (.inl rfl) ho hc hd (fun h' c' kp e => fin its r' hz h' c' kp e) (by simp only [atN] <;> omega)
 . obtain ⟨its, r', pl, hz⟩ := I.tuple hq
   have hlen := r'.length
   obtain ⟨o, ho, hc, n, hd⟩ := pl
   exact call_list_seq p (.inr rfl) ho hc hd (fun h' c' kp e => fin its r' hz h' c' kp e) (by simp only [atN] <;> omega)
theorem J6 : vA X (.type "tuple") (fun xs H Q => ∃ p ys, xs = [.ref p] /\ ((vN X.K H p ys /\ ∀ l, H l = none -> Q (.ref l) (upd H l (.tup ys))) \/ (Fq X.K H p ys /\ Q (.ref p) H))) := by
 intro pins s σ H xs us Q I r h
 obtain ⟨p, ys, rfl, h⟩ := h
 obtain ⟨u, rfl, rx⟩ := vals1 r
 cases rx
 rcases h with ⟨hq, q⟩ | ⟨hq, q⟩
 . obtain ⟨its, r', pl, hz⟩ := I.list hq
   have hlen := r'.length
   refine call_tuple_list pl.isList (fun h' kp => ?_) (by simp only [atN] <;> omega)
   have I1 : Inv X pins σ H { s with heap := h' } := I.kept (t' := s.toks) kp
   have I2 : Inv X pins σ (upd H h'.objs.size (.tup ys)) { s with heap := h'.push { cls := .type "tuple", data := .seq its.toArray } } :=
     I1.laid (t' := s.toks) (fun b o e => atu _ e) (atq _) (show iV X.prog X.w _ _ _ (.tup ys) from ⟨hz, its, r', IsTup.new _ _⟩)
   exact ⟨.ref h'.objs.size, _, I2, rfl, q _ (I1.gS.fresh (atq _))⟩
 . obtain ⟨its, r', pl, hz⟩ := I.tuple hq
   exact call_tuple_same pl ⟨.ref p, H, I, rfl, q⟩
def tyV (K : Q.l) (T : String) (x : V) (H : Hp) : Prop := match x with
 | .str _ => T = "str"
 | .int _ => T = "int"
 | .ref p => (T = "list" /\ ∃ xs, vN K H p xs) \/ (T = "tuple" /\ ∃ o, K.lookup p = some o /\ o.cls = .type "tuple" /\ o.dict = none) ∨
     (T = "dict" /\ ((∃ b9, H p = some (.dK b9)) \/ ∃ b9, H p = some (.dT b9))) \/ (T = "set" /\ ∃ S n, H p = some (.set S n))
 | _ => False
theorem ah5 {pins : Q.o} {σ : St} {H : Hp} {s : Shared} {T : String} {x : V} {v : Value} (I : Q.m) (r : RelV x v) (ty : tyV X.K T x H) :
   s.TypeIs v T /\ ∀ a, v = .ref a -> ∃ ob, s.heap.get? a = some ob /\ ob.dict = none := by
 cases x with
 | str z =>
   obtain ⟨t, rfl⟩ := r
   cases (show T = "str" from ty)
   exact ⟨typeIs_str s z t, fun _ e => nomatch e⟩
 | int i =>
   obtain ⟨t, rfl⟩ := r
   cases (show T = "int" from ty)
   exact ⟨typeIs_int s i t, fun _ e => nomatch e⟩
 | ref p =>
   cases r
   rcases ty with ⟨rfl, xs, hq⟩ | ⟨rfl, o, hk, hc, hd⟩ | ⟨rfl, hk⟩ | ⟨rfl, S, n, hk⟩
   . obtain ⟨its, _, pl, _⟩ := I.list hq
     refine ⟨pl.isList.typeIs, fun a e => ?_⟩
     cases e
     obtain ⟨o, n, e, c, hd, _⟩ := pl
     exact ⟨o, e, hd⟩
   . refine ⟨⟨o, I.J1 p o hk, hc⟩, fun a e => ?_⟩
     cases e
     exact ⟨o, I.J1 _ o hk, hd⟩
   . have z : ∃ o, s.heap.get? p = some o /\ o.ExactDict := by
       rcases hk with ⟨b9, hk⟩ | ⟨b9, hk⟩
       . obtain ⟨_, _, _, _, o, _, _, e, ex, _⟩ := I.gS p _ hk
         exact ⟨o, e, ex⟩
       . obtain ⟨_, _, _, _, o, _, _, e, ex, _⟩ := I.gS p _ hk
         exact ⟨o, e, ex⟩
     obtain ⟨o, e, ex⟩ := z
     refine ⟨⟨o, e, ex.1⟩, fun a e2 => ?_⟩
     cases e2
     exact ⟨o, e, ex.2.1⟩
   . obtain ⟨o, _, _, _, e, ex, _⟩ := I.gS p _ hk
     refine ⟨⟨o, e, ex.1⟩, fun a e2 => ?_⟩
     cases e2
     exact ⟨o, e, ex.2.1⟩
 | _ => exact False.elim ty
def tBM (K : Q.l) (T : String) (r : V -> List V -> Hp -> VK -> Prop) (to : TE) (t : TA) : TE := fun σ H Q => to σ H fun x H1 => tyV K T x H1 /\ t σ H1 fun xs H2 => r x xs H2 Q
variable {o : Expr} {es : List Expr} {to : TE} {t : TA} {name : Str} {apos yN : Pos} {T id : String} {r : V -> List V -> Hp -> VK -> Prop}
theorem aaC (pa : PlainAttrs T) (slot : Slot T name id) (hty : typeOf (.builtin id) = pure (.type "method_descriptor")) (hm : MtR X id r) (ho : PE X o to) (ha : PA X (e :: es) t)
   (Bt : attributeBase o name X.env (eval o X.env) = eval o X.env := by rfl)
   (Li : ((backTo yN (starEach (e :: es) X.env)).all (fun x => !x.1) && (backToKw yN (keywordEach [] X.env)).all (fun x => x.1.isSome)
     && decide ((e :: es).length + ([] : List Keyword).length + (if ([] : List Keyword).isEmpty then 0 else 1) < 30)) = true := by rfl)
   (hline : (apos.endLine == yN.line) = true := by rfl) (hs : Q.R := by rfl) (ah6 : (backTo yN (starEach es X.env)).any (·.1) = false := by rfl) :
   PE X (.Call (.Attribute o name apos) (e :: es) [] yN) (tBM X.K T r to t) := by
 intro pins s σ H Q I h
 refine wpAny_Call_method_late Bt Li hline rfl (gM (ho pins s σ H _ I h) fun v s1 zz => ?_)
 obtain ⟨x, H1, I1, r1, ty, q1⟩ := zz
 obtain ⟨h1, h2⟩ := ah5 I1 r1 ty
 refine ⟨T, id, pa, slot, hty, h1, h2, ?_⟩
 have hA := ha yN pins s1 σ H1 _ I1 q1
 rw [hs] at hA ⊢
 refine Calls.callWith_builtin (by show (false || (backTo yN (starEach es X.env)).any (·.1)) = false; rw [ah6] <;> rfl) (Calls.evalArgs_plain ?_)
 exact gM hA fun us s2 ⟨vs, H2, I2, r2, q2⟩ => hm pins s2 σ H2 x vs v us Q I2 r1 r2 q2
end
def MtM (X : Cx) (id : String) (r : V -> List V -> Hp -> VK -> Prop) : Prop :=
 ∀ (pins : Q.o) (s : Shared) (σ : St) (H : Hp) (x : V) (xs : List V) (v : Value) (us : Q.q) (Q : VK), Inv X pins σ H s -> RelV x v -> Vals xs us -> r x xs H Q →
   wpAny Q.k X.A (call (.builtin id) (v :: us)) (EP X pins σ Q) X.xe s
variable {x : V}
theorem Vals.one {us : Q.q} (h : Vals [x] us) : ∃ u, us = [u] /\ RelV x u := by
 cases h with
 | cons r h => cases h; exact ⟨_, rfl, r⟩
theorem Vals.two {y : V} {us : Q.q} (h : Vals [x, y] us) : ∃ u v, us = [u, v] /\ RelV x u /\ RelV y v := by
 cases h with
 | cons r h => cases h with
   | cons q h => cases h; exact ⟨_, _, rfl, r, q⟩
theorem Vals.rep {xs : List V} {us : Q.q} (h : Vals xs us) : ∀ k : Nat, Vals (List.replicate k xs).flatten (List.replicate k us).flatten
 | 0 => .nil
 | k + 1 => by
   rw [aut, aut, auM, auM]
   exact Vals.append h (Vals.rep h k)
theorem foldl_rep (its : Q.q) : ∀ (k : Nat) (acc : Q.q),
   List.foldl (fun x1 x2 => x1 ++ x2) acc.toArray (List.replicate k its.toArray) = (acc ++ (List.replicate k its).flatten).toArray
 | 0, acc => by simp
 | k + 1, acc => by
   have e : acc.toArray ++ its.toArray = (acc ++ its).toArray := by simp
   have e2 : (acc ++ its) ++ (List.replicate k its).flatten = acc ++ (List.replicate (k + 1) its).flatten := by
     rw [aut, auM, atc]
   rw [← e2, ← foldl_rep its k (acc ++ its), ← e, aut, List.foldl_cons]
variable {pins : Q.o} {σ : St} {H : Hp} {s : Shared} {l : Addr} {xs ys : List V}
theorem Inv.alp {its its' : Q.q} {f : Array Value -> Array Value} {t' : Nat} (I : Q.m) (hH : H l = some (.lst xs))
   (e : s.heap.get? l = some { cls := .type "list", data := .seq its.toArray n }) (hf : f its.toArray = its'.toArray) (hv : Vals ys its') (hz : ys.length <= sizeLine) :
   Inv X pins σ (upd H l (.lst ys)) { s with heap := s.heap.update l (Obj.mapSeq f), toks := t' } := by
 have q := PySem.IsL.update e f
 rw [hf] at q
 refine I.write (x := l) (e := l) (by rw [hH]; exact trivial) (.inl rfl) (fun b' u hb hu => (Heap.get?_update_other s.heap (Obj.mapSeq f) (auG hb)).trans hu) ⟨_, q⟩ ?_
 exact ⟨hz, its', _, hv, q⟩
theorem Inv.alq {its : Q.q} {t' : Nat} (I : Q.m) (hv : Vals ys its) (hz : ys.length <= sizeLine) :
   Inv X pins σ (upd H s.heap.objs.size (.lst ys)) { s with heap := s.heap.push { cls := .type "list", data := .seq its.toArray }, toks := t' } :=
 I.laid (fun _ _ q => atu _ q) (atq _) ⟨hz, its, 0, hv, at4 _ rfl⟩
theorem Inv.fresh (I : Q.m) : H s.heap.objs.size = none := I.gS.fresh (atq _)
theorem Inv.alr (I : Q.m) (hH : H l = some (.lst xs)) : xs.length <= sizeLine /\ ∃ (its : Q.q) (n : Nat), Vals xs its /\ xs.length = its.length /\ s.heap.get? l = some { cls := .type "list", data := .seq its.toArray n } := by
 obtain ⟨z, its, n, r, e⟩ := I.gS l _ hH
 exact ⟨z, its, n, r, r.length, e⟩
theorem aaD (h : n <= sizeLine) : Builtin.List.listTooLong n = false := by
 unfold Builtin.List.listTooLong
 exact atn Q.a
def adQ : V -> List V -> Hp -> VK -> Prop := fun x vs H Q => ∃ l xs y, x = .ref l /\ vs = [y] /\ H l = some (.lst xs) /\ xs.length < sizeLine /\ Q .non (upd H l (.lst (xs ++ [y])))
theorem DT : MtM X "list.append" adQ := by
 intro pins s σ H x vs v us Q I rx rv h
 obtain ⟨l, xs, y, rfl, rfl, hH, hz, q⟩ := h
 cases rx
 obtain ⟨u, rfl, ru⟩ := rv.one
 obtain ⟨z, its, n, r, hl, e⟩ := I.alr hH
 refine call_meets F.slot_list_append ⟨_, e, rfl⟩ F.entry_list_append (F.args_list_append_2 _ _) (PySem.list_append l its.toArray n u (by rw [atN]; omega)) ⟨e, ?_⟩
 refine ⟨.non, _, I.alp (its' := its ++ [u]) hH e Q.r (r.append (.cons ru .nil)) ?_, rfl, q⟩
 rw [ats, List.length_singleton]
 omega
theorem len_rep (xs : List α) (k : Nat) : (List.replicate k xs).flatten.length = k * xs.length := by
 induction k with
 | zero => simp
 | succ k ih => rw [aut, auM, ats, ih, Nat.succ_mul, Nat.add_comm]
end L2
namespace Att
open PySem PySem.W PySem.Calls PyProof.Rows
theorem F5 {P : Params} {h : Heap} : ∀ (ns : Q.e) (vs : Q.q), WellAll P h vs (ns.map WData.int) -> IntsAre vs ns := by
 intro ns
 induction ns with
 | nil =>
   intro vs w
   rw [List.map_nil] at w
   cases w
   exact .nil
 | cons n ns ih =>
   intro vs w
   rw [List.map_cons] at w
   cases w with
   | cons a b =>
     cases a
     exact .cons _ _ (ih _ b)
theorem Xz {l : OpenLaw} {n : Nat} (hn : l.most = some n) {P : Params} {h : Heap} {args : List WData} {vals : Q.q}
   (adR : l.row.toRowW.claim.pre args = true) (hwl : WellAll P h vals args) :
   ∃ a vs ns, vals = [Value.ref a] /\ args = [WData.list (ns.map WData.int)] /\ h.get? a = some { cls := .type "list", data := .seq vs.toArray } /\ IntsAre vs ns /\ ns.length <= n := by
 have Hu : WShape.hasAll [] args [.list .int] = true := (pre_splitW adR).1
 have hc : l.pre.holds [] { args := args } = true := (pre_splitW adR).2
 obtain ⟨d, r, rfl, h1, h2⟩ := hasAllW_cons Hu
 obtain rfl := hasAllW_nil h2
 obtain ⟨xs, rfl, h3⟩ := hasW_list h1
 obtain ⟨ns, rfl⟩ := items_int h3
 have hlen : ns.length <= n := by
   unfold OpenLaw.pre at hc
   have h4 : (WTm.not (.lt (.lit (.int (n : Int))) (.len (.arg 0)))).holds [] { args := [.list (ns.map .int)] } = true := by
     have h4 := (holds_andW hc).1
     rw [hn] at h4
     exact h4
   have h5 := condW_of h4 (w_not (w_lt w_lit (w_len_list (w_arg rfl))))
   rw [List.length_map] at h5
   refine Nat.le_of_not_lt fun q => ?_
   have q' : (n : Int) < ((ns.length : Nat) : Int) := by omega
   first
     | (rw [decide_eq_true q'] at h5; exact absurd h5 (by decide))
     | (simp at h5; omega)
 cases hwl with
 | cons w1 w2 =>
   cases w2
   cases w1 with
   | list ho XA => exact ⟨_, _, ns, rfl, rfl, ho, F5 ns _ XA, hlen⟩
theorem XC (l : OpenLaw) (args : List WData) : l.row.toRowW.claim.post args (.bool true) args = true :=
 postW_of (r := l.row.toRowW) (X := (true == true))
   (show WShape.has [] (.bool true) .bool = true by first | rfl | decide | simp [WShape.has, WShape.arms, WShape.armsAll])
   (show (WTm.eq .res (.lit (.bool true))).value [] { args := args, res := some (.bool true), after := args } = some (.bool (true == true)) from w_eq_bool (w_res rfl) w_lit) rfl
theorem OY {l : OpenLaw} {n : Nat} {q : Program} {loose : Q.h} {XP : Q.B -> Heap -> Prop} {YP : World -> Heap -> Prop} {d : DefRec}
   (hn : l.most = some n) (hdf : d.params.defaults = [])
   (call : ∀ (w : World) (s₀ s₁ : Shared) (mg mb : Q.B) (fa : Addr) (o : Obj) (pm cd doc : Value) (a : Addr) (vs : Q.q) (ns : Q.e),
     Ground q loose [] XP w s₀ mg mb s₁.heap -> YP w s₁.heap →
     s₁.heap.get? fa = some o -> o.data = .func (docDef d.name d.params d.body d.scope pm cd doc) -> s₁.heap.CodeRec cd d.name -> mg d.name = some (.ref fa) →
     s₁.heap.get? a = some { cls := .type "list", data := .seq vs.toArray } -> IntsAre vs ns -> ns.length <= n -> s₁.gens = #[] →
     codeAny (model l.prog w) callerA (.call (.ref fa) ⟨[.ref a], []⟩) Q.bi s₁) :
   WalkO q loose XP YP l.row.toRowW d [] (fun f vs => PySem.call f vs) := by
 intro w s₀ s₁ mg mb G Y fa o pm cd doc dV kV ho hd rJ hD hmg hg args vals as adR hlay hrd hwl hlo
 obtain rfl : dV = .none := Dflts.none hD hdf
 obtain rfl : kV = .none := Dflts.noKw hD
 obtain ⟨a, vs, ns, rfl, rfl, ah7, hints, hlen⟩ := Xz hn adR hwl
 refine enter_call (codeAny_mono (call w s₀ s₁ mg mb fa o pm cd doc a vs ns G Y ho (fd_plain hd) rJ hmg ah7 hints hlen hg) fun r s' hq => ?_)
 obtain ⟨rfl, h2, h3, h4⟩ := hq
 exact ⟨.inl ⟨.bool true, .bool true, [], rfl, fun _ => rfl, .bool true, XC l _, fun _ => ⟨List.Pairwise.nil, fun _ hm => (nomatch hm)⟩⟩, h2, h3, h4⟩
def ledger (h : Heap) (L d : Addr) : List (Addr × Obj) := (List.range h.objs.size).filterMap fun a => if a = L \/ a = d then none else (h.get? a).map fun o => (a, o)
end Att
namespace L2
open PySem PySem.Spec PyProof.Rows
theorem Kv : ∀ {vs : Q.q} {ns : Q.e}, IntsAre vs ns -> Vals (ns.map V.int) vs
 | _, _, .nil => .nil
 | _, _, .cons n t h => .cons ⟨t, rfl⟩ (Kv h)
def Only (H : Hp) : Prop := ∀ b, H b = none \/ ∃ o xs, H b = some (.iU o (.lst xs))
variable {P : Program} {w : World} {a : Addr} {x : Str}
theorem aaE {K : Q.l} {mg mb : Q.B} {CX : ZR} {k : Nat} {fa : Addr} {fd : FuncData} {sp : Sp} {s₁ : Shared} {vs : Q.q} {ns : Q.e}
   (KX : K.In s₁.heap) (hns : s₁.heap.Ns mainGlobals mg) (hb : s₁.heap.Ns builtinsNs mb) (hbb : ∀ x : Str, x ≠ "__name__" -> mb x = bootBuiltins x) (aop : s₁.heap.NoLimit) (hg : s₁.gens = #[])
   (ha : s₁.heap.get? a = some { cls := .type "list", data := .seq vs.toArray }) (hi : IntsAre vs ns) (hl : ns.length <= sizeLine) (hr : jH k callerA)
   (F : ∀ base : Heap, K.In base -> base.Ns mainGlobals mg -> iy P w K mg base CX k fa fd [x] sp) (alv : ∀ (s : Shared) (u : Value), BindsTo s fd ⟨[u], []⟩ [(x, u)])
   (J2 : ∀ H : Hp, Only H -> vN K H a (ns.map V.int) -> sp [.ref a] H (fun v _ => v = .bl true) fun _ _ _ => False)
   (hCX : ∀ H e s', CX [] H s₁ (fun _ _ _ => False) e s' -> False) :
   codeAny (model P w) callerA (.call (.ref fa) ⟨[.ref a], []⟩) Q.bi s₁ := by
 have rv := Kv hi
 have aor := hi.length
 have core : ∀ H : Hp, Only H -> vN K H a (ns.map V.int) -> xN P w H s₁.heap -> (∀ b, H b ≠ none -> b = a) -> (H a ≠ none -> K.lookup a = none) →
     codeAny (model P w) callerA (.call (.ref fa) ⟨[.ref a], []⟩) Q.bi s₁ := by
   intro H hO hS gS hA hK
   have VL : ∀ {b : Addr} {o : Obj}, s₁.heap.get? b = some o -> H b = none -> (K8 s₁.heap H).get? b = some o := fun e n => aac e n
   have noA : ∀ {b : Addr} {o : Obj} {es : Array DictEntry} {ep : Nat}, s₁.heap.get? b = some o -> o.data = .dict es ep -> H b = none := fun {b o es ep} e d => by
     cases q : H b with
     | none => rfl
     | some u =>
       have e' : b = a := hA b (by rw [q]; simp)
       subst e'
       rw [ha] at e; cases e
       have d' : Data.seq vs.toArray _ = Data.dict es ep := d
       cases d'
   have nsK : ∀ {b : Addr} {m : Q.B}, s₁.heap.Ns b m -> (K8 s₁.heap H).Ns b m := fun {b m} ⟨o, es, ep, e, d, r⟩ => ⟨o, es, ep, VL e (noA e d), d, r⟩
   have hKb : K.In (K8 s₁.heap H) := fun b o e => VL (KX b o e) (by
     cases q : H b with
     | none => rfl
     | some u =>
       have e' : b = a := hA b (by rw [q]; simp)
       subst e'
       rw [hK (by rw [q]; simp)] at e; cases e)
   have hM : Mod K mg (K8 s₁.heap H) := ⟨hKb, nsK hns, ⟨mb, nsK hb, hbb⟩, let ⟨mc, h1, h2⟩ := aop; ⟨mc, nsK h1, h2⟩⟩
   have e0 : RC P w K mg (K8 s₁.heap H) callerA [] s₁ H := ⟨rfl, hM, fun b o e => ady e, Nat.le_of_eq (Xk _ _), trivial, fun b hb => absurd (show b ∈ ([] : List Addr) from hb) Q.r, gS, .of_eq hg⟩
   refine au2 ((F _ hKb (nsK hns)).run callerA [] s₁ H ⟨[.ref a], []⟩ [.ref a] [.ref a] _ _ hr e0 (alv s₁ (.ref a)) (.cons rfl .nil) (J2 H hO hS)) fun r s' h => ?_
   cases r with
   | error e => exact (hCX H e s' h).elim
   | ok fl =>
     cases fl with
     | next => exact False.elim h
     | brk => exact False.elim h
     | cont => exact False.elim h
     | ret u =>
       obtain ⟨v, H', os, bare, un, aos, r', q⟩ := h
       have q' : v = .bl true := q
       subst q'
       obtain rfl : u = Value.bool true := r'
       refine ⟨rfl, OldK.of_keep fun b o e => ?_, os, bare⟩
       cases q : H b with
       | none => exact un.keep b o e q (by intro z; exact absurd (show b ∈ ([] : List Addr) from z) Q.r) Q.r
       | some u =>
         rcases hO b with z | ⟨ob, xs, z⟩
         . rw [q] at z; cases z
         . have z2 := un.lB b ob _ z
           obtain ⟨e1, _⟩ := gS b _ z
           obtain ⟨e2, _⟩ := aos b _ z2
           rw [e] at e1; cases e1
           exact e2
 cases hk : K.lookup a with
 | some o =>
   have e := KX a o hk
   rw [ha] at e
   cases e
   refine core (fun _ => none) (fun _ => .inl rfl) (.inr ⟨_, vs.toArray, _, hk, rfl, rfl, rfl, by rw [List.size_toArray, aor]; exact hl, by simpa using rv⟩) (fun b u z => by have z' : (none : Option HO) = some u := z; cases z') (fun b z => absurd rfl z) fun z => absurd rfl z
 | none =>
   refine core (fun b => if b = a then some (.iU { cls := .type "list", data := .seq vs.toArray } (.lst (ns.map V.int))) else none) (fun b => ?_) (.inl (.inr ⟨{ cls := .type "list", data := .seq vs.toArray }, atb rfl⟩)) (fun b u z => ?_) (fun b z => ?_) fun _ => hk
   . by_cases hb : b = a
     . exact .inr ⟨_, _, atb hb⟩
     . exact .inl (as5 hb)
   . by_cases hb : b = a
     . have z' := (atb hb).symm.trans z
       cases z'
       subst hb
       exact ⟨ha, by rw [as4]; exact hl, vs, _, rv, ha⟩
     . have z' := (as5 hb).symm.trans z
       cases z'
   . by_cases hb : b = a
     . exact hb
     . exact absurd (as5 hb) z
theorem adS {l : PySem.W.OpenLaw} {n k : Nat} {q : Program} {loose : Q.h} {XP : Q.B -> Heap -> Prop} {YP : World -> Heap -> Prop} {d : DefRec} {K : Params -> PySem.W.Frag} {CX : World -> ZR} {sp : World -> Sp}
   (hn : l.most = some n) (hn2 : n <= sizeLine) (hdf : d.params.defaults = []) (hr : jH k callerA)
   (hY : ∀ (w : World) (h : Heap), YP w h -> (K w.params).In h)
   (F : ∀ (w : World) (mg : Q.B) (fa : Addr) (h : Heap), (K w.params).In h -> h.Ns mainGlobals mg -> mg d.name = some (.ref fa) →
     ∃ fd : FuncData, (∀ (s : Shared) (u : Value), BindsTo s fd ⟨[u], []⟩ [(x, u)]) ∧
       ∀ base : Heap, (K w.params).In base -> base.Ns mainGlobals mg -> iy l.prog w (K w.params) mg base (CX w) k fa fd [x] (sp w))
   (J2 : ∀ (w : World) (H : Hp) (a : Addr) (ns : Q.e), ns.length <= n -> Only H -> vN (K w.params) H a (ns.map V.int) -> sp w [.ref a] H (fun v _ => v = .bl true) fun _ _ _ => False)
   (hCX : ∀ (w : World) (H : Hp) (s : Shared) (e : Value) (s' : Shared), CX w [] H s (fun _ _ _ => False) e s' -> False) :
   PySem.W.WalkO q loose XP YP l.row.toRowW d [] (fun f vs => PySem.call f vs) := by
 refine Att.OY hn hdf fun w s₀ s₁ mg mb fa o pm cd doc a vs ns G Y ho hd rJ hmg ah7 hints hlen hg => ?_
 have KX := hY w _ Y
 obtain ⟨fd, hb, hF⟩ := F w mg fa _ KX G.T.g hmg
 exact aaE KX G.T.g G.T.b G.T.builtins G.T.nolimit hg ah7 hints (ath hlen hn2) hr hF hb (fun H hO hS => J2 w H a ns hlen hO hS) fun H e s' => hCX w H s₁ e s'
def inClass (s : Stmt) (j : Nat) : Stmt := match s with
 | .ClassDef _ _ _ body _ _ _ _ _ _ _ => body.getD j (.Pass ⟨0, 0, 0, 0⟩)
 | _ => .Pass ⟨0, 0, 0, 0⟩
def Bu (s : Stmt) : Arguments := match s with
 | .FunctionDef _ a _ _ _ _ _ _ _ _ => a
 | _ => { posonlyargs := [], args := [], vararg := none, kwonlyargs := [], kw_defaults := [], kwarg := none, defaults := [] }
def dW (s : Stmt) : List Stmt := match s with
 | .FunctionDef _ _ b _ _ _ _ _ _ _ => b
 | _ => []
def az (s : Stmt) : Scope := match s with
 | .FunctionDef _ _ _ _ _ _ sc _ _ _ => sc
 | _ => { kind := .function, names := [], isGenerator := false, isCoroutine := false }
abbrev xS : ZR := fun _ _ _ _ _ _ => False
abbrev E0 : XK := fun _ _ _ => False
variable {X : Cx}
theorem OZ : Passes xS X E0 := fun _ _ _ _ _ _ _ h => h.elim
structure ow (K : Q.l) (x qual : Str) (st : Stmt) (f : Addr) (fd : FuncData) : Prop where
 ex : ∃ (oc : Value) (od : Option Addr) (kV doc pm : Value) (an : Option Addr) (lC ct : Value) (osl : Array (Option Value)),
   fd = PySem.W.fnOf x qual (Bu st) (dW st) (az st) .none kV doc pm an lC ct /\ K.lookup f = some ⟨oc, od, .func fd, osl⟩ /\ PySem.W.codeIn K lC qual = true
 kp : PySem.W.keepIn K (.ref f) = true
variable {K : Q.l} {mg : Q.B} {base : Heap}
theorem ow.ok {qual : Str} {st : Stmt} {f : Addr} {fd : FuncData} {N ps : Q.h} {k : Nat} {sp : Sp} (F : ow K x qual st f fd) (S : aZ N ps (az st)) (len : ∀ vs H Q E, sp vs H Q E -> vs.length = ps.length)
   (aay : ∀ (lC : Value) (A : Around) (outer : List Env) (s : Shared) (H : Hp) (vs : List V) (Q : VK) (E : XK), jH k (A.deeper (envOfC qual (az st) s.heap.objs.size f lC)) -> sp vs H Q E →
     ∃ t, Vx (DR xS P w K mg base N qual (az st) f lC A outer s H E).nox (dW st) t /\ t { nx := fun _ H' => Q .non H', rt := Q } (start N vs) H) : iy P w K mg base xS (k + 1) f fd ps sp := by
 obtain ⟨oc, od, kV, doc, pm, an, lC, ct, osl, rfl, lk, rJ⟩ := F.ex
 refine agO lk rJ S len fun A outer s H vs Q E hr J2 => ?_
 obtain ⟨t, h, q⟩ := aay lC A outer s H vs Q E hr J2
 exact ⟨t, h.nox, q⟩
theorem ow.binds {qual : Str} {st : Stmt} {f : Addr} {fd : FuncData} {ps : Q.h} (F : ow K x qual st f fd)
   (h : ∀ (kV doc pm : Value) (an : Option Addr) (lC ct : Value) (us : Q.q), us.length = ps.length -> bindArgs (PySem.W.fnOf x qual (Bu st) (dW st) (az st) .none kV doc pm an lC ct) ⟨us, []⟩ = pure (ps.zip us)) : Binds K fd ps [] := by
 obtain ⟨oc, od, kV, doc, pm, an, lC, ct, osl, rfl, lk, rJ⟩ := F.ex
 exact .all (h kV doc pm an lC ct)
theorem bU {qual : Str} {st : Stmt} {f : Addr} {oc : Value} {od an : Option Addr} {osl : Array (Option Value)} {kV doc pm lC ct : Value} (l : K.lookup f = some ⟨oc, od, .func (PySem.W.fnOf x qual (Bu st) (dW st) (az st) .none kV doc pm an lC ct), osl⟩)
   (c : PySem.W.codeIn K lC qual = true) (k : PySem.W.keepIn K (.ref f) = true) : ow K x qual st f (PySem.W.fnOf x qual (Bu st) (dW st) (az st) .none kV doc pm an lC ct) := ⟨⟨oc, od, kV, doc, pm, an, lC, ct, osl, rfl, l, c⟩, k⟩
theorem cS {n : Nat} (h : n <= 1000) : n < sizeLine := auX h Q.c
theorem XD {A B : Prop} (h : B) : if false = true then A else B := by
 rw [as5 atv]
 exact h
theorem XF {A B : Prop} (h : A) : if true = true then A else B := by
 rw [atb rfl]
 exact h
def aT (H H' : Hp) : Prop := ∀ b o, H b = some o -> H' b = some o
theorem aT.refl (H : Hp) : aT H H := fun _ _ h => h
variable {H : Hp}
theorem aT.trans {H1 H2 : Hp} (a : aT H H1) (b : aT H1 H2) : aT H H2 := fun c o h => b c o (a c o h)
variable {H' : Hp}
theorem aT.free (e : aT H H') {l : Addr} (h : H' l = Option.none) : H l = Option.none := by
 cases q : H l with
 | none => rfl
 | some o =>
   rw [e l o q] at h
   cases h
theorem aT.seq {xs : List V} (e : aT H H') (h : vN K H a xs) : vN K H' a xs := by
 rcases h with (h | ⟨o, h⟩) | h
 . exact .inl (.inl (e _ _ h))
 . exact .inl (.inr ⟨o, e _ _ h⟩)
 . exact .inr h
section
variable {κ : Type} [DecidableEq κ]
def zq (b9 : List (κ × V)) (k : κ) : Option V := (b9.find? fun kv => decide (kv.1 = k)).map (·.2)
def putK (b9 : List (κ × V)) (k : κ) (v : V) : List (κ × V) :=
 if (b9.any fun kv => decide (kv.1 = k)) = true then b9.map (fun kv => if kv.1 = k then (kv.1, v) else kv) else b9 ++ [(k, v)]
theorem Bv {p : κ × V} {r : List (κ × V)} {k : κ} (e : p.1 = k) : zq (p :: r) k = some p.2 := by simp [zq, auI, e]
theorem v7 {p : κ × V} {r : List (κ × V)} {k : κ} (e : ¬ p.1 = k) : zq (p :: r) k = zq r k := by simp [zq, auI, e]
theorem O1 (k : κ) : ∀ b9 : List (κ × V), (b9.any fun kv => decide (kv.1 = k)) = (zq b9 k).isSome
 | [] => rfl
 | p :: r => by
   rw [auo]
   by_cases e : p.1 = k
   . simp only [Bv e, ata e, Bool.true_or, Option.isSome_some]
   . rw [v7 e, atn e, Bool.false_or]; exact O1 k r
theorem Fx (b9 : List (κ × V)) (k : κ) (v : V) : (putK b9 k v).length <= b9.length + 1 := by
 unfold putK
 split
 . rw [as4]; omega
 . rw [ats, at8, List.length_nil]; omega
theorem Hq.DU {o : Option V} {u : Option Value} (r : Hq o u) : o.isSome = u.isSome := by
 cases o with
 | none => cases u with
   | none => rfl
   | some _ => exact (show False from r).elim
 | some _ => cases u with
   | none => exact (show False from r).elim
   | some _ => rfl
theorem KV.val {b9 : List (κ × V)} {vs : List (κ × Value)} (r : KV b9 vs) (k : κ) : Hq (zq b9 k) (valueAt vs k) := by
 unfold KV at r
 induction r with
 | nil => exact True.intro
 | @cons p q ps qs h t ih =>
   obtain ⟨h1, h2⟩ := h
   by_cases e : p.1 = k
   . have e' : q.1 = k := h1.symm.trans e
     have b : valueAt (q :: qs) k = some q.2 := by simp [valueAt, auI, e']
     rw [Bv e, b]; exact h2
   . have e' : ¬ q.1 = k := fun z => e (h1.trans z)
     have b : valueAt (q :: qs) k = valueAt qs k := by simp [valueAt, auI, e']
     rw [v7 e, b]; exact ih
theorem KV.any {b9 : List (κ × V)} {vs : List (κ × Value)} (r : KV b9 vs) (k : κ) : (b9.any fun kv => decide (kv.1 = k)) = vs.any fun kv => decide (kv.1 = k) := by
 unfold KV at r
 induction r with
 | nil => rfl
 | cons h t ih => rw [auo, auo, ih, h.1]
theorem KV.repl {b9 : List (κ × V)} {vs : List (κ × Value)} (r : KV b9 vs) (k : κ) {y : V} {u : Value} (ry : RelV y u) :
   KV (b9.map fun kv => if kv.1 = k then (kv.1, y) else kv) (vs.map fun kv => if kv.1 = k then (kv.1, u) else kv) := by
 unfold KV at r ⊢
 induction r with
 | nil => exact .nil
 | @cons p q ps qs h t ih =>
   rw [atG, atG]
   refine .cons ?_ ih
   obtain ⟨h1, h2⟩ := h
   by_cases e : p.1 = k
   . rw [atb e, atb (h1.symm.trans e)]; exact ⟨h1, ry⟩
   . rw [as5 e, as5 (fun z => e (h1.trans z))]; exact ⟨h1, h2⟩
theorem KV.put {b9 : List (κ × V)} {vs : List (κ × Value)} (r : KV b9 vs) (k : κ) {y : V} {u : Value} (ry : RelV y u) : KV (putK b9 k y) (stored vs k u) := by
 unfold putK stored
 rw [r.any k]
 by_cases e : (vs.any fun kv => decide (kv.1 = k)) = true
 . rw [atb e, atb e]; exact r.repl k ry
 . rw [as5 e, as5 e]; exact Paired.snoc r ⟨rfl, ry⟩
theorem KV.length {b9 : List (κ × V)} {vs : List (κ × Value)} (r : KV b9 vs) : b9.length = vs.length := Paired.length r
end
variable {u : Value}
theorem aaF {k : Key} (r : RelV (kV k) u) : (j8 P w).is k u = true := by
 cases k with
 | inl i => obtain ⟨t, e⟩ := (show ∃ t, u = Value.int i t from r); subst e; exact OB P w i t
 | inr x => obtain ⟨t, e⟩ := (show ∃ t, u = Value.str x t from r); subst e; exact OD P w x t
theorem Kw {P : Program} {w : World} : ∀ {ks : List Key} {us : Q.q}, Vals (ks.map kV) us -> ItemsAre (j8 P w) ks us
 | [], _, r => by rw [List.map_nil] at r; cases r; exact .nil
 | k :: ks, _, r => by
   rw [atG] at r
   cases r with
   | cons h t => exact .cons (aaF h) (Kw t)
abbrev KT (H : Hp) : List (List Key × V) -> List (List Key × Addr × Value) -> Prop := Paired fun p q => p.1 = q.1 /\ H q.2.1 = some (.tup (p.1.map kV)) /\ RelV p.2 q.2.2
variable {b9 : List (List Key × V)} {xs : List (List Key × Addr × Value)}
theorem KT.val (r : KT H b9 xs) (k : List Key) : Hq (zq b9 k) ((atKey xs k).map (·.2)) := by
 induction r with
 | nil => exact True.intro
 | @cons p q ps qs h t ih =>
   obtain ⟨h1, _, h2⟩ := h
   by_cases e : p.1 = k
   . have e' : q.1 = k := h1.symm.trans e
     have b : atKey (q :: qs) k = some q.2 := by simp [atKey, auI, e']
     rw [Bv e, b]; exact h2
   . have e' : ¬ q.1 = k := fun z => e (h1.trans z)
     have b : atKey (q :: qs) k = atKey qs k := by simp [atKey, auI, e']
     rw [v7 e, b]; exact ih
variable {y : V}
theorem KT.repl (r : KT H b9 xs) (k : List Key) (ry : RelV y u) :
   KT H (b9.map fun kv => if kv.1 = k then (kv.1, y) else kv) (xs.map (putAt k u)) := by
 induction r with
 | nil => exact .nil
 | @cons p q ps qs h t ih =>
   rw [atG, atG]
   refine .cons ?_ ih
   obtain ⟨h1, h2, h3⟩ := h
   unfold putAt
   by_cases e : p.1 = k
   . rw [atb e, atb (h1.symm.trans e)]; exact ⟨h1, h2, ry⟩
   . rw [as5 e, as5 (fun z => e (h1.trans z))]; exact ⟨h1, h2, h3⟩
theorem KT.put (r : KT H b9 xs) (k : List Key) {b : Addr} (hb : H b = some (.tup (k.map kV))) (ry : RelV y u) :
   KT H (putK b9 k y) (storedH xs k b u) := by
 have e : (b9.any fun kv => decide (kv.1 = k)) = (atKey xs k).isSome := by
   rw [O1, (r.val k).DU, Option.isSome_map]
 unfold putK storedH
 rw [e]
 by_cases q : (atKey xs k).isSome = true
 . rw [atb q, atb q]; exact r.repl k ry
 . rw [as5 q, as5 q]; exact Paired.snoc r ⟨rfl, hb, ry⟩
theorem KT.keeps (r : KT H b9 xs) (ht : ∀ b ys, H b = some (.tup ys) -> H' b = some (.tup ys)) : KT H' b9 xs :=
 Paired.ahr r fun _ _ z => ⟨z.1, ht _ _ z.2.1, z.2.2⟩
variable {h : Heap}
theorem agQ {u : HO} (ok : xN P w H h) (e : Rd H a u) : iV P w H h a u := e.ok ok
theorem agR {b9 : List (Key × V)} (ok : xN P w H h) (e : Rd H a (.dK b9)) : b9.length <= sizeLine /\ (a == sysModules) = false /\ ∃ vs, KV b9 vs /\ h.DictOf (j8 P w) a vs :=
 show iV P w H h a (.dK b9) from agQ ok e
theorem alw {b9 : List (Key × V)} (ok : xN P w H h) (e : H a = some (.dK b9)) : b9.length <= sizeLine /\ (a == sysModules) = false /\ ∃ vs, KV b9 vs /\ h.DictOf (j8 P w) a vs := agR ok (.inl e)
theorem RH {ks : List Key} (ok : xN P w H h) (e : H a = some (.tup (ks.map kV))) : (tupleKind (j8 P w)).is h ks a := by
 obtain ⟨_, its, r, o, h1, h2, n, h3⟩ := (show iV P w H h a (.tup (ks.map kV)) from ok a _ e)
 exact ⟨o, its.toArray, n, h1, h2, h3, by simpa using Kw r⟩
theorem agS (ok : xN P w H h) (e : Rd H a (.dT b9)) : b9.length <= sizeLine /\ (a == sysModules) = false ∧
   ∃ xs, KT H b9 xs /\ h.DictOfH (tupleKind (j8 P w)) a xs := by
 obtain ⟨z, y, xs, r, o, es, ep, h1, h2, h3, h4, h5⟩ := (show iV P w H h a (.dT b9) from agQ ok e)
 refine ⟨z, y, xs, r, o, es, ep, h1, h2, h3, h4, fun x hx => ?_, h5⟩
 have all : ∀ {l : List (List Key × V)} {m : List (List Key × Addr × Value)}, KT H l m -> ∀ x ∈ m, (tupleKind (j8 P w)).is h x.1 x.2.1 := by
   intro l m q
   induction q with
   | nil => intro x hx; exact nomatch hx
   | @cons p q ps qs hq t ih =>
     intro x hx
     rcases atl.mp hx with e | hx
     . subst e
       exact RH ok (by rw [← hq.1]; exact hq.2.1)
     . exact ih x hx
 exact all r x hx
theorem alx (ok : xN P w H h) (e : H a = some (.dT b9)) : b9.length <= sizeLine /\ (a == sysModules) = false ∧
   ∃ xs, KT H b9 xs /\ h.DictOfH (tupleKind (j8 P w)) a xs := agS ok (.inl e)
def aaG (H : Hp) (a : Addr) (y : V) (r : Option V) : Prop :=
 (∃ b9 k, Rd H a (.dK b9) /\ y = kV k /\ r = zq b9 k) \/ ∃ b9 k b, Rd H a (.dT b9) /\ y = .ref b /\ H b = some (.tup (k.map kV)) /\ r = zq b9 k
def aaH (H : Hp) (a : Addr) (y v : V) (H' : Hp) : Prop :=
 (∃ b9 k, H a = some (.dK b9) /\ y = kV k /\ b9.length < sizeLine /\ H' = upd H a (.dK (putK b9 k v))) ∨
 ∃ b9 k b, H a = some (.dT b9) /\ y = .ref b /\ H b = some (.tup (k.map kV)) /\ b9.length < sizeLine /\ H' = upd H a (.dT (putK b9 k v))
theorem aaG.k {b9 : List (Key × V)} {k : Key} (e : H a = some (.dK b9)) : aaG H a (kV k) (zq b9 k) := .inl ⟨b9, k, .inl e, rfl, rfl⟩
theorem aaH.k {b9 : List (Key × V)} {k : Key} {v : V} (e : H a = some (.dK b9)) (hl : b9.length < sizeLine) : aaH H a (kV k) v (upd H a (.dK (putK b9 k v))) := .inl ⟨b9, k, e, rfl, hl, rfl⟩
variable {pins : Q.o} {σ : St} {s : Shared} {v : V} {r : Value} {o : Option V} {A : Around} {E : Q.v}
theorem Inv.big (I : Q.m) : sysModules < s.heap.objs.size := by
 have h : mainGlobals < s.heap.objs.size := (I.mod.glob.keeps I.bk).lt
 exact Nat.lt_trans Q.c h
theorem aot {Q : Q.v} (hu : A.units + 1 < cLine) (I : Q.m) (g : aaG H a y o) (ry : RelV y u) (h : ∀ s', Inv X pins σ H s' -> Q (.bool o.isSome) s') :
   wpAny Q.k A (compareOp .In u (.ref a)) Q E s := by
 rcases g with ⟨b9, k, e, ey, l⟩ | ⟨b9, k, b, e, ey, eb, l⟩
 . subst ey
   obtain ⟨z, hd, vs, rel, dd⟩ := agR I.gS e
   refine wpAny_in_of (aaF ry) hd dd.mapOf ?_
   rw [← (rel.val k).DU, ← l]
   exact h _ (I.tok _)
 . subst ey
   cases (show u = Value.ref b from ry)
   obtain ⟨z, hd, xs, rel, dd⟩ := agS I.gS e
   refine wpAny_in_heap (tupleKind_room_in1 hu) (RH I.gS eb) hd dd ?_
   have q := (rel.val k).DU
   rw [Option.isSome_map] at q
   rw [← q, ← l]
   exact h _ (I.tok _)
theorem VM {h' : Heap} {t' : Nat} {ob : HO} (I : Q.m) (mu : Mut (H a)) (hs : Heap.SameBut a s.heap h') (he : ∃ q, h'.get? a = some q) (new : iV X.prog X.w (upd H a ob) h' a ob) :
   Inv X pins σ (upd H a ob) { s with heap := h', toks := t' } :=
 I.write (x := a) (e := a) mu (.inl rfl) (fun b q hb z => (hs.2 b hb).trans z) he new
theorem ah8 {h' : Heap} {b9 : List (Key × V)} {vs : List (Key × Value)} (z : b9.length <= sizeLine) (hd : (a == sysModules) = false) (rel : KV b9 vs) (dd : h'.DictOf (j8 P w) a vs) :
   iV P w H' h' a (.dK b9) := ⟨z, hd, vs, rel, dd⟩
theorem XG {Q : Unit -> Shared -> Prop} (hu : A.units + 1 < cLine) (I : Q.m) (g : aaH H a y v H') (ry : RelV y u) (rv : RelV v r) (h : ∀ s', Inv X pins σ H' s' -> Q () s') :
   wpAny Q.k A (setItem (.ref a) u r) Q E s := by
 rcases g with ⟨b9, k, e, ey, l, eH⟩ | ⟨b9, k, b, e, ey, eb, l, eH⟩
 . subst ey eH
   obtain ⟨z, hd, vs, rel, dd⟩ := alw I.gS e
   have hz : vs.length <= sizeLine := by rw [← rel.length]; exact z
   have hl : (putK b9 k v).length <= sizeLine := by have := Fx b9 k v; omega
   refine wpAny_setItem_pairs (hsz := hz) (aaF ry) dd fun h' dd' hs => h _ ?_
   have he : ∃ q, h'.get? a = some q := let ⟨q, _, _, hq, _⟩ := dd'; ⟨q, hq⟩
   exact VM I (by rw [e]; exact True.intro) hs he (ah8 hl hd (rel.put k rv) dd')
 . subst ey eH
   cases (show u = Value.ref b from ry)
   obtain ⟨z, hd, xs, rel, dd⟩ := alx I.gS e
   have hz : xs.length <= sizeLine := by rw [← Paired.length rel]; exact z
   have hl : (putK b9 k v).length <= sizeLine := by have := Fx b9 k v; omega
   refine wpAny_setItem_heap (hsz := hz) (tupleKind_room_in1 hu) (RH I.gS eb) dd fun h' dd' hs => h _ ?_
   obtain ⟨q, es, ep, hq, h2, h3, h4, _, h5⟩ := dd'
   refine VM I (by rw [e]; exact True.intro) hs ⟨q, hq⟩ ⟨hl, hd, _, (rel.put k eb rv).keeps fun c ys ec => ?_, q, es, ep, hq, h2, h3, h4, h5⟩
   rw [aP (akO ec e (fun z => nomatch z))]
   exact ec
def aou (ty td : TE) : TE := fun σ H Q => ty σ H fun y H1 => td σ H1 fun x H2 => ∃ a o, x = .ref a /\ aaG H2 a y o /\ Q (.bl o.isSome) H2
def aly (td ty tv : TE) : TS := fun D σ H => tv σ H fun v H1 => td σ H1 fun x H2 => ty σ H2 fun y H3 => ∃ a H4, x = .ref a /\ aaH H3 a y v H4 /\ D.nx σ H4
variable {o i value : Expr} {pos pos' : Pos} {td ty tv : TE}
theorem ah9 (hu : X.A.units + 1 < cLine) (hi : PE X i ty) (ho : PE X o td) : PC X .In i o (aou ty td) := by
 intro pins s σ H Q I h
 refine gM (hi pins s σ H _ I h) fun iv s1 ⟨y, H1, I1, ry, q1⟩ => gM (ho pins s1 σ H1 _ I1 q1) fun u s2 zz => ?_
 obtain ⟨x, H2, I2, rx, a, ov, ex, g, q2⟩ := zz
 subst ex
 obtain rfl : u = Value.ref a := rx
 exact aot hu I2 g ry fun s3 I3 => ⟨.bl ov.isSome, H2, I3, rfl, q2⟩
theorem adT (hu : X.A.units + 1 < cLine) (ho : PE X o td) (hi : PE X i ty) (hv : PE X value tv) (hs : swapsWith value (some (.Subscript o i pos')) pos.line X.env = pure false) :
   PS X (.Assign [.Subscript o i pos'] value pos) (aly td ty tv) := by
 intro pins s σ H D I h
 refine wpAny_Assign_Subscript (gM (hv pins s σ H _ I h) fun r s1 ⟨v, H1, I1, rv, q1⟩ => gM (ho pins s1 σ H1 _ I1 q1) fun u s2 ⟨x, H2, I2, rx, q2⟩ => gM (hi pins s2 σ H2 _ I2 q2) fun iv s3 zz => ?_) hs
 obtain ⟨y, H3, I3, ry, a, H4, ex, g, q3⟩ := zz
 subst ex
 obtain rfl : u = Value.ref a := rx
 exact XG hu I3 g ry rv fun s4 I4 => ⟨σ, H4, I4, q3⟩
theorem aaI (h : Heap) (hb : sysModules < h.objs.size) : iV P w H (h.push { cls := .type "dict", data := .dict #[] }) h.objs.size (.dK []) :=
 ⟨atx _, auR.mpr (auG (at3 hb)), [], .nil, Heap.DictOf.new h⟩
def aia : TE := fun _ H Q => ∀ p, H p = none -> Q (.ref p) (upd H p (.dK []))
theorem aaJ : PE X (.Dict [] [] pos) aia := fun pins s σ H Q I h =>
 wpAny_Dict_empty ⟨.ref s.heap.objs.size, _, I.laid (a := s.heap.objs.size) (o := .dK []) (t' := s.toks) (fun _ _ q => atu _ q) (atq _) (aaI s.heap I.big), rfl, h _ (I.gS.fresh (atq _))⟩
structure M2 (X : Cx) (o : Expr) (m : Str) (apos : Pos) (e f : Expr) (yN : Pos) : Prop where
 base : attributeBase o m X.env (eval o X.env) = eval o X.env
 few : ((backTo yN (starEach [e, f] X.env)).all (fun x => !x.1) && (backToKw yN (keywordEach [] X.env)).all (fun x => x.1.isSome)
   && decide (([e, f] : List Expr).length + ([] : List Keyword).length + (if ([] : List Keyword).isEmpty then 0 else 1) < 30)) = true
 line : (apos.endLine == yN.line) = true
 trees : backTo yN (starEach [e, f] X.env) = [(false, eval e X.env), (false, eval f X.env)]
end L2
namespace L3
open PySem PySem.Spec PyProof.Rows L2
inductive D where
 | non | bl (b : Bool) | int (i : Int) | str (x : Str)
 | tup (ds : List D) | lst (ds : List D) | ins (c : Str) (fs : List (Str × D)) | vC (b9 : Q.X)
 | dct (b9 : List (List Key × D))
 | any
 | val (v : V)
inductive T where
 | sh (d : D) | tup (ts : List T) | lst (ts : List T) | ins (c : Str) (fs : List Q.t) | vC (b9 : Q.X) | dct (b9 : List (List Key × T))
 | pin (x : Addr) (t : T)
mutual
def T.iU : T -> D
 | .sh d => d
 | .tup ts => .tup (lB ts)
 | .lst ts => .lst (lB ts)
 | .ins c fs => .ins c (yO fs)
 | .vC b9 => .vC b9
 | .dct b9 => .dct (aaK b9)
 | .pin _ t => t.iU
def T.lB : List T -> List D
 | [] => []
 | t :: ts => t.iU :: T.lB ts
def T.yO : List Q.t -> List (Str × D)
 | [] => []
 | (x, t) :: fs => (x, t.iU) :: T.yO fs
def T.aaK : List (List Key × T) -> List (List Key × D)
 | [] => []
 | (x, t) :: fs => (x, t.iU) :: T.aaK fs
end
variable (K : Q.l) (CL : Q.g)
mutual
inductive cC (Z : Hp) : D -> V -> Prop where
 | non : cC Z .non .non
 | bl (b : Bool) : cC Z (.bl b) (.bl b)
 | int (i : Int) : cC Z (.int i) (.int i)
 | str (x : Str) : cC Z (.str x) (.str x)
 | any (v : V) : cC Z .any v
 | val (v : V) : cC Z (.val v) v
 | tup {a : Addr} {vs : List V} {ds : List D} : Fq K Z a vs -> aX Z ds vs -> cC Z (.tup ds) (.ref a)
 | lst {a : Addr} {vs : List V} {ds : List D} : vN K Z a vs -> aX Z ds vs -> cC Z (.lst ds) (.ref a)
 | ins {a dx : Addr} {c : Str} {gs : List (Str × V)} {fs : List (Str × D)} : Z a = some (.ins (CL c) dx gs) -> yZ Z fs gs -> cC Z (.ins c fs) (.ref a)
 | vC {a : Addr} {gs : List (Key × V)} {fs : Q.X} : Z a = some (.dK gs) -> cU Z fs gs -> cC Z (.vC fs) (.ref a)
 | dct {a : Addr} {gs : List (List Key × V)} {fs : List (List Key × D)} : Z a = some (.dT gs) -> Hv Z fs gs -> cC Z (.dct fs) (.ref a)
inductive aX (Z : Hp) : List D -> List V -> Prop where
 | nil : aX Z [] []
 | cons {d : D} {v : V} {ds : List D} {vs : List V} : cC Z d v -> aX Z ds vs -> aX Z (d :: ds) (v :: vs)
inductive yZ (Z : Hp) : List (Str × D) -> List (Str × V) -> Prop where
 | nil : yZ Z [] []
 | cons {x : Str} {d : D} {v : V} {ds : List (Str × D)} {vs : List (Str × V)} : cC Z d v -> yZ Z ds vs -> yZ Z ((x, d) :: ds) ((x, v) :: vs)
inductive cU (Z : Hp) : List (Key × D) -> List (Key × V) -> Prop where
 | nil : cU Z [] []
 | cons {x : Key} {d : D} {v : V} {ds : Q.X} {vs : List (Key × V)} : cC Z d v -> cU Z ds vs -> cU Z ((x, d) :: ds) ((x, v) :: vs)
inductive Hv (Z : Hp) : List (List Key × D) -> List (List Key × V) -> Prop where
 | nil : Hv Z [] []
 | cons {x : List Key} {d : D} {v : V} {ds : List (List Key × D)} {vs : List (List Key × V)} : cC Z d v -> Hv Z ds vs -> Hv Z ((x, d) :: ds) ((x, v) :: vs)
end
mutual
inductive cP (H Z : Hp) : T -> V -> List Addr -> Prop where
 | sh {d : D} {v : V} : cC K CL Z d v -> cP H Z (.sh d) v []
 | tup {a : Addr} {vs : List V} {ts : List T} {fp : Q.p} : Z a = some (.tup vs) -> bL H Z ts vs fp -> cP H Z (.tup ts) (.ref a) fp
 | lst {a : Addr} {vs : List V} {ts : List T} {fp : Q.p} : H a = some (.lst vs) -> bL H Z ts vs fp -> cP H Z (.lst ts) (.ref a) (a :: fp)
 | ins {a dx : Addr} {c : Str} {gs : List (Str × V)} {fs : List Q.t} {fp : Q.p} : H a = some (.ins (CL c) dx gs) -> eU H Z fs gs fp -> cP H Z (.ins c fs) (.ref a) (a :: fp)
 | vC {a : Addr} {gs : List (Key × V)} {b9 : Q.X} : H a = some (.dK gs) -> cU K CL Z b9 gs -> cP H Z (.vC b9) (.ref a) [a]
 | dct {a : Addr} {gs : List (List Key × V)} {b9 : List (List Key × T)} {fp : Q.p} : H a = some (.dT gs) -> Fy H Z b9 gs fp -> cP H Z (.dct b9) (.ref a) (a :: fp)
 | pin {x : Addr} {t : T} {fp : Q.p} : cP H Z t (.ref x) fp -> cP H Z (.pin x t) (.ref x) fp
inductive bL (H Z : Hp) : List T -> List V -> List Addr -> Prop where
 | nil : bL H Z [] [] []
 | cons {t : T} {v : V} {ts : List T} {vs : List V} {fp gp : Q.p} : cP H Z t v fp -> bL H Z ts vs gp -> bL H Z (t :: ts) (v :: vs) (fp ++ gp)
inductive eU (H Z : Hp) : List Q.t -> List (Str × V) -> List Addr -> Prop where
 | nil : eU H Z [] [] []
 | cons {x : Str} {t : T} {v : V} {ts : List Q.t} {vs : List (Str × V)} {fp gp : Q.p} : cP H Z t v fp -> eU H Z ts vs gp -> eU H Z ((x, t) :: ts) ((x, v) :: vs) (fp ++ gp)
inductive Fy (H Z : Hp) : List (List Key × T) -> List (List Key × V) -> List Addr -> Prop where
 | nil : Fy H Z [] [] []
 | cons {x : List Key} {t : T} {v : V} {ts : List (List Key × T)} {vs : List (List Key × V)} {fp gp : Q.p} : cP H Z t v fp -> Fy H Z ts vs gp -> Fy H Z ((x, t) :: ts) ((x, v) :: vs) (fp ++ gp)
end
inductive fQ (H Z : Hp) : List (Option T) -> L2.St -> List Addr -> Prop where
 | nil : fQ H Z [] [] []
 | skip {o : Option V} {δ : Q.n} {σ : L2.St} {fp : Q.p} : fQ H Z δ σ fp -> fQ H Z (none :: δ) (o :: σ) fp
 | cons {t : T} {v : V} {δ : Q.n} {σ : L2.St} {fp gp : Q.p} : cP K CL H Z t v fp -> fQ H Z δ σ gp -> fQ H Z (some t :: δ) (some v :: σ) (fp ++ gp)
variable {K : Q.l} {CL : Q.g} {H H' : Hp} {a : Addr} {xs : List V}
theorem aT.sqT (e : aT H H') (h : Fq K H a xs) : Fq K H' a xs := by
 rcases h with (h | ⟨o, h⟩) | h
 . exact .inl (.inl (e _ _ h))
 . exact .inl (.inr ⟨o, e _ _ h⟩)
 . exact .inr h
variable {Z Z' : Hp} {v : V}
theorem cC.mono (e : aT Z Z') {d : D} (h : cC K CL Z d v) : cC K CL Z' d v :=
 cC.rec (motive_1 := fun d v _ => cC K CL Z' d v) (motive_2 := fun d v _ => aX K CL Z' d v) (motive_3 := fun d v _ => yZ K CL Z' d v) (motive_4 := fun d v _ => cU K CL Z' d v) (motive_5 := fun d v _ => Hv K CL Z' d v)
   .non .bl .int .str .any .val (fun h _ r => .tup (aT.sqT e h) r) (fun h _ r => .lst (e.seq h) r) (fun h _ r => .ins (e _ _ h) r) (fun h _ r => .vC (e _ _ h) r) (fun h _ r => .dct (e _ _ h) r) .nil (fun _ _ h r => .cons h r) .nil (fun _ _ h r => .cons h r) .nil (fun _ _ h r => .cons h r) .nil (fun _ _ h r => .cons h r) h
theorem cU.mono (e : aT Z Z') {d : Q.X} {v : List (Key × V)} (h : cU K CL Z d v) : cU K CL Z' d v :=
 cU.rec (motive_1 := fun d v _ => cC K CL Z' d v) (motive_2 := fun d v _ => aX K CL Z' d v) (motive_3 := fun d v _ => yZ K CL Z' d v) (motive_4 := fun d v _ => cU K CL Z' d v) (motive_5 := fun d v _ => Hv K CL Z' d v)
   .non .bl .int .str .any .val (fun h _ r => .tup (aT.sqT e h) r) (fun h _ r => .lst (e.seq h) r) (fun h _ r => .ins (e _ _ h) r) (fun h _ r => .vC (e _ _ h) r) (fun h _ r => .dct (e _ _ h) r) .nil (fun _ _ h r => .cons h r) .nil (fun _ _ h r => .cons h r) .nil (fun _ _ h r => .cons h r) .nil (fun _ _ h r => .cons h r) h
variable {t : T} {fp : Q.p}
theorem cP.mono (e : aT Z Z') (k : ∀ a ∈ fp, H' a = H a) (h : cP K CL H Z t v fp) : cP K CL H' Z' t v fp :=
 cP.rec (motive_1 := fun t v fp _ => (∀ a ∈ fp, H' a = H a) -> cP K CL H' Z' t v fp) (motive_2 := fun t v fp _ => (∀ a ∈ fp, H' a = H a) -> bL K CL H' Z' t v fp) (motive_3 := fun t v fp _ => (∀ a ∈ fp, H' a = H a) -> eU K CL H' Z' t v fp) (motive_4 := fun t v fp _ => (∀ a ∈ fp, H' a = H a) -> Fy K CL H' Z' t v fp)
   (fun h _ => .sh (h.mono e)) (fun h _ r k => .tup (e _ _ h) (r k)) (fun h _ r k => .lst ((k _ ati).trans h) Q.ag) (fun h _ r k => .ins ((k _ ati).trans h) Q.ag) (fun h f k => .vC ((k _ ati).trans h) (cU.mono e f)) (fun h _ r k => .dct ((k _ ati).trans h) Q.ag) (fun _ r k => .pin (r k)) (fun _ => .nil) Q.as (fun _ => .nil) Q.as (fun _ => .nil) Q.as h k
theorem bL.mono (e : aT Z Z') {t : List T} {v : List V} (k : ∀ a ∈ fp, H' a = H a) (h : bL K CL H Z t v fp) : bL K CL H' Z' t v fp :=
 bL.rec (motive_1 := fun t v fp _ => (∀ a ∈ fp, H' a = H a) -> cP K CL H' Z' t v fp) (motive_2 := fun t v fp _ => (∀ a ∈ fp, H' a = H a) -> bL K CL H' Z' t v fp) (motive_3 := fun t v fp _ => (∀ a ∈ fp, H' a = H a) -> eU K CL H' Z' t v fp) (motive_4 := fun t v fp _ => (∀ a ∈ fp, H' a = H a) -> Fy K CL H' Z' t v fp)
   (fun h _ => .sh (h.mono e)) (fun h _ r k => .tup (e _ _ h) (r k)) (fun h _ r k => .lst ((k _ ati).trans h) Q.ag) (fun h _ r k => .ins ((k _ ati).trans h) Q.ag) (fun h f k => .vC ((k _ ati).trans h) (cU.mono e f)) (fun h _ r k => .dct ((k _ ati).trans h) Q.ag) (fun _ r k => .pin (r k)) (fun _ => .nil) Q.as (fun _ => .nil) Q.as (fun _ => .nil) Q.as h k
theorem eU.mono (e : aT Z Z') {t : List Q.t} {v : List (Str × V)} (k : ∀ a ∈ fp, H' a = H a) (h : eU K CL H Z t v fp) : eU K CL H' Z' t v fp :=
 eU.rec (motive_1 := fun t v fp _ => (∀ a ∈ fp, H' a = H a) -> cP K CL H' Z' t v fp) (motive_2 := fun t v fp _ => (∀ a ∈ fp, H' a = H a) -> bL K CL H' Z' t v fp) (motive_3 := fun t v fp _ => (∀ a ∈ fp, H' a = H a) -> eU K CL H' Z' t v fp) (motive_4 := fun t v fp _ => (∀ a ∈ fp, H' a = H a) -> Fy K CL H' Z' t v fp)
   (fun h _ => .sh (h.mono e)) (fun h _ r k => .tup (e _ _ h) (r k)) (fun h _ r k => .lst ((k _ ati).trans h) Q.ag) (fun h _ r k => .ins ((k _ ati).trans h) Q.ag) (fun h f k => .vC ((k _ ati).trans h) (cU.mono e f)) (fun h _ r k => .dct ((k _ ati).trans h) Q.ag) (fun _ r k => .pin (r k)) (fun _ => .nil) Q.as (fun _ => .nil) Q.as (fun _ => .nil) Q.as h k
theorem cP.there (h : cP K CL H Z t v fp) : ∀ a ∈ fp, ∃ o, H a = some o :=
 cP.rec (motive_1 := fun t v fp _ => ∀ a ∈ fp, ∃ o, H a = some o) (motive_2 := fun t v fp _ => ∀ a ∈ fp, ∃ o, H a = some o) (motive_3 := fun t v fp _ => ∀ a ∈ fp, ∃ o, H a = some o) (motive_4 := fun t v fp _ => ∀ a ∈ fp, ∃ o, H a = some o)
   (fun _ a ha => absurd ha att) (fun _ _ r => r) Q.aI Q.aI (fun h _ a ha => (atl.mp ha).elim (fun q => ⟨_, q ▸ h⟩) (fun q => absurd q att)) Q.aI (fun _ r => r) (fun a ha => absurd ha att) Q.aM (fun a ha => absurd ha att) Q.aM (fun a ha => absurd ha att) Q.aM h
theorem bL.there {t : List T} {v : List V} (h : bL K CL H Z t v fp) : ∀ a ∈ fp, ∃ o, H a = some o :=
 bL.rec (motive_1 := fun t v fp _ => ∀ a ∈ fp, ∃ o, H a = some o) (motive_2 := fun t v fp _ => ∀ a ∈ fp, ∃ o, H a = some o) (motive_3 := fun t v fp _ => ∀ a ∈ fp, ∃ o, H a = some o) (motive_4 := fun t v fp _ => ∀ a ∈ fp, ∃ o, H a = some o)
   (fun _ a ha => absurd ha att) (fun _ _ r => r) Q.aI Q.aI (fun h _ a ha => (atl.mp ha).elim (fun q => ⟨_, q ▸ h⟩) (fun q => absurd q att)) Q.aI (fun _ r => r) (fun a ha => absurd ha att) Q.aM (fun a ha => absurd ha att) Q.aM (fun a ha => absurd ha att) Q.aM h
theorem cP.iU (e : aT Z Z') (k : ∀ a ∈ fp, Z' a = H a) (h : cP K CL H Z t v fp) : cC K CL Z' t.iU v :=
 cP.rec (motive_1 := fun t v fp _ => (∀ a ∈ fp, Z' a = H a) -> cC K CL Z' t.iU v) (motive_2 := fun t v fp _ => (∀ a ∈ fp, Z' a = H a) -> aX K CL Z' (T.lB t) v) (motive_3 := fun t v fp _ => (∀ a ∈ fp, Z' a = H a) -> yZ K CL Z' (T.yO t) v) (motive_4 := fun t v fp _ => (∀ a ∈ fp, Z' a = H a) -> Hv K CL Z' (T.aaK t) v)
   (fun h _ => by rw [T.iU]; exact h.mono e) (fun h _ r k => by rw [T.iU]; exact .tup (Fq.of (e _ _ h)) (r k)) (fun h _ r k => by rw [T.iU]; exact .lst (vN.of ((k _ ati).trans h)) Q.ag) (fun h _ r k => by rw [T.iU]; exact .ins ((k _ ati).trans h) Q.ag) (fun h f k => by rw [T.iU]; exact .vC ((k _ ati).trans h) (cU.mono e f)) (fun h _ r k => by rw [T.iU]; exact .dct ((k _ ati).trans h) Q.ag) (fun _ r k => by rw [T.iU]; exact r k) (fun _ => by rw [T.lB]; exact .nil) (fun _ _ h r k => by rw [T.lB]; exact .cons (h fun a ha => k a (as9 _ ha)) (r fun a ha => k a (as7 _ ha))) (fun _ => by rw [T.yO]; exact .nil) (fun _ _ h r k => by rw [T.yO]; exact .cons (h fun a ha => k a (as9 _ ha)) (r fun a ha => k a (as7 _ ha))) (fun _ => by rw [T.aaK]; exact .nil) (fun _ _ h r k => by rw [T.aaK]; exact .cons (h fun a ha => k a (as9 _ ha)) (r fun a ha => k a (as7 _ ha))) h k
variable {vs : List V}
theorem aX.ind {P : List D -> List V -> Prop} (n : P [] []) (c : ∀ {d : D} {v : V} {ds : List D} {vs : List V}, cC K CL Z d v -> aX K CL Z ds vs -> P ds vs -> P (d :: ds) (v :: vs)) {ds : List D} (h : aX K CL Z ds vs) : P ds vs :=
 aX.rec (motive_1 := fun _ _ _ => True) (motive_2 := fun d v _ => P d v) (motive_3 := fun _ _ _ => True) (motive_4 := fun _ _ _ => True) (motive_5 := fun _ _ _ => True)
   trivial (fun _ => trivial) (fun _ => trivial) (fun _ => trivial) (fun _ => trivial) (fun _ => trivial) Q.V Q.V Q.V Q.V Q.V n (fun a b _ i => c a b i) trivial Q.S trivial Q.S trivial Q.S h
theorem cU.ind {P : List (Key × D) -> List (Key × V) -> Prop} (n : P [] []) (c : ∀ {x : Key} {d : D} {v : V} {ds : Q.X} {vs : List (Key × V)}, cC K CL Z d v -> cU K CL Z ds vs -> P ds vs -> P ((x, d) :: ds) ((x, v) :: vs)) {ds : Q.X} {vs : List (Key × V)} (h : cU K CL Z ds vs) : P ds vs :=
 cU.rec (motive_1 := fun _ _ _ => True) (motive_2 := fun _ _ _ => True) (motive_3 := fun _ _ _ => True) (motive_4 := fun d v _ => P d v) (motive_5 := fun _ _ _ => True)
   trivial (fun _ => trivial) (fun _ => trivial) (fun _ => trivial) (fun _ => trivial) (fun _ => trivial) Q.V Q.V Q.V Q.V Q.V trivial Q.S trivial Q.S n (fun a b _ i => c a b i) trivial Q.S h
variable {ts : List T}
theorem bL.ind {P : List T -> List V -> List Addr -> Prop} (n : P [] [] []) (c : ∀ {t : T} {v : V} {ts : List T} {vs : List V} {fp gp : Q.p}, cP K CL H Z t v fp -> bL K CL H Z ts vs gp -> P ts vs gp -> P (t :: ts) (v :: vs) (fp ++ gp)) (h : bL K CL H Z ts vs fp) : P ts vs fp :=
 bL.rec (motive_1 := fun _ _ _ _ => True) (motive_2 := fun d v f _ => P d v f) (motive_3 := fun _ _ _ _ => True) (motive_4 := fun _ _ _ _ => True)
   (fun _ => trivial) Q.V Q.V Q.V (fun _ _ => trivial) Q.V (fun _ _ => trivial) n (fun a b _ i => c a b i) trivial Q.S trivial Q.S h
theorem eU.ind {P : List Q.t -> List (Str × V) -> List Addr -> Prop} (n : P [] [] []) (c : ∀ {x : Str} {t : T} {v : V} {ts : List Q.t} {vs : List (Str × V)} {fp gp : Q.p}, cP K CL H Z t v fp -> eU K CL H Z ts vs gp -> P ts vs gp -> P ((x, t) :: ts) ((x, v) :: vs) (fp ++ gp)) {ts : List Q.t} {vs : List (Str × V)} (h : eU K CL H Z ts vs fp) : P ts vs fp :=
 eU.rec (motive_1 := fun _ _ _ _ => True) (motive_2 := fun _ _ _ _ => True) (motive_3 := fun d v f _ => P d v f) (motive_4 := fun _ _ _ _ => True)
   (fun _ => trivial) Q.V Q.V Q.V (fun _ _ => trivial) Q.V (fun _ _ => trivial) trivial Q.S n (fun a b _ i => c a b i) trivial Q.S h
theorem aX.length {d : List D} {v : List V} (h : aX K CL Z d v) : d.length = v.length :=
 aX.ind (P := fun d v => d.length = v.length) rfl (fun _ _ i => congrArg (· + 1) i) h
theorem bL.length {d : List T} {v : List V} (h : bL K CL H Z d v fp) : d.length = v.length :=
 bL.ind (P := fun d v _ => d.length = v.length) rfl (fun _ _ i => congrArg (· + 1) i) h
theorem aX.get {Z : Hp} : ∀ {ds : List D} {vs : List V} {i : Nat} {d : D}, aX K CL Z ds vs -> ds[i]? = some d -> ∃ v, vs[i]? = some v /\ cC K CL Z d v
 | _, _, _, _, .nil, e => by simp at e
 | _, _, 0, _, .cons r _, e => by simp at e; subst e; exact ⟨_, rfl, r⟩
 | _, _, i + 1, d, .cons _ t, e => by
   obtain ⟨u, h1, h2⟩ := aX.get (i := i) (d := d) t (by simpa using e)
   exact ⟨u, by simpa using h1, h2⟩
theorem aX.adU {Z : Hp} : ∀ {ds : List D} {vs : List V} {i : Nat} {v : V}, aX K CL Z ds vs -> vs[i]? = some v -> ∃ d, ds[i]? = some d /\ cC K CL Z d v
 | _, _, _, _, .nil, e => by simp at e
 | _, _, 0, _, .cons r _, e => by simp at e; subst e; exact ⟨_, rfl, r⟩
 | _, _, i + 1, d, .cons _ t, e => by
   obtain ⟨u, h1, h2⟩ := aX.adU (i := i) (v := d) t (by simpa using e)
   exact ⟨u, by simpa using h1, h2⟩
theorem fQ.get : ∀ {δ : Q.n} {σ : L2.St} {fp : Q.p} {i : Nat} {t : T}, fQ K CL H Z δ σ fp -> δ[i]? = some (some t) →
   ∃ v f1 f2 f3, σ[i]? = some (some v) /\ fp = f1 ++ (f2 ++ f3) /\ cP K CL H Z t v f2 ∧
     (∀ {H' Z' : Hp} {t' : T} {v' : V} {g : Q.p}, aT Z Z' -> (∀ a ∈ f1 ++ f3, H' a = H a) -> cP K CL H' Z' t' v' g -> fQ K CL H' Z' (δ.set i (some t')) (σ.set i (some v')) Q.ab) ∧
     (∀ {o : Option V}, fQ K CL H Z (δ.set i none) (σ.set i o) (f1 ++ f3)) := by
 intro δ σ fp i t h
 have mono : ∀ {H H' Z Z' : Hp} {δ : Q.n} {σ : L2.St} {fp : Q.p}, aT Z Z' -> (∀ a ∈ fp, H' a = H a) -> fQ K CL H Z δ σ fp -> fQ K CL H' Z' δ σ fp := by
   intro H H' Z Z' δ σ fp e k r
   induction r with
   | nil => exact .nil
   | skip _ ih => exact .skip (ih k)
   | cons r _ ih => exact .cons (r.mono e fun a ha => k a (as9 _ ha)) (ih fun a ha => k a (as7 _ ha))
 induction h generalizing i with
 | nil => intro e; simp at e
 | @skip o δ σ fp r ih =>
   cases i with
   | zero => intro e; simp at e
   | succ i =>
     intro e
     obtain ⟨v, f1, f2, f3, h1, h2, h3, h4, h5⟩ := ih (i := i) (by simpa using e)
     exact ⟨v, f1, f2, f3, by simpa using h1, h2, h3, fun e k q => .skip (h4 e k q), .skip h5⟩
 | @cons t0 v0 δ σ fp gp r0 r ih =>
   cases i with
   | zero =>
     intro e
     simp at e
     subst e
     refine ⟨v0, [], fp, gp, rfl, rfl, r0, fun {H' Z' t' v' g} e k q => fQ.cons (fp := g) (gp := gp) q (mono (fp := gp) e (fun a ha => k a (by simpa using ha)) r), .skip (by simpa using r)⟩
   | succ i =>
     intro e
     obtain ⟨v, f1, f2, f3, h1, h2, h3, h4, h5⟩ := ih (i := i) (by simpa using e)
     refine ⟨v, fp ++ f1, f2, f3, by simpa using h1, by rw [h2, List.append_assoc], h3, fun {H' Z' t' v' g} e k q => ?_, fun {o} => ?_⟩
     . rw [atc]
       exact .cons (r0.mono e fun a ha => k a (by simp [ha])) (h4 e (fun a ha => k a (by rw [atc]; exact as7 _ ha)) q)
     . rw [atc]
       exact .cons r0 h5
variable {δ : Q.n} {σ : L2.St}
theorem fQ.mono (e : aT Z Z') (k : ∀ a ∈ fp, H' a = H a) (r : fQ K CL H Z δ σ fp) : fQ K CL H' Z' δ σ fp := by
 induction r with
 | nil => exact .nil
 | skip _ ih => exact .skip (ih k)
 | cons r _ ih => exact .cons (r.mono e fun a ha => k a (as9 _ ha)) (ih fun a ha => k a (as7 _ ha))
theorem fQ.there (r : fQ K CL H Z δ σ fp) : ∀ a ∈ fp, ∃ o, H a = some o := by
 induction r with
 | nil => intro a ha; cases ha
 | skip _ ih => exact ih
 | cons r _ ih => exact fun a ha => (ate.mp ha).elim (r.there a) (ih a)
theorem fQ.put (r : fQ K CL H Z δ σ fp) {g : Q.p} (q : cP K CL H Z t v g) :
   ∀ {i : Nat}, i < δ.length -> ∃ f, fQ K CL H Z (δ.set i (some t)) (σ.set i (some v)) f /\ ∃ f', f'.Sublist fp /\ f.Perm (g ++ f') := by
 induction r with
 | nil => intro i hi; simp at hi
 | @skip o δ σ fp r ih =>
   intro i hi
   cases i with
   | zero => exact ⟨g ++ fp, .cons q r, fp, atQ _, avl _⟩
   | succ i =>
     obtain ⟨f, h1, f', h2, h3⟩ := ih (i := i) (by simpa using hi)
     exact ⟨f, .skip h1, f', h2, h3⟩
 | @cons t0 v0 δ σ fp gp r0 r ih =>
   intro i hi
   cases i with
   | zero => exact ⟨g ++ gp, .cons q r, gp, auh _ _, avl _⟩
   | succ i =>
     obtain ⟨f, h1, f', h2, h3⟩ := ih (i := i) (by simpa using hi)
     refine ⟨fp ++ f, .cons r0 h1, fp ++ f', atO (atQ _) h2, ?_⟩
     refine (at7 fp h3).trans ?_
     rw [← atc, ← atc]
     exact List.Perm.append_right f' atJ
def Lj (X : Cx) (e : Expr) : TE := fun σ H Q => ∀ (pins : Q.o) (s : Shared), Inv X pins σ H s -> wpAny Q.k X.A (eval e X.env) (EP X pins σ Q) X.xe s
def adV (X : Cx) (e : Expr) : TT := fun σ H Q => ∀ (pins : Q.o) (s : Shared), Inv X pins σ H s -> wpAny Q.k X.A (isTrue e X.env (eval e X.env)) (TP X pins σ Q) X.xe s
def Lk (X : Cx) (es : List Expr) : TA := fun σ H Q => ∀ (pos : Pos) (pins : Q.o) (s : Shared), Inv X pins σ H s -> wpAny Q.k X.A (spliced (backTo pos (starEach es X.env))) (AP X pins σ Q) X.xe s
def adW (X : Cx) (st : Stmt) : TS := fun D σ H => ∀ (pins : Q.o) (s : Shared), Inv X pins σ H s -> wpAny Q.k X.A (exec st X.env) (SP X pins D) X.xe s
def RJ (X : Cx) (st : List Stmt) : TS := fun D σ H => ∀ (pins : Q.o) (s : Shared), Inv X pins σ H s -> wpAny Q.k X.A (execs st X.env) (SP X pins D) X.xe s
variable {X : Cx} {e : Expr}
theorem fh : PE X e (Lj X e) := fun pins s _ _ _ I h => h pins s I
theorem ptS : PT X e (adV X e) := fun pins s _ _ _ I h => h pins s I
theorem VN {e : List Expr} : PA X e (Lk X e) := fun pos pins s _ _ _ I h => h pos pins s I
theorem psS {e : Stmt} : PS X e (adW X e) := fun pins s _ _ _ I h => h pins s I
theorem XH {e : List Stmt} : Vx X e (RJ X e) := fun pins s _ _ _ I h => h pins s I
theorem dS {t : TE} (h : PE X e t) {Q : VK} (q : t σ H Q) : Lj X e σ H Q := fun pins s I => h pins s σ H Q I q
variable {Q : Bool -> Hp -> Prop}
theorem J7 {t : TT} (h : PT X e t) (q : t σ H Q) : adV X e σ H Q := fun pins s I => h pins s σ H Q I q
theorem J8 {e : List Expr} {t : TA} (h : PA X e t) {Q : List V -> Hp -> Prop} (q : t σ H Q) : Lk X e σ H Q := fun pos pins s I => h pos pins s σ H Q I q
theorem v8 {e : Stmt} {t : TS} (h : PS X e t) {D : Ends} (q : t D σ H) : adW X e D σ H := fun pins s I => h pins s σ H D I q
theorem aaL {e : List Stmt} {t : TS} (h : Vx X e t) {D : Ends} (q : t D σ H) : RJ X e D σ H := fun pins s I => h pins s σ H D I q
def notStar : Expr -> Bool
 | .Starred _ _ => false
 | _ => true
variable {es : List Expr} {env : Env}
theorem cE (h : notStar e = true) : starEach (e :: es) env = (false, eval e env) :: starEach es env := by
 cases e <;> first | rfl | (cases h)
structure Bx where
 B : Hp
 Z : Hp
def pG : HO -> Bool
 | .tup _ => true
 | .iU _ _ => true
 | _ => false
def VP (x : Str) : Bool := x.cps[0]? == some 35
def aov (x : Str) : Str := ⟨x.cps.extract 1 x.cps.size⟩
def pT (CL : Q.g) (Z : Hp) : Prop := ∀ x, VP x = true -> CL x ≠ 0 -> Z (CL x) = some (.tabs (aov x))
structure bZ (K : Q.l) (CL : Q.g) (b : Bx) (H Z : Hp) (δ : Q.n) (σ : L2.St) (ts : List T) (vs : List V) : Prop where
 rep : ∃ fp gp, fQ K CL H Z δ σ fp /\ bL K CL H Z ts vs gp /\ (fp ++ gp).Nodup /\ ∀ a ∈ fp ++ gp, Z a = none /\ b.B a = none
 bh : aT b.B H
 zz : aT b.Z Z
 zh : aT Z H
 new : ∀ a o, Z a = some o -> b.Z a = none -> b.B a = none
 tp : ∀ a o, H a = some o -> pG o = true -> Z a = some o
 tab : pT CL b.Z
variable {b : Bx}
theorem pT.mono {A B : Hp} (h : pT CL A) (e : aT A B) : pT CL B := fun x hx h0 => e _ _ (h x hx h0)
theorem bZ.aic (S : Q.M) : pT CL Z := S.tab.mono S.zz
theorem bZ.aaM (S : Q.M) : pT CL H := S.aic.mono S.zh
theorem RK {A B : Hp} (e : aT A B) (h : B a = none) : A a = none := e.free h
variable {p : Addr}
theorem aT.upd {o : HO} (h : H p = none) : aT H (upd H p o) := fun b u e => by rw [aP (cM e h)]; exact e
theorem bZ.view (S : Q.al) : cC K CL H t.iU v := by
 obtain ⟨fp, gp, _, r, _, _⟩ := S.rep
 cases r with
 | cons r _ => exact r.iU S.zh fun _ _ => rfl
theorem bZ.pop (S : Q.al) : bZ K CL b H Z δ σ ts vs := by
 obtain ⟨fp, gp, e, r, nd, k⟩ := S.rep
 cases r with
 | @cons _ _ _ _ f1 f2 r1 r2 =>
   refine ⟨⟨fp, f2, e, r2, nd.sublist (atO (atQ _) (auh _ _)), fun a ha => k a ?_⟩, S.bh, S.zz, S.zh, S.new, S.tp, S.tab⟩
   rcases ate.mp ha with h | h
   . exact as9 _ h
   . exact as7 _ (as7 _ h)
theorem bZ.push {d : D} (S : Q.M) (r : cC K CL Z d v) : bZ K CL b H Z δ σ (.sh d :: ts) (v :: vs) := by
 obtain ⟨fp, gp, e, r2, nd, k⟩ := S.rep
 exact ⟨⟨fp, [] ++ gp, e, .cons (.sh r) r2, nd, k⟩, S.bh, S.zz, S.zh, S.new, S.tp, S.tab⟩
theorem bZ.aaN (S : Q.al) : ∃ Z', aT Z Z' /\ bZ K CL b H Z' δ σ (.sh t.iU :: ts) (v :: vs) := by
 classical
 obtain ⟨fp, gp, e, r, nd, k⟩ := S.rep
 cases r with
 | @cons _ _ _ _ f1 f2 r1 r2 =>
   have nZ : ∀ a ∈ f1, Z a = none /\ b.B a = none := fun a ha => k a (as7 _ (as9 _ ha))
   have sz : aT Z (fun a => if a ∈ f1 then H a else Z a) := fun a o q => by
     by_cases ha : a ∈ f1
     . rw [(nZ a ha).1] at q; cases q
     . show (if a ∈ f1 then H a else Z a) = some o
       rw [as5 ha]; exact q
   have nd1 := atR.mp nd
   have dj : ∀ a ∈ fp ++ f2, a ∉ f1 := fun a ha h1 => by
     rcases ate.mp ha with h | h
     . exact nd1.2.2 a h a (as9 _ h1) rfl
     . exact (atR.mp nd1.2.1).2.2 a h1 a h rfl
   refine ⟨fun a => if a ∈ f1 then H a else Z a, sz, ⟨⟨fp, [] ++ f2, e.mono sz (fun _ _ => rfl), .cons (.sh (r1.iU sz fun a ha => atb ha)) (r2.mono sz fun _ _ => rfl), ?_, fun a ha => ?_⟩, S.bh, S.zz.trans sz, fun a o q => ?_, fun a o q z => ?_, fun a o q i => ?_, S.tab⟩⟩
   . exact nd.sublist (atO (atQ _) (auh _ _))
   . have XI : a ∈ fp ++ f2 := ha
     refine ⟨?_, (k a ?_).2⟩
     . show (if a ∈ f1 then H a else Z a) = none
       rw [as5 (dj a XI)]
       refine (k a ?_).1
       rcases ate.mp XI with h | h
       . exact as9 _ h
       . exact as7 _ (as7 _ h)
     . rcases ate.mp XI with h | h
       . exact as9 _ h
       . exact as7 _ (as7 _ h)
   . have q' : (if a ∈ f1 then H a else Z a) = some o := q
     by_cases ha : a ∈ f1
     . rw [atb ha] at q'; exact q'
     . rw [as5 ha] at q'; exact S.zh a o q'
   . have q' : (if a ∈ f1 then H a else Z a) = some o := q
     by_cases ha : a ∈ f1
     . exact (nZ a ha).2
     . rw [as5 ha] at q'; exact S.new a o q' z
   . exact sz a o (S.tp a o q i)
variable {i : Nat}
theorem bZ.adX (S : Q.M) (hi : δ[i]? = some (some t)) : ∃ v Z', σ[i]? = some (some v) /\ aT Z Z' /\ bZ K CL b H Z' (δ.set i (some (.sh t.iU))) σ (.sh t.iU :: ts) (v :: vs) := by
 classical
 obtain ⟨fp, gp, e, r, nd, k⟩ := S.rep
 obtain ⟨v, f1, f2, f3, hv, v9, rt, put, _⟩ := e.get hi
 subst v9
 have nZ : ∀ a ∈ f2, Z a = none /\ b.B a = none := fun a ha => k a (by simp [ha])
 have sz : aT Z (fun a => if a ∈ f2 then H a else Z a) := fun a o q => by
   by_cases ha : a ∈ f2
   . rw [(nZ a ha).1] at q; cases q
   . show (if a ∈ f2 then H a else Z a) = some o
     rw [as5 ha]; exact q
 have dj : ∀ a ∈ (f1 ++ f3) ++ gp, a ∉ f2 := fun a ha h2 => by
   have hp : ((f1 ++ (f2 ++ f3)) ++ gp).Perm (f2 ++ ((f1 ++ f3) ++ gp)) := by
     rw [← atc, ← atc]
     refine (List.perm_append_right_iff gp).mpr ?_
     rw [← atc]
     exact (List.perm_append_right_iff f3).mpr atJ
   exact (atR.mp (hp.nodup_iff.mp nd)).2.2 a h2 a ha rfl
 have rF : cC K CL (fun a => if a ∈ f2 then H a else Z a) t.iU v := rt.iU sz fun a ha => atb ha
 have aid : σ.set i (some v) = σ := by
   apply List.ext_getElem?
   intro j
   rw [List.getElem?_set]
   split
   . rename_i h; subst h
     split
     . exact hv.symm
     . rename_i h2; rw [au3 Q.a]
   . rfl
 have e2 : fQ K CL H (fun a => if a ∈ f2 then H a else Z a) (δ.set i (some (.sh t.iU))) σ (f1 ++ ([] ++ f3)) := by
   have := put (H' := H) (t' := .sh t.iU) (v' := v) (g := []) sz (fun _ _ => rfl) (.sh rF)
   rwa [aid] at this
 refine ⟨v, fun a => if a ∈ f2 then H a else Z a, hv, sz, ⟨⟨f1 ++ ([] ++ f3), [] ++ gp, e2, .cons (.sh rF) (r.mono sz fun _ _ => rfl), ?_, fun a ha => ?_⟩, S.bh, S.zz.trans sz, fun a o q => ?_, fun a o q z => ?_, fun a o q i => sz a o (S.tp a o q i), S.tab⟩⟩
 . exact nd.sublist (atO (atO (atQ _) (auh _ _)) (atQ _))
 . have XI : a ∈ (f1 ++ f3) ++ gp := ha
   have hm : a ∈ (f1 ++ (f2 ++ f3)) ++ gp := by
     simp only [ate] at XI ⊢
     rcases XI with (h | h) | h
     . exact .inl (.inl h)
     . exact .inl (.inr (.inr h))
     . exact .inr h
   refine ⟨?_, (k a hm).2⟩
   show (if a ∈ f2 then H a else Z a) = none
   rw [as5 (dj a XI)]
   exact (k a hm).1
 . have q' : (if a ∈ f2 then H a else Z a) = some o := q
   by_cases ha : a ∈ f2
   . rw [atb ha] at q'; exact q'
   . rw [as5 ha] at q'; exact S.zh a o q'
 . have q' : (if a ∈ f2 then H a else Z a) = some o := q
   by_cases ha : a ∈ f2
   . exact (nZ a ha).2
   . rw [as5 ha] at q'; exact S.new a o q' z
theorem bZ.move (S : Q.M) (hi : δ[i]? = some (some t)) : ∃ v, σ[i]? = some (some v) /\ bZ K CL b H Z (δ.set i none) σ (t :: ts) (v :: vs) := by
 obtain ⟨fp, gp, e, r, nd, k⟩ := S.rep
 obtain ⟨v, f1, f2, f3, hv, v9, rt, _, del⟩ := e.get hi
 subst v9
 have aid : σ.set i (some v) = σ := by
   apply List.ext_getElem?
   intro j
   rw [List.getElem?_set]
   split
   . rename_i h; subst h
     split
     . exact hv.symm
     . rename_i h2; rw [au3 Q.a]
   . rfl
 have hp : ((f1 ++ (f2 ++ f3)) ++ gp).Perm ((f1 ++ f3) ++ (f2 ++ gp)) := by
   have h1 : (f2 ++ f3).Perm (f3 ++ f2) := atJ
   have h2 := (at7 f1 h1).append_right gp
   simp only [atc] at h2 ⊢
   exact h2
 refine ⟨v, hv, ⟨⟨f1 ++ f3, f2 ++ gp, ?_, .cons rt r, hp.nodup_iff.mp nd, fun a ha => k a (hp.mem_iff.mpr ha)⟩, S.bh, S.zz, S.zh, S.new, S.tp, S.tab⟩⟩
 have := del (o := some v)
 rwa [aid] at this
theorem bZ.look (S : Q.M) (hi : δ[i]? = some (some t)) : ∃ v, σ[i]? = some (some v) /\ cC K CL H t.iU v := by
 obtain ⟨fp, gp, e, r, nd, k⟩ := S.rep
 obtain ⟨v, f1, f2, f3, hv, v9, rt, _, _⟩ := e.get hi
 exact ⟨v, hv, rt.iU S.zh fun _ _ => rfl⟩
theorem bZ.agU {d : D} (S : Q.M) (hi : δ[i]? = some (some (.sh d))) : ∃ v, σ[i]? = some (some v) /\ cC K CL Z d v := by
 obtain ⟨fp, gp, e, r, nd, k⟩ := S.rep
 obtain ⟨v, f1, f2, f3, hv, v9, rt, _, _⟩ := e.get hi
 cases rt with
 | sh h => exact ⟨v, hv, h⟩
theorem bZ.set (S : Q.al) (hi : i < δ.length) : bZ K CL b H Z (δ.set i (some t)) (σ.set i (some v)) ts vs := by
 obtain ⟨fp, gp, e, r, nd, k⟩ := S.rep
 cases r with
 | @cons _ _ _ _ f1 f2 r1 r2 =>
   obtain ⟨f, h1, f', h2, h3⟩ := e.put r1 hi
   have hp : (f ++ f2).Perm (f' ++ (f1 ++ f2)) := by
     refine (h3.append_right f2).trans ?_
     rw [← atc]
     exact atJ.append_right f2
   have aaO : (f' ++ (f1 ++ f2)).Sublist (fp ++ (f1 ++ f2)) := atO h2 (atQ _)
   exact ⟨⟨f, f2, h1, r2, hp.nodup_iff.mpr (nd.sublist aaO), fun a ha => k a (aaO.subset (hp.mem_iff.mp ha))⟩, S.bh, S.zz, S.zh, S.new, S.tp, S.tab⟩
mutual
def D.qc : D -> Bool
 | .tup ds => D.cZ ds
 | .lst _ => false
 | .ins _ _ => false
 | .vC _ => false
 | .dct _ => false
 | .any => false
 | _ => true
def D.cZ : List D -> Bool
 | [] => true
 | d :: ds => d.qc && D.cZ ds
end
mutual
def T.clean : T -> Bool
 | .sh d => d.qc
 | .tup ts => T.eX ts
 | .lst ts => T.eX ts
 | .ins _ fs => T.cQ fs
 | .vC b9 => D.cZ (b9.map (·.2))
 | .dct b9 => T.Lp b9
 | .pin _ t => t.clean
def T.eX : List T -> Bool
 | [] => true
 | t :: ts => t.clean && T.eX ts
def T.cQ : List Q.t -> Bool
 | [] => true
 | (_, t) :: ts => t.clean && T.cQ ts
def T.Lp : List (List Key × T) -> Bool
 | [] => true
 | (_, t) :: ts => t.clean && T.Lp ts
end
def dH (X : Cx) (CL : Q.g) (b : Bx) (e : Expr) (δ : Q.n) (t : T) (δ' : Q.n) : Prop :=
 ∀ (H Z : Hp) (σ : L2.St) (ts : List T) (vs : List V) (Q : VK), bZ X.K CL b H Z δ σ ts vs -> (∀ v H' Z', aT Z Z' -> aT H H' -> bZ X.K CL b H' Z' δ' σ (t :: ts) (v :: vs) -> Q v H') -> Lj X e σ H Q
def eK (X : Cx) (CL : Q.g) (b : Bx) (e : Expr) (δ : Q.n) (d : D) (δ' : Q.n) : Prop :=
 ∀ (H Z : Hp) (σ : L2.St) (ts : List T) (vs : List V) (Q : VK), bZ X.K CL b H Z δ σ ts vs -> (∀ v H' Z', aT Z Z' -> aT H H' -> bZ X.K CL b H' Z' δ' σ ts vs -> cC X.K CL H' d v -> Q v H') -> Lj X e σ H Q
def xT (X : Cx) (CL : Q.g) (b : Bx) (e : Expr) (δ : Q.n) (p : Bool) (δ' : Q.n) : Prop :=
 ∀ (H Z : Hp) (σ : L2.St) (ts : List T) (vs : List V) (Q : Bool -> Hp -> Prop), bZ X.K CL b H Z δ σ ts vs -> (∀ H' Z', aT Z Z' -> aT H H' -> bZ X.K CL b H' Z' δ' σ ts vs -> Q p H') -> adV X e σ H Q
def XJ (X : Cx) (CL : Q.g) (b : Bx) (es : List Expr) (δ : Q.n) (tl : List T) (δ' : Q.n) : Prop :=
 ∀ (H Z : Hp) (σ : L2.St) (ts : List T) (vs : List V) (Q : List V -> Hp -> Prop), bZ X.K CL b H Z δ σ ts vs →
   (∀ us H' Z', us.length = tl.length -> aT Z Z' -> aT H H' -> bZ X.K CL b H' Z' δ' σ (tl.reverse ++ ts) (us.reverse ++ vs) -> Q us H') -> Lk X es σ H Q
def BAv (X : Cx) (CL : Q.g) (b : Bx) (es : List Expr) (δ : Q.n) (ds : List D) (δ' : Q.n) : Prop :=
 ∀ (H Z : Hp) (σ : L2.St) (ts : List T) (vs : List V) (Q : List V -> Hp -> Prop), bZ X.K CL b H Z δ σ ts vs →
   (∀ us H' Z', aT Z Z' -> aT H H' -> bZ X.K CL b H' Z' δ' σ ts vs -> aX X.K CL H' ds us -> Q us H') -> Lk X es σ H Q
structure g6 where
 nx : List (Option T) -> Prop
 rt : T -> List (Option T) -> Prop
 bk : List (Option T) -> Prop := fun _ => False
 ct : List (Option T) -> Prop := fun _ => False
structure Meets (K : Q.l) (CL : Q.g) (b : Bx) (Z : Hp) (ts : List T) (vs : List V) (D : g6) (E : Ends) : Prop where
 nx : ∀ δ' σ' H' Z', aT Z Z' -> bZ K CL b H' Z' δ' σ' ts vs -> D.nx δ' -> E.nx σ' H'
 rt : ∀ t v H' Z' δ' σ', aT Z Z' -> bZ K CL b H' Z' δ' σ' (t :: ts) (v :: vs) -> D.rt t δ' -> E.rt v H'
 bk : ∀ δ' σ' H' Z', aT Z Z' -> bZ K CL b H' Z' δ' σ' ts vs -> D.bk δ' -> E.bk σ' H'
 ct : ∀ δ' σ' H' Z', aT Z Z' -> bZ K CL b H' Z' δ' σ' ts vs -> D.ct δ' -> E.ct σ' H'
def TSv (X : Cx) (CL : Q.g) (b : Bx) (st : Stmt) (δ : Q.n) (D : g6) : Prop :=
 ∀ (H Z : Hp) (σ : L2.St) (ts : List T) (vs : List V) (E : Ends), bZ X.K CL b H Z δ σ ts vs -> Meets X.K CL b Z ts vs D E -> adW X st E σ H
def dY (X : Cx) (CL : Q.g) (b : Bx) (st : List Stmt) (δ : Q.n) (D : g6) : Prop :=
 ∀ (H Z : Hp) (σ : L2.St) (ts : List T) (vs : List V) (E : Ends), bZ X.K CL b H Z δ σ ts vs -> Meets X.K CL b Z ts vs D E -> RJ X st E σ H
theorem Meets.mono {D : g6} {E : Ends} (M : Meets K CL b Z ts vs D E) (e : aT Z Z') : Meets K CL b Z' ts vs D E :=
 ⟨fun _ _ _ _ s => M.nx _ _ _ _ (e.trans s), fun _ _ _ _ _ _ s => M.rt _ _ _ _ _ _ (e.trans s), fun _ _ _ _ s => M.bk _ _ _ _ (e.trans s), fun _ _ _ _ s => M.ct _ _ _ _ (e.trans s)⟩
theorem VQ (zh : Q.aZ) (h : Fq K H a xs) : Fq K Z a xs := by
 rcases h with (h | ⟨o, h⟩) | h
 . exact .inl (.inl (zh _ _ h rfl))
 . exact .inl (.inr ⟨o, zh _ _ h rfl⟩)
 . exact .inr h
theorem cC.qc (zh : Q.aZ) {d : D} (k : d.qc = true) (h : cC K CL H d v) : cC K CL Z d v :=
 cC.rec (motive_1 := fun d v _ => d.qc = true -> cC K CL Z d v) (motive_2 := fun d v _ => D.cZ d = true -> aX K CL Z d v) (motive_3 := fun d v _ => True) (motive_4 := fun d v _ => True) (motive_5 := fun d v _ => True)
   (fun _ => .non) (fun b _ => .bl b) (fun b _ => .int b) (fun b _ => .str b) (fun _ k => by rw [D.qc] at k; cases k) (fun b _ => .val b) (fun h _ r k => .tup (VQ zh h) (r (by rw [D.qc] at k; exact k))) Q.ay Q.ay Q.ay Q.ay (fun _ => .nil) (fun _ _ h r k => by rw [D.cZ, ato] at k; exact .cons (h k.1) (r k.2)) trivial Q.S trivial Q.S trivial Q.S h k
theorem aX.qc (zh : Q.aZ) {d : List D} {v : List V} (k : D.cZ d = true) (h : aX K CL H d v) : aX K CL Z d v :=
 aX.rec (motive_1 := fun d v _ => d.qc = true -> cC K CL Z d v) (motive_2 := fun d v _ => D.cZ d = true -> aX K CL Z d v) (motive_3 := fun d v _ => True) (motive_4 := fun d v _ => True) (motive_5 := fun d v _ => True)
   (fun _ => .non) (fun b _ => .bl b) (fun b _ => .int b) (fun b _ => .str b) (fun _ k => by rw [D.qc] at k; cases k) (fun b _ => .val b) (fun h _ r k => .tup (VQ zh h) (r (by rw [D.qc] at k; exact k))) Q.ay Q.ay Q.ay Q.ay (fun _ => .nil) (fun _ _ h r k => by rw [D.cZ, ato] at k; exact .cons (h k.1) (r k.2)) trivial Q.S trivial Q.S trivial Q.S h k
variable {gs : List (Key × V)}
theorem cU.clean {Z1 : Hp} (zi : ∀ {d : D} {v : V}, d.qc = true -> cC K CL Z1 d v -> cC K CL Z d v) {b9 : Q.X} (k : D.cZ (b9.map (·.2)) = true) (h : cU K CL Z1 b9 gs) : cU K CL Z b9 gs :=
 cU.ind (P := fun b9 gs => D.cZ (b9.map (·.2)) = true -> cU K CL Z b9 gs) (fun _ => .nil) (fun h _ i k => by rw [atG, D.cZ, ato] at k; exact .cons (zi k.1 h) (i k.2)) h k
theorem cP.clean {Z1 : Hp} (zh : ∀ a xs, Z1 a = some (.tup xs) -> Z a = some (.tup xs)) (zi : ∀ {d : D} {v : V}, d.qc = true -> cC K CL Z1 d v -> cC K CL Z d v) (k : t.clean = true) (h : cP K CL H Z1 t v fp) : cP K CL H Z t v fp :=
 cP.rec (motive_1 := fun t v fp _ => t.clean = true -> cP K CL H Z t v fp) (motive_2 := fun t v fp _ => T.eX t = true -> bL K CL H Z t v fp) (motive_3 := fun t v fp _ => T.cQ t = true -> eU K CL H Z t v fp) (motive_4 := fun t v fp _ => T.Lp t = true -> Fy K CL H Z t v fp)
   (fun h k => .sh (zi (by rw [T.clean] at k; exact k) h)) (fun h _ r k => .tup (zh _ _ h) (r (by rw [T.clean] at k; exact k))) (fun h _ r k => .lst h (r (by rw [T.clean] at k; exact k))) (fun h _ r k => .ins h (r (by rw [T.clean] at k; exact k))) (fun h f k => .vC h (cU.clean zi (by rw [T.clean] at k; exact k) f)) (fun h _ r k => .dct h (r (by rw [T.clean] at k; exact k))) (fun _ r k => .pin (r (by rw [T.clean] at k; exact k))) (fun _ => .nil) (fun _ _ h r k => by rw [T.eX, ato] at k; exact .cons (h k.1) (r k.2)) (fun _ => .nil) (fun _ _ h r k => by rw [T.cQ, ato] at k; exact .cons (h k.1) (r k.2)) (fun _ => .nil) (fun _ _ h r k => by rw [T.Lp, ato] at k; exact .cons (h k.1) (r k.2)) h k
theorem bZ.back {W W' : Hp} (S : Q.M) (hh : aT H H') (zw : aT Z W) (ww : aT W W') (wh : aT W' H') (new : ∀ a o, W' a = some o -> W a = none -> H a = none)
   (tp : ∀ a o, H' a = some o -> pG o = true -> W' a = some o) (r : cP K CL H' W' t v fp) (nd : fp.Nodup) (own : ∀ a ∈ fp, W' a = none /\ H a = none) (c : W = Z \/ t.clean = true) :
   ∃ Z', aT Z Z' /\ bZ K CL b H' Z' δ σ (t :: ts) (v :: vs) := by
 classical
 let Z' : Hp := fun a => if (H a).isSome = true then Z a else W' a
 have zs : ∀ {a : Addr} {o : HO}, H a = some o -> Z' a = Z a := fun {a o} e => by
   show (if (H a).isSome = true then Z a else W' a) = Z a
   rw [atb (by rw [e]; rfl)]
 have zn : ∀ {a : Addr}, H a = none -> Z' a = W' a := fun {a} e => by
   show (if (H a).isSome = true then Z a else W' a) = W' a
   rw [as5 (by rw [e]; simp)]
 have sz : aT Z Z' := fun a o q => by rw [zs (S.zh a o q)]; exact q
 have zw' : ∀ a o, Z' a = some o -> W' a = some o := fun a o q => by
   cases e : H a with
   | none => rw [zn e] at q; exact q
   | some u => rw [zs e] at q; exact ww a o (zw a o q)
 have ztp : ∀ a o, H' a = some o -> pG o = true -> Z' a = some o := fun a o q i => by
   cases e : H a with
   | none => rw [zn e]; exact tp a o q i
   | some u =>
     rw [zs e]
     have := hh a u e
     rw [q] at this; cases this
     exact S.tp a o e i
 have r' : cP K CL H' Z' t v fp := by
   rcases c with c | c
   . have : Z' = W' := by
       funext a
       cases e : H a with
       | none => exact zn e
       | some u =>
         rw [zs e]
         cases q : W' a with
         | none =>
           cases q2 : Z a with
           | none => rfl
           | some o => rw [ww a o (zw a o q2)] at q; cases q
         | some o =>
           cases q2 : W a with
           | none => rw [new a o q q2] at e; cases e
           | some o2 =>
             have := ww a o2 q2
             rw [q] at this; cases this
             rw [← c]; exact q2
     rw [this]; exact r
   . refine cP.clean (fun a xs h => ?_) (fun {d v} k h => ?_) c r
     . exact ztp a _ (wh a _ h) rfl
     . exact cC.qc (H := H') ztp k (h.mono wh)
 obtain ⟨f0, g0, e0, r0, nd0, k0⟩ := S.rep
 have old : ∀ a ∈ f0 ++ g0, ∃ o, H a = some o := fun a ha => (ate.mp ha).elim (e0.there a) (r0.there a)
 have keep : ∀ a ∈ f0 ++ g0, H' a = H a := fun a ha => by
   obtain ⟨o, e⟩ := old a ha
   rw [e]; exact hh a o e
 refine ⟨Z', sz, ⟨⟨f0, fp ++ g0, e0.mono sz (fun a ha => keep a (as9 _ ha)), .cons r' (r0.mono sz fun a ha => keep a (as7 _ ha)), ?_, fun a ha => ?_⟩, S.bh.trans hh, S.zz.trans sz, fun a o q => wh a o (zw' a o q), fun a o q z => ?_, ztp, S.tab⟩⟩
 . have hp : (f0 ++ (fp ++ g0)).Perm (fp ++ (f0 ++ g0)) := by
     rw [← atc, ← atc]
     exact atJ.append_right g0
   refine hp.nodup_iff.mpr (atR.mpr ⟨nd, nd0, fun a ha c hc e => ?_⟩)
   subst e
   obtain ⟨o, q⟩ := old a hc
   rw [(own a ha).2] at q; cases q
 . have : a ∈ f0 ++ g0 \/ a ∈ fp := by
     simp only [ate] at ha ⊢
     rcases ha with h | h | h
     . exact .inl (.inl h)
     . exact .inr h
     . exact .inl (.inr h)
   rcases this with h | h
   . obtain ⟨o, q⟩ := old a h
     exact ⟨by rw [zs q]; exact (k0 a h).1, (k0 a h).2⟩
   . exact ⟨by rw [zn (own a h).2]; exact (own a h).1, S.bh.free (own a h).2⟩
 . cases e : H a with
   | none => exact S.bh.free e
   | some u => rw [zs e] at q; exact S.new a o q z
section
variable {δ1 δ2 : Q.n} {e1 e2 : Expr} {pos : Pos} {d d1 d2 : D}
theorem agV (h : Q.T) : eK X CL b e δ t.iU δ1 := fun H Z σ ts vs Q S k => h H Z σ ts vs Q S fun v H' Z' z s S' => k v H' Z' z s S'.pop S'.view
theorem ai (h : dH X CL b e δ (.sh d) δ1) : eK X CL b e δ d δ1 := by have := agV h; rwa [T.iU] at this
theorem b7 (h : eK X CL b e δ d δ1) (i : d.qc = true) : dH X CL b e δ (.sh d) δ1 := fun H Z σ ts vs Q S k => h H Z σ ts vs Q S fun v H' Z' z s S' r => k v H' Z' z s (S'.push (cC.qc S'.tp i r))
theorem RL (h : Q.T) : dH X CL b e δ (.sh t.iU) δ1 := fun H Z σ ts vs Q S k => h H Z σ ts vs Q S fun v H' Z' z s S' => by
 obtain ⟨Z2, z2, S2⟩ := S'.aaN
 exact k v H' Z2 (z.trans z2) s S2
theorem aj {i : Int} {j : Nat} : dH X CL b (.Constant (.int i) j pos) δ (.sh (.int i)) δ := fun H Z σ ts vs Q S k => dS aah (k _ _ Z Q.j Q.j (S.push (.int i)))
theorem gf {i : Bool} {j : Nat} : dH X CL b (.Constant (.bool i) j pos) δ (.sh (.bl i)) δ := fun H Z σ ts vs Q S k => dS akV (k _ _ Z Q.j Q.j (S.push (.bl i)))
theorem bz {x : Str} {j : Nat} : dH X CL b (.Constant (.str x) j pos) δ (.sh (.str x)) δ := fun H Z σ ts vs Q S k => dS ahv (k _ _ Z Q.j Q.j (S.push (.str x)))
section
variable {x : Str} (i : Nat) (hi : X.N[i]? = some x := by rfl) (hv : Vis X.env.scope x := by first | exact Or.inl rfl | exact Or.inr (Or.inl rfl) | exact Or.inr (Or.inr rfl)) (hd : Q.s := by decide) (rJ : Q.ao := by decide)
include hi hv hd rJ
theorem aie (h : δ[i]? = some (some (.sh d)) := by rfl) : dH X CL b Q.C δ (.sh d) δ := fun H Z σ ts vs Q S k => by
 obtain ⟨v, e, r⟩ := S.agU h
 exact dS (oE hi hv hd rJ) ⟨v, e, k v H Z Q.j Q.j (S.push r)⟩
theorem adY (h : δ[i]? = some (some t) := by rfl) : dH X CL b Q.C δ (.sh t.iU) (δ.set i (some (.sh t.iU))) := fun H Z σ ts vs Q S k => by
 obtain ⟨v, Z', e, z, S'⟩ := S.adX h
 exact dS (oE hi hv hd rJ) ⟨v, e, k v H Z' z Q.j S'⟩
theorem adZ (h : δ[i]? = some (some t) := by rfl) : dH X CL b Q.C δ t (δ.set i none) := fun H Z σ ts vs Q S k => by
 obtain ⟨v, e, S'⟩ := S.move h
 exact dS (oE hi hv hd rJ) ⟨v, e, k v H Z Q.j Q.j S'⟩
theorem aif (h : δ[i]? = some (some t) := by rfl) : eK X CL b Q.C δ t.iU δ := fun H Z σ ts vs Q S k => by
 obtain ⟨v, e, r⟩ := S.look h
 exact dS (oE hi hv hd rJ) ⟨v, e, k v H Z Q.j Q.j S r⟩
end
def scV : D -> Option V
 | .non => some .non
 | .bl b => some (.bl b)
 | .int i => some (.int i)
 | .str x => some (.str x)
 | _ => none
theorem cC.sc {d : D} {w : V} (r : cC K CL Z d v) (h : scV d = some w) : v = w := by
 cases r <;> first | (exact atX h) | (cases h)
theorem ad1 {d : D} {w : V} (h : scV d = some w) : cC K CL Z d w := by
 cases d <;> first | (cases h; constructor) | (cases h)
theorem wc {op : Operator} {r : R2} {w1 w2 w : V} (ho : vY X (binaryOp op) r) (h1 : eK X CL b e1 δ d1 δ1) (h2 : eK X CL b e2 δ1 d2 δ2) (s1 : scV d1 = some w1) (s2 : scV d2 = some w2) (s3 : scV d = some w)
   (hr : ∀ (H : Hp) (Q : VK), Q w H -> r w1 w2 H Q) : dH X CL b (.BinOp e1 op e2 pos) δ (.sh d) δ2 := fun H Z σ ts vs Q S k => by
 refine dS (aan ho fh fh) (h1 H Z σ ts vs _ S fun v1 H1 Z1 z1 k1 S1 r1 => h2 H1 Z1 σ ts vs _ S1 fun v2 H2 Z2 z2 k2 S2 r2 => ?_)
 rw [r1.sc s1, r2.sc s2]
 exact hr H2 Q (k w H2 Z2 Q.w Q.E (S2.push (ad1 s3)))
theorem bW {i j : Int} (h1 : Q.ae) (h2 : Q.ai) : dH X CL b (.BinOp e1 .Add e2 pos) δ (.sh (.int (i + j))) δ2 := wc ahO h1 h2 rfl rfl rfl fun _ _ q => ⟨i, j, rfl, rfl, q⟩
theorem dZ {i j : Int} (h1 : Q.ae) (h2 : Q.ai) : dH X CL b (.BinOp e1 .Sub e2 pos) δ (.sh (.int (i - j))) δ2 := wc ahP h1 h2 rfl rfl rfl fun _ _ q => ⟨i, j, rfl, rfl, q⟩
theorem RM {i j : Int} (h1 : Q.ae) (h2 : Q.ai) (c : adI i j) : dH X CL b (.BinOp e1 .Mult e2 pos) δ (.sh (.int (i * j))) δ2 := wc ahQ h1 h2 rfl rfl rfl fun _ _ q => ⟨i, j, rfl, rfl, c, q⟩
theorem aQ {i j : Int} (h1 : Q.ae) (h2 : Q.ai) (c : 0 < j) : dH X CL b (.BinOp e1 .Mod e2 pos) δ (.sh (.int (i % j))) δ2 := wc ahR h1 h2 rfl rfl rfl fun _ _ q => ⟨i, j, rfl, rfl, c, q⟩
theorem aR {i j : Int} (h1 : Q.ae) (h2 : Q.ai) (c : alb i j) : dH X CL b (.BinOp e1 .FloorDiv e2 pos) δ (.sh (.int (i / j))) δ2 := wc adJ h1 h2 rfl rfl rfl fun _ _ q => ⟨i, j, rfl, rfl, c, q⟩
theorem gO {i j : Int} (h1 : Q.ae) (h2 : Q.ai) (c : alc i j) : dH X CL b (.BinOp e1 .Pow e2 pos) δ (.sh (.int (i ^ j.toNat))) δ2 := wc ahT h1 h2 rfl rfl rfl fun _ _ q => ⟨i, j, rfl, rfl, c, q⟩
theorem t9 {x y : Str} (h1 : eK X CL b e1 δ (.str x) δ1) (h2 : eK X CL b e2 δ1 (.str y) δ2) (c : x.length + y.length <= sizeLine) : dH X CL b (.BinOp e1 .Add e2 pos) δ (.sh (.str (x ++ y))) δ2 := wc Rx h1 h2 rfl rfl rfl fun _ _ q => ⟨x, y, rfl, rfl, c, q⟩
theorem Fz {op : CmpOp} {r : R2} {p : Bool} {w1 w2 : V} (ho : vY X (compareOp op) r) (h1 : eK X CL b e1 δ d1 δ1) (h2 : eK X CL b e2 δ1 d2 δ2) (s1 : scV d1 = some w1) (s2 : scV d2 = some w2)
   (hr : ∀ (H : Hp) (Q : VK), Q (.bl p) H -> r w1 w2 H Q) (hm : behindInMarks op e2 = false) : xT X CL b (.Compare e1 [op] [e2] pos) δ p δ2 /\ dH X CL b (.Compare e1 [op] [e2] pos) δ (.sh (.bl p)) δ2 := by
 constructor
 . intro H Z σ ts vs Q S k
   refine J7 (xP ho fh fh hm) (h1 H Z σ ts vs _ S fun v1 H1 Z1 z1 k1 S1 r1 => h2 H1 Z1 σ ts vs _ S1 fun v2 H2 Z2 z2 k2 S2 r2 => ?_)
   rw [r1.sc s1, r2.sc s2]
   exact hr H2 _ ⟨p, rfl, k H2 Z2 Q.w Q.E S2⟩
 . intro H Z σ ts vs Q S k
   refine dS (xO ho fh fh hm) (h1 H Z σ ts vs _ S fun v1 H1 Z1 z1 k1 S1 r1 => h2 H1 Z1 σ ts vs _ S1 fun v2 H2 Z2 z2 k2 S2 r2 => ?_)
   rw [r1.sc s1, r2.sc s2]
   exact hr H2 _ (k _ H2 Z2 Q.w Q.E (S2.push (.bl p)))
theorem alB {w1 w2 : V} (h1 : eK X CL b e1 δ d1 δ1) (h2 : eK X CL b e2 δ1 d2 δ2) (s1 : scV d1 = some w1) (s2 : scV d2 = some w2) (sc : ahV w1 w2 = true) :
   xT X CL b (.Compare e1 [.Eq] [e2] pos) δ (decide (w1 = w2)) δ2 /\ dH X CL b (.Compare e1 [.Eq] [e2] pos) δ (.sh (.bl (decide (w1 = w2)))) δ2 := Fz aap h1 h2 s1 s2 (fun _ _ q => ⟨sc, q⟩) (t8 _)
theorem bI {i j : Int} (h1 : Q.ae) (h2 : Q.ai) : xT X CL b (.Compare e1 [.Eq] [e2] pos) δ (decide (i = j)) δ2 /\ dH X CL b (.Compare e1 [.Eq] [e2] pos) δ (.sh (.bl (decide (i = j)))) δ2 :=
 Fz aap h1 h2 rfl rfl (fun _ _ q => ⟨rfl, by rw [show decide (V.int i = V.int j) = decide (i = j) by simp]; exact q⟩) (t8 _)
theorem pU {i j : Int} (h1 : Q.ae) (h2 : Q.ai) : xT X CL b (.Compare e1 [.NotEq] [e2] pos) δ (!decide (i = j)) δ2 /\ dH X CL b (.Compare e1 [.NotEq] [e2] pos) δ (.sh (.bl (!decide (i = j)))) δ2 :=
 Fz agL h1 h2 rfl rfl (fun _ _ q => ⟨rfl, by rw [show decide (V.int i = V.int j) = decide (i = j) by simp]; exact q⟩) (t8 _)
theorem qN {i j : Str} (h1 : eK X CL b e1 δ (.str i) δ1) (h2 : eK X CL b e2 δ1 (.str j) δ2) : xT X CL b (.Compare e1 [.Eq] [e2] pos) δ (decide (i = j)) δ2 /\ dH X CL b (.Compare e1 [.Eq] [e2] pos) δ (.sh (.bl (decide (i = j)))) δ2 :=
 Fz aap h1 h2 rfl rfl (fun _ _ q => ⟨rfl, by rw [show decide (V.str i = V.str j) = decide (i = j) by simp]; exact q⟩) (t8 _)
theorem aaQ {i j : Str} (h1 : eK X CL b e1 δ (.str i) δ1) (h2 : eK X CL b e2 δ1 (.str j) δ2) : xT X CL b (.Compare e1 [.NotEq] [e2] pos) δ (!decide (i = j)) δ2 /\ dH X CL b (.Compare e1 [.NotEq] [e2] pos) δ (.sh (.bl (!decide (i = j)))) δ2 :=
 Fz agL h1 h2 rfl rfl (fun _ _ q => ⟨rfl, by rw [show decide (V.str i = V.str j) = decide (i = j) by simp]; exact q⟩) (t8 _)
theorem Hw {i j : Int} (h1 : Q.ae) (h2 : Q.ai) : xT X CL b (.Compare e1 [.Lt] [e2] pos) δ (decide (i < j)) δ2 /\ dH X CL b (.Compare e1 [.Lt] [e2] pos) δ (.sh (.bl (decide (i < j)))) δ2 := Fz VC h1 h2 rfl rfl (fun _ _ q => ⟨i, j, rfl, rfl, q⟩) (t8 _)
theorem O2 {i j : Int} (h1 : Q.ae) (h2 : Q.ai) : xT X CL b (.Compare e1 [.Gt] [e2] pos) δ (decide (j < i)) δ2 /\ dH X CL b (.Compare e1 [.Gt] [e2] pos) δ (.sh (.bl (decide (j < i)))) δ2 := Fz ale h1 h2 rfl rfl (fun _ _ q => ⟨i, j, rfl, rfl, q⟩) (t8 _)
end
theorem bL.split : ∀ {as bs : List T} {us ws : List V} {gp : Q.p}, as.length = us.length -> bL K CL H Z (as ++ bs) (us ++ ws) gp -> ∃ g1 g2, gp = g1 ++ g2 /\ bL K CL H Z as us g1 /\ bL K CL H Z bs ws g2
 | [], _, [], _, gp, _, r => ⟨[], gp, rfl, .nil, r⟩
 | [], _, _ :: _, _, _, h, _ => by simp at h
 | _ :: _, _, [], _, _, h, _ => by simp at h
 | a :: as, bs, u :: us, ws, gp, h, r => by
   cases r with
   | @cons _ _ _ _ f1 f2 r1 r2 =>
     obtain ⟨g1, g2, e, h1, h2⟩ := bL.split (as := as) (us := us) (by simpa using h) r2
     exact ⟨f1 ++ g1, g2, by rw [e, atc], .cons r1 h1, h2⟩
variable {us : List V}
theorem bL.app {as bs : List T} {ws : List V} {g1 g2 : Q.p} (h : bL K CL H Z as us g1) (q : bL K CL H Z bs ws g2) : bL K CL H Z (as ++ bs) (us ++ ws) (g1 ++ g2) :=
 bL.ind (P := fun as us g1 => bL K CL H Z (as ++ bs) (us ++ ws) (g1 ++ g2)) q (fun r _ i => by rw [atc]; exact .cons r i) h
theorem bL.rev : ∀ {as : List T} {us : List V} {g : Q.p}, bL K CL H Z as.reverse us.reverse g -> ∃ g', bL K CL H Z as us g' /\ g'.Perm g
 | [], [], g, r => by
   have r' : bL K CL H Z [] [] g := r
   cases r'
   exact ⟨[], .nil, avl _⟩
 | [], u :: us, g, r => by have := r.length; simp at this
 | a :: as, [], g, r => by have := r.length; simp at this
 | a :: as, u :: us, g, r => by
   rw [aue, aue] at r
   have hl := r.length
   obtain ⟨g1, g2, e, r1, r2⟩ := bL.split (by simp at hl ⊢; omega) r
   subst e
   obtain ⟨g', r', p⟩ := bL.rev r1
   cases r2 with
   | @cons _ _ _ _ f1 f2 q1 q2 =>
     cases q2
     refine ⟨f1 ++ g', .cons q1 r', ?_⟩
     rw [atY]
     exact (at7 f1 p).trans atJ
theorem rL : ∀ (ds : List D), T.lB (ds.map T.sh) = ds
 | [] => rfl
 | d :: ds => by rw [atG, T.lB, rL ds, T.iU]
variable {tl : List T}
theorem bZ.aaR (S : bZ K CL b H Z δ σ (tl.reverse ++ ts) (us.reverse ++ vs)) (hl : us.length = tl.length) (hp : H p = none) :
   aT Z (upd Z p (.tup us)) /\ aT H (upd H p (.tup us)) /\ bZ K CL b (upd H p (.tup us)) (upd Z p (.tup us)) δ σ (.tup tl :: ts) (.ref p :: vs) := by
 obtain ⟨fp, gp, e, r, nd, k⟩ := S.rep
 obtain ⟨g1, g2, eg, r1, r2⟩ := bL.split (by simp [hl]) r
 subst eg
 obtain ⟨g', r', pm⟩ := r1.rev
 have zp : Z p = none := S.zh.free hp
 have sz : aT Z (upd Z p (.tup us)) := aT.upd zp
 have sh : aT H (upd H p (.tup us)) := aT.upd hp
 have keep : ∀ a ∈ fp ++ (g1 ++ g2), a ≠ p := fun a ha => by
   have : ∃ o, H a = some o := by
     rcases ate.mp ha with h | h
     . exact e.there a h
     . exact r.there a h
   obtain ⟨o, q⟩ := this
   exact cM q hp
 have pm2 : (fp ++ (g' ++ g2)).Perm (fp ++ (g1 ++ g2)) := (pm.append_right g2).append_left fp
 have kk : ∀ a ∈ fp ++ (g' ++ g2), a ≠ p := fun a ha => keep a (pm2.mem_iff.mp ha)
 refine ⟨sz, sh, ⟨⟨fp, g' ++ g2, e.mono sz (fun a ha => aP (keep a (as9 _ ha))), .cons (.tup bR (r'.mono sz fun a ha => aP (kk a (by simp [ha])))) (r2.mono sz fun a ha => aP (keep a (by simp [ha]))), pm2.nodup_iff.mpr nd, fun a ha => ?_⟩, S.bh.trans sh, S.zz.trans sz, fun a o q => ?_, fun a o q z => ?_, fun a o q i => ?_, S.tab⟩⟩
 . exact ⟨by rw [aP (kk a ha)]; exact (k a (pm2.mem_iff.mp ha)).1, (k a (pm2.mem_iff.mp ha)).2⟩
 . by_cases ha : a = p
   . subst ha; rw [bR] at q ⊢; exact q
   . rw [aP ha] at q ⊢; exact S.zh a o q
 . by_cases ha : a = p
   . subst ha; exact S.bh.free hp
   . rw [aP ha] at q; exact S.new a o q z
 . by_cases ha : a = p
   . subst ha; rw [bR] at q ⊢; exact q
   . rw [aP ha] at q ⊢; exact S.tp a o q i
theorem bZ.zu {g0 : Q.p} (S : bZ K CL b H Z δ σ (tl.reverse ++ ts) (us.reverse ++ vs)) (hl : us.length = tl.length) (hp : H p = none) :
   aT H (upd H p (.lst us)) /\ bZ K CL b (upd H p (.lst us)) Z δ σ (.lst tl :: ts) (.ref p :: vs) := by
 obtain ⟨fp, gp, e, r, nd, k⟩ := S.rep
 obtain ⟨g1, g2, eg, r1, r2⟩ := bL.split (by simp [hl]) r
 subst eg
 obtain ⟨g', r', pm⟩ := r1.rev
 have zp : Z p = none := S.zh.free hp
 have sh : aT H (upd H p (.lst us)) := aT.upd hp
 have keep : ∀ a ∈ fp ++ (g1 ++ g2), a ≠ p := fun a ha => by
   have : ∃ o, H a = some o := by
     rcases ate.mp ha with h | h
     . exact e.there a h
     . exact r.there a h
   obtain ⟨o, q⟩ := this
   exact cM q hp
 have pm2 : (fp ++ (g' ++ g2)).Perm (fp ++ (g1 ++ g2)) := (pm.append_right g2).append_left fp
 have kk : ∀ a ∈ fp ++ (g' ++ g2), a ≠ p := fun a ha => keep a (pm2.mem_iff.mp ha)
 have pm3 : (fp ++ ((p :: g') ++ g2)).Perm (p :: (fp ++ (g' ++ g2))) := by
   rw [atV]; exact auD
 refine ⟨sh, ⟨⟨fp, (p :: g') ++ g2, e.mono Q.j (fun a ha => aP (keep a (as9 _ ha))), .cons (.lst bR (r'.mono Q.j fun a ha => aP (kk a (by simp [ha])))) (r2.mono Q.j fun a ha => aP (keep a (by simp [ha]))), ?_, fun a ha => ?_⟩, S.bh.trans sh, S.zz, S.zh.trans sh, S.new, fun a o q i => ?_, S.tab⟩⟩
 . refine pm3.nodup_iff.mpr (aud.mpr ⟨fun h => kk p h rfl, pm2.nodup_iff.mpr nd⟩)
 . rcases atl.mp (pm3.mem_iff.mp ha) with h | h
   . subst h; exact ⟨zp, S.bh.free hp⟩
   . exact k a (pm2.mem_iff.mp h)
 . by_cases ha : a = p
   . subst ha; rw [bR] at q; cases q; cases i
   . rw [aP ha] at q; exact S.tp a o q i
variable {δ1 δ2 : Q.n} {e1 e2 : Expr} {p q : Bool} {pos : Pos} {d : D} {ds : List D}
theorem cV : XJ X CL b [] δ [] δ := fun H Z σ ts vs Q S k => J8 iA (k [] H Z rfl Q.j Q.j S)
theorem bA (h1 : Q.T) (h2 : XJ X CL b es δ1 tl δ2) (hs : Q.R := by exact cE rfl) : XJ X CL b (e :: es) δ (t :: tl) δ2 := fun H Z σ ts vs Q S k =>
 J8 (dm fh VN hs) (h1 H Z σ ts vs _ S fun v H1 Z1 z1 k1 S1 => h2 H1 Z1 σ _ _ _ S1 fun us H2 Z2 hl z2 k2 S2 => k (v :: us) H2 Z2 (by simp [hl]) Q.w Q.E (by
   rw [aue, aue, atc, atc]
   exact S2))
theorem aG : BAv X CL b [] δ [] δ := fun H Z σ ts vs Q S k => J8 iA (k [] H Z Q.j Q.j S .nil)
theorem ao (h1 : eK X CL b e δ d δ1) (h2 : BAv X CL b es δ1 ds δ2) (hs : Q.R := by exact cE rfl) : BAv X CL b (e :: es) δ (d :: ds) δ2 := fun H Z σ ts vs Q S k =>
 J8 (dm fh VN hs) (h1 H Z σ ts vs _ S fun v H1 Z1 z1 k1 S1 r1 => h2 H1 Z1 σ _ _ _ S1 fun us H2 Z2 z2 k2 S2 r2 => k (v :: us) H2 Z2 Q.w Q.E S2 (.cons (r1.mono k2) r2))
variable {j : Nat}
theorem aaT (h : XJ X CL b es δ tl δ1) (hl : tl.length <= sizeLine) : dH X CL b (.Tuple es j pos) δ (.tup tl) δ1 := fun H Z σ ts vs Q S k =>
 dS (ahX VN) (h H Z σ ts vs _ S fun us H1 Z1 hu z1 k1 S1 => ⟨by rw [hu]; exact hl, fun p hp => by
   obtain ⟨a, c, S2⟩ := S1.aaR hu hp
   exact k _ _ _ (z1.trans a) (k1.trans c) S2⟩)
theorem bG (h : XJ X CL b es δ (ds.map T.sh) δ1) (hl : ds.length <= sizeLine) : dH X CL b (.Tuple es j pos) δ (.sh (.tup ds)) δ1 := by
 have := RL (aaT (pos := pos) (j := j) h (by simpa using hl))
 rwa [T.iU, rL] at this
theorem cR (h : XJ X CL b es δ tl δ1) (hl : tl.length <= sizeLine) : dH X CL b (.List es pos) δ (.lst tl) δ1 := fun H Z σ ts vs Q S k =>
 dS (ahY VN) (h H Z σ ts vs _ S fun us H1 Z1 hu z1 k1 S1 => ⟨by rw [hu]; exact hl, fun p hp => by
   obtain ⟨c, S2⟩ := S1.zu (g0 := []) hu hp
   exact k _ _ _ z1 (k1.trans c) S2⟩)
theorem kQ (h : dH X CL b e δ (.sh (.bl p)) δ1) (he : ∀ whole, isTrue e X.env whole = (do let v ← whole; standAt e.pos; holding [v] (truthy v)) := by intro _; rfl) : xT X CL b e δ p δ1 := fun H Z σ ts vs Q S k =>
 J7 (ahx fh he) (h H Z σ ts vs _ S fun v H1 Z1 z1 k1 S1 => ⟨p, by have := S1.view; rw [T.iU] at this; exact this.sc rfl, k H1 Z1 z1 k1 S1.pop⟩)
theorem gP (h : xT X CL b e δ p δ1) : xT X CL b (.UnaryOp .Not e pos) δ (!p) δ1 := fun H Z σ ts vs Q S k => J7 (ahA ptS) (h H Z σ ts vs _ S fun H1 Z1 z1 k1 S1 => k H1 Z1 z1 k1 S1)
def aih (X : Cx) (e : Expr) : TT := fun σ H Q => ∀ (whole : Sem Value) (pins : Q.o) (s : Shared), Inv X pins σ H s -> wpAny Q.k X.A (isTrue e X.env whole) (TP X pins σ Q) X.xe s
theorem pwS : PW X e (aih X e) := fun whole pins s _ _ _ I h => h whole pins s I
def TWv (X : Cx) (CL : Q.g) (b : Bx) (e : Expr) (δ : Q.n) (p : Bool) (δ' : Q.n) : Prop :=
 ∀ (H Z : Hp) (σ : L2.St) (ts : List T) (vs : List V) (Q : Bool -> Hp -> Prop), bZ X.K CL b H Z δ σ ts vs -> (∀ H' Z', aT Z Z' -> aT H H' -> bZ X.K CL b H' Z' δ' σ ts vs -> Q p H') -> aih X e σ H Q
theorem ad2 {t : TT} (h : PW X e t) (q : t σ H Q) : aih X e σ H Q := fun whole pins s I => h whole pins s σ H Q I q
theorem ua (h : TWv X CL b e δ p δ1) : xT X CL b e δ p δ1 := fun H Z σ ts vs Q S k pins s I => h H Z σ ts vs Q S k _ pins s I
theorem Bw (h : xT X CL b e δ p δ1) : TWv X CL b (.BoolOp .And [e] pos) δ p δ1 := fun H Z σ ts vs Q S k => ad2 (adB ptS) (h H Z σ ts vs _ S k)
theorem wg (h : xT X CL b e δ p δ1) : TWv X CL b (.BoolOp .Or [e] pos) δ p δ1 := fun H Z σ ts vs Q S k => ad2 (ahy ptS) (h H Z σ ts vs _ S k)
theorem sO (h : xT X CL b e δ p δ1) (h2 : p = true -> TWv X CL b (.BoolOp .And (e2 :: es) pos) δ1 q δ1) : TWv X CL b (.BoolOp .And (e :: e2 :: es) pos) δ (p && q) δ1 := fun H Z σ ts vs Q S k =>
 ad2 (ahz ptS pwS) (h H Z σ ts vs _ S fun H1 Z1 z1 k1 S1 => by
   cases p with
   | true => exact XF (h2 rfl H1 Z1 σ ts vs _ S1 fun H2 Z2 z2 k2 S2 => k H2 Z2 Q.w Q.E S2)
   | false => exact XD (k H1 Z1 z1 k1 S1))
theorem tD (h : xT X CL b e δ p δ1) (h2 : p = false -> TWv X CL b (.BoolOp .Or (e2 :: es) pos) δ1 q δ1) : TWv X CL b (.BoolOp .Or (e :: e2 :: es) pos) δ (p || q) δ1 := fun H Z σ ts vs Q S k =>
 ad2 (akW ptS pwS) (h H Z σ ts vs _ S fun H1 Z1 z1 k1 S1 => by
   cases p with
   | true => exact XF (k H1 Z1 z1 k1 S1)
   | false => exact XD (h2 rfl H1 Z1 σ ts vs _ S1 fun H2 Z2 z2 k2 S2 => k H2 Z2 Q.w Q.E S2))
theorem zv {op : BoolOp} (h : Q.T) : dH X CL b (.BoolOp op [e] pos) δ t δ1 := fun H Z σ ts vs Q S k => dS (ahB fh) (h H Z σ ts vs _ S k)
theorem uc (h : dH X CL b e δ (.sh (.bl p)) δ1) (h2 : p = true -> dH X CL b (.BoolOp .And (e2 :: es) pos) δ1 (.sh (.bl q)) δ1) : dH X CL b (.BoolOp .And (e :: e2 :: es) pos) δ (.sh (.bl (p && q))) δ1 := fun H Z σ ts vs Q S k =>
 dS (ahC fh fh) (h H Z σ ts vs _ S fun v H1 Z1 z1 k1 S1 => by
   have hv : v = .bl p := by have := S1.view; rw [T.iU] at this; exact this.sc rfl
   refine ⟨p, hv, ?_⟩
   cases p with
   | true => exact XF (h2 rfl H1 Z1 σ ts vs _ S1.pop fun v H2 Z2 z2 k2 S2 => k v H2 Z2 Q.w Q.E S2)
   | false => exact XD (k _ H1 Z1 z1 k1 (S1.pop.push (.bl false))))
theorem alC (h : dH X CL b e δ (.sh (.bl p)) δ1) (h2 : p = false -> dH X CL b (.BoolOp .Or (e2 :: es) pos) δ1 (.sh (.bl q)) δ1) : dH X CL b (.BoolOp .Or (e :: e2 :: es) pos) δ (.sh (.bl (p || q))) δ1 := fun H Z σ ts vs Q S k =>
 dS (akY fh fh) (h H Z σ ts vs _ S fun v H1 Z1 z1 k1 S1 => by
   have hv : v = .bl p := by have := S1.view; rw [T.iU] at this; exact this.sc rfl
   refine ⟨p, hv, ?_⟩
   cases p with
   | true => exact XF (k _ H1 Z1 z1 k1 (S1.pop.push (.bl true)))
   | false => exact XD (h2 rfl H1 Z1 σ ts vs _ S1.pop fun v H2 Z2 z2 k2 S2 => k v H2 Z2 Q.w Q.E S2))
variable {k : Int}
theorem VR (r : aX K CL Z ds vs) (h : yW ds k = some d) : ∃ v, yW vs k = some v /\ cC K CL Z d v := by
 unfold yW at h ⊢
 rw [← r.length]
 cases e : xQ ds.length k with
 | none => rw [e] at h; cases h
 | some j =>
   rw [e] at h
   exact r.get h
theorem dN (h1 : eK X CL b e1 δ (.tup ds) δ1) (h2 : eK X CL b e2 δ1 (.int k) δ2) (hk : yW ds k = some d) (hs : Bq e2 := by exact fun _ _ => rfl) : eK X CL b (.Subscript e1 e2 pos) δ d δ2 := fun H Z σ ts vs Q S kk =>
 dS (OX aaz fh fh hs) (h1 H Z σ ts vs _ S fun v1 H1 Z1 z1 k1 S1 r1 => h2 H1 Z1 σ ts vs _ S1 fun v2 H2 Z2 z2 k2 S2 r2 => by
   have r1' := r1.mono k2
   cases r1' with
   | tup hq rr =>
     obtain ⟨v, hv, rv⟩ := VR rr hk
     exact ⟨_, _, k, v, rfl, r2.sc rfl, hq, hv, kk v H2 Z2 Q.w Q.E S2 rv⟩)
theorem bu (h1 : eK X CL b e1 δ (.lst ds) δ1) (h2 : eK X CL b e2 δ1 (.int k) δ2) (hk : yW ds k = some d) (hs : Bq e2 := by exact fun _ _ => rfl) : eK X CL b (.Subscript e1 e2 pos) δ d δ2 := fun H Z σ ts vs Q S kk =>
 dS (OX VJ fh fh hs) (h1 H Z σ ts vs _ S fun v1 H1 Z1 z1 k1 S1 r1 => h2 H1 Z1 σ ts vs _ S1 fun v2 H2 Z2 z2 k2 S2 r2 => by
   have r1' := r1.mono k2
   cases r1' with
   | lst hq rr =>
     obtain ⟨v, hv, rv⟩ := VR rr hk
     exact ⟨_, _, k, v, rfl, r2.sc rfl, hq, hv, kk v H2 Z2 Q.w Q.E S2 rv⟩)
variable {x : Str}
theorem aaU {c : Nat} (h1 : eK X CL b e1 δ (.str x) δ1) (h2 : eK X CL b e2 δ1 (.int k) δ2) (hl : x.length <= sizeLine) (hk : yW x.cps.toList k = some c) (hs : Bq e2 := by exact fun _ _ => rfl) : dH X CL b (.Subscript e1 e2 pos) δ (.sh (.str ⟨#[c]⟩)) δ2 := fun H Z σ ts vs Q S kk =>
 dS (OX ah2 fh fh hs) (h1 H Z σ ts vs _ S fun v1 H1 Z1 z1 k1 S1 r1 => h2 H1 Z1 σ ts vs _ S1 fun v2 H2 Z2 z2 k2 S2 r2 =>
   ⟨x, k, c, r1.sc rfl, r2.sc rfl, hl, hk, kk _ H2 Z2 Q.w Q.E (S2.push (.str _))⟩)
theorem bZ.FD : ∀ {ds : List D} {us : List V} {ts : List T} {vs : List V}, aX K CL Z ds us -> bZ K CL b H Z δ σ ts vs -> bZ K CL b H Z δ σ ((ds.map T.sh).reverse ++ ts) (us.reverse ++ vs)
 | _, _, _, _, .nil, S => S
 | _, _, ts, vs, .cons (d := d) (v := v) (ds := ds) (vs := us) r t, S => by
   rw [atG, aue, aue, atc, atc]
   exact bZ.FD t (S.push r)
section
variable {pp : Pos} {ds : List D}
theorem VW (hm : X.mg "len" = none) (h : eK X CL b e δ (.lst ds) δ1) (hg : Gl X "len" := by rfl) (hs : Q.aa := by exact cE rfl) (hpl : (backTo pos (starEach ([] : List Expr) X.env)).any (·.1) = false := by rfl) : dH X CL b (.Call (.Name "len" pp) [e] [] pos) δ (.sh (.int ds.length)) δ1 := fun H Z σ ts vs Q S k =>
 dS (vZ Lg hg hm PySem.boot_len (dm fh iA hs) (he := hs)) (h H Z σ ts vs _ S fun v H1 Z1 z1 k1 S1 r => by
   cases r with
   | lst hq rr => exact ⟨_, _, rfl, .inl hq, by rw [← rr.length]; exact k _ H1 Z1 z1 k1 (S1.push (.int _))⟩)
theorem ad3 (hm : X.mg "len" = none) (h : eK X CL b e δ (.str x) δ1) (hl : x.length <= sizeLine) (hg : Gl X "len" := by rfl) (hs : Q.aa := by exact cE rfl) : dH X CL b (.Call (.Name "len" pp) [e] [] pos) δ (.sh (.int x.length)) δ1 := fun H Z σ ts vs Q S k =>
 dS (vZ Lh hg hm PySem.boot_len (dm fh iA hs) (he := hs)) (h H Z σ ts vs _ S fun v H1 Z1 z1 k1 S1 r => ⟨x, by rw [r.sc rfl], hl, k _ H1 Z1 z1 k1 (S1.push (.int _))⟩)
theorem Kx (hm : X.mg "list" = none) (h : dH X CL b e δ (.sh (.tup ds)) δ1) (hg : Gl X "list" := by rfl) (hv : bootBuiltins "list" = some (.type "list") := by rfl) (hs : Q.aa := by exact cE rfl) : dH X CL b (.Call (.Name "list" pp) [e] [] pos) δ (.lst (ds.map T.sh)) δ1 := fun H Z σ ts vs Q S k =>
 dS (qD Bs hg hm hv (dm fh iA hs) (he := hs)) (h H Z σ ts vs _ S fun v H1 Z1 z1 k1 S1 => by
   obtain ⟨fp, gp, _, r, _, _⟩ := S1.rep
   cases r with
   | cons r _ =>
     cases r with
     | sh r =>
       cases r with
       | tup hq rr =>
         refine ⟨_, _, rfl, .inr (aT.sqT S1.zh hq), fun l hl => ?_⟩
         obtain ⟨c, S2⟩ := (bZ.FD rr S1.pop).zu (g0 := []) (by simp [rr.length]) hl
         exact k _ _ _ z1 (k1.trans c) S2)
theorem fj (hm : X.mg "list" = none) (h : eK X CL b e δ (.lst ds) δ1) (hi : D.cZ ds = true) (hg : Gl X "list" := by rfl) (hv : bootBuiltins "list" = some (.type "list") := by rfl) (hs : Q.aa := by exact cE rfl) : dH X CL b (.Call (.Name "list" pp) [e] [] pos) δ (.lst (ds.map T.sh)) δ1 := fun H Z σ ts vs Q S k =>
 dS (qD Bs hg hm hv (dm fh iA hs) (he := hs)) (h H Z σ ts vs _ S fun v H1 Z1 z1 k1 S1 r => by
   cases r with
   | lst hq rr =>
     refine ⟨_, _, rfl, .inl hq, fun l hl => ?_⟩
     obtain ⟨c, S2⟩ := (bZ.FD (aX.qc S1.tp hi rr) S1).zu (g0 := []) (by simp [rr.length]) hl
     exact k _ _ _ z1 (k1.trans c) S2)
def XM (K : Q.l) (CL : Q.g) {A : Type} (n : Nat) (arg : A -> List D) (Pre : A -> Prop) (res : A -> T) : Sp := fun vs H Q _ =>
 ∃ (W : Hp) (a : A), aT W H /\ (∀ c o, H c = some o -> pG o = true -> W c = some o) /\ aX K CL W (arg a) vs /\ (arg a).length = n /\ Pre a /\ pT CL W ∧
   ∀ v H' W' fp, aT H H' -> aT W W' -> aT W' H' -> (∀ c o, W' c = some o -> W c = none -> H c = none) -> (∀ c o, H' c = some o -> pG o = true -> W' c = some o) →
     cP K CL H' W' (res a) v fp -> fp.Nodup -> (∀ c ∈ fp, W' c = none /\ H c = none) -> Q v H'
variable {A : Type} {k n : Nat} {f : Addr} {fd : FuncData} {ps : Q.h} {arg : A -> List D} {Pre : A -> Prop} {res : A -> T}
theorem ad4 (a : A) (F : iy X.prog X.w X.K X.mg X.base xS k f fd ps (XM X.K CL n arg Pre res)) (hr : jH k X.A) (hm : X.mg x = some (.ref f)) (hk : PySem.W.keepIn X.K (.ref f) = true) (hb : Binds X.K fd ps [])
   (h : BAv X CL b (e :: es) δ (arg a) δ1) (hn : (arg a).length = n) (hp : Pre a) (hc : (res a).clean = true) (hg : Gl X x)
   (Bo : Q.s := by decide) (he : Q.R := by exact cE rfl) (hpl : Q.ac := by rfl) :
   dH X CL b Q.aw δ (res a) δ1 := fun H Z σ ts vs Q S kk =>
 dS (VF F hr hg hm hk hb .nil OZ VN Bo he hpl) (h H Z σ ts vs _ S fun us H1 Z1 z1 k1 S1 r => by
   rw [atY]
   refine ⟨H1, a, .refl _, fun _ _ q _ => q, r, hn, hp, S1.aaM, fun v H' W' fp hh ww wh nw tp rt nd own => ?_⟩
   obtain ⟨Z', z', S'⟩ := S1.back hh S1.zh ww wh nw tp rt nd own (.inr hc)
   exact kk v H' Z' (z1.trans z') (k1.trans hh) S')
variable {D D' : g6} {st : Stmt} {fS alD : List Stmt}
theorem Meets.to {E : Ends} (M : Meets K CL b Z ts vs D E) (h1 : ∀ δ, D'.nx δ -> D.nx δ) (h2 : ∀ t δ, D'.rt t δ -> D.rt t δ) (h3 : ∀ δ, D'.bk δ -> D.bk δ) (h4 : ∀ δ, D'.ct δ -> D.ct δ) : Meets K CL b Z ts vs D' E :=
 ⟨fun _ _ _ _ s S k => M.nx _ _ _ _ s S (h1 _ k), fun _ _ _ _ _ _ s S k => M.rt _ _ _ _ _ _ s S (h2 _ _ k), fun _ _ _ _ s S k => M.bk _ _ _ _ s S (h3 _ k), fun _ _ _ _ s S k => M.ct _ _ _ _ s S (h4 _ k)⟩
theorem ak (h : D.nx δ) : dY X CL b [] δ D := fun H Z σ ts vs E S M => aaL adD (M.nx δ σ H Z Q.j S h)
theorem dh (h : TSv X CL b st δ { D with nx := fun δ1 => dY X CL b fS δ1 D }) : dY X CL b (st :: fS) δ D := fun H Z σ ts vs E S M =>
 aaL (Bj psS XH) (h H Z σ ts vs _ S ⟨fun δ' σ' H' Z' s S' k => k H' Z' σ' ts vs E S' (M.mono s), M.rt, M.bk, M.ct⟩)
theorem aik (h : Q.T) (k : D.rt t δ1) : TSv X CL b (.Return (some e) pos) δ D := fun H Z σ ts vs E S M => v8 (ahD fh) (h H Z σ ts vs _ S fun v H1 Z1 z1 k1 S1 => M.rt t v H1 Z1 δ1 σ z1 S1 k)
theorem alE (h : xT X CL b e δ p δ1) (h1 : p = true -> dY X CL b fS δ1 D) (h2 : p = false -> dY X CL b alD δ1 D) : TSv X CL b (.If e fS alD pos) δ D := fun H Z σ ts vs E S M =>
 v8 (ak1 ptS XH XH) (h H Z σ ts vs _ S fun H1 Z1 z1 k1 S1 => by
   cases p with
   | true => exact XF (h1 rfl H1 Z1 σ ts vs E S1 (M.mono z1))
   | false => exact XD (h2 rfl H1 Z1 σ ts vs E S1 (M.mono z1)))
theorem RN (i : Nat) {pos' : Pos} (h : Q.T) (k : D.nx (δ1.set i (some t))) (hl : i < δ1.length := by decide) (hN : X.N.Nodup := by assumption) (hi : X.N[i]? = some x := by rfl) (hx : Loc X.env.scope x := by first | exact .inl rfl | exact .inr rfl)
   (hs : Q.aK := by rfl) (hf : Q.aL := by first | exact .inl rfl | exact .inr rfl | assumption) : TSv X CL b (.Assign [.Name x pos'] e pos) δ D := fun H Z σ ts vs E S M =>
 v8 (Rt hN hi hx fh hs hf) (h H Z σ ts vs _ S fun v H1 Z1 z1 k1 S1 => M.nx _ _ H1 Z1 z1 (S1.set hl) k)
end
def entry (N : Q.h) (ds : List D) : List (Option T) := ds.map (fun d => some (T.sh d)) ++ List.replicate (N.length - ds.length) none
theorem oF {K : Q.l} {CL : Q.g} {H Z : Hp} : ∀ {ds : List D} {vs : List V} (n : Nat), aX K CL Z ds vs -> fQ K CL H Z (ds.map (fun d => some (T.sh d)) ++ List.replicate n none) (vs.map some ++ List.replicate n none) []
 | _, _, 0, .nil => .nil
 | _, _, n + 1, .nil => .skip (oF (ds := []) (vs := []) n .nil)
 | _, _, n, .cons r t => .cons (fp := []) (gp := []) (.sh r) (oF n t)
variable {P : Program} {w : World} {mg : Q.B} {base : Heap} {st : Stmt} {f : Addr} {fd : FuncData} {N ps : Q.h} {A : Type}
theorem Lq {qual : Str} {k : Nat} {arg : A -> List D} {Pre : A -> Prop} {res : A -> T} (F : ow K x qual st f fd) (S : aZ N ps (az st))
   (hb : ∀ (lC : Value) (Ar : Around) (outer : List Env) (s : Shared) (H : Hp) (E : XK) (b : Bx) (a : A), jH k Q.aY -> Pre a →
     dY (DR xS P w K mg base N qual (az st) f lC Ar outer s H E).nox CL b (dW st) (entry N (arg a)) { nx := fun _ => res a = .sh .non, rt := fun t _ => t = res a }) :
   iy P w K mg base xS (k + 1) f fd ps (XM K CL ps.length arg Pre res) := by
 refine F.ok S (fun vs H Q E h => ?_) (fun lC Ar outer s H vs Q E hr h => ?_)
 . obtain ⟨W, a, _, _, r, hl, _⟩ := h
   rw [← r.length]; exact hl
 . obtain ⟨W, a, wh, tp, r, hl, hp, tb, kk⟩ := h
   refine ⟨_, XH, hb lC Ar outer s H E ⟨H, W⟩ a hr hp H W _ [] [] _ ⟨⟨[], [], ?_, .nil, auz, fun a ha => by cases ha⟩, .refl _, .refl _, wh, fun a o q z => ?_, tp, tb⟩ ⟨fun δ' σ' H' Z' s' S' e => ?_, fun t v H' Z' δ' σ' s' S' e => ?_, fun _ _ _ _ _ _ e => e.elim, fun _ _ _ _ _ _ e => e.elim⟩⟩
   . unfold entry L2.start
     rw [← r.length]
     exact oF _ r
   . have q' : W a = some o := q
     have z' : W a = none := z
     rw [q'] at z'; cases z'
   . exact kk .non H' Z' [] S'.bh S'.zz S'.zh S'.new S'.tp (by rw [show res a = .sh .non from e]; exact .sh .non) auz fun a ha => by cases ha
   . have e' : t = res a := e
     subst e'
     obtain ⟨fp, gp, _, r', nd, own⟩ := S'.rep
     cases r' with
     | @cons _ _ _ _ f1 f2 r1 r2 =>
       have h1 := (atR.mp nd).2.1
       exact kk v H' Z' f1 S'.bh S'.zz S'.zh S'.new S'.tp r1 (atR.mp h1).1 fun a ha => own a (as7 _ (as9 _ ha))
variable {prog : Program} {A : Around} {R : Result -> Shared -> Prop} {s : Shared} {elt iter : Expr} {ifs : List Expr} {scope : Scope}
theorem Lr {target : Expr} {it acc : Value} (I : Nat -> Shared -> Prop)
   (turn : ∀ n s, I n s -> wpAny Q.Q A (pyNext it) (fun r s₁ => match r with
     | none => R (.ok .next) s₁
     | some v => wpAny Q.Q A (letOwnedTupleGo target it v) (fun _ s₁' => wpAny Q.Q A (assign target env v) (fun _ s₂ =>
         wpAny Q.Q A (forIn ifs true fun c r => if r = true then do let ok ← isTrue c env (eval c env); pure (ForInStep.yield ok) else pure (ForInStep.yield r)) (fun ok s₃ =>
           if ok = true then wpAny Q.Q A (eval elt env) (fun x s₄ =>
             wpAny Q.Q A (call (.builtin "list.append") [acc, x]) (fun _ s₅ => ∃ m, m < n /\ I m s₅) (fun _ _ => False) s₄) (fun _ _ => False) s₃
           else ∃ m, m < n /\ I m s₃) (fun _ _ => False) s₂) (fun _ _ => False) s₁') (fun _ _ => False) s₁) (fun _ _ => False) s)
   (n : Nat) (h : I n s) :
   codeAny Q.Q A (.compLoop (.ListComp elt [⟨target, iter, ifs, 0⟩] scope pos) 0 it acc env) R s := by
 refine codeAny_loop rfl I (fun n s hI => ?_) n h
 show wpAny _ A ((compTurn (.ListComp elt [⟨target, iter, ifs, 0⟩] scope pos) 0 it acc env).onRaise (fun x => do noteFrame x env; theTreesLotGoes x)) _ _ s
 refine wpAny_noted ?_
 rw [compTurn_list]
 refine aty (wpAny_standAt (aty (auf (turn n s hI) (fun r s₁ h₁ => ?_) fun _ _ h' => h'.elim)))
 cases r with
 | none => exact at5 h₁
 | some v =>
   refine aty (auf h₁ (fun _ s₁' h₁' => ?_) fun _ _ h' => h'.elim)
   refine aty (auf h₁' (fun _ s₂ h₂ => aty (auf h₂ (fun ok s₃ h₃ => ?_) fun _ _ h' => h'.elim)) fun _ _ h' => h'.elim)
   cases ok with
   | false => exact at5 ⟨rfl, h₃⟩
   | true =>
     exact aty (aty (auf h₃ (fun x s₄ h₄ => aty (auf h₄ (fun _ s₅ h₅ => at5 (at5 ⟨rfl, h₅⟩)) fun _ _ h' => h'.elim)) fun _ _ h' => h'.elim))
def mG (env : Env) : List (Str × NameKind) -> List (Str × Addr) -> List (Str × Addr)
 | [], cs => cs
 | (n, k) :: r, cs => mG env r (if k == .free then (n, (env.cells.lookup n).getD 0) :: cs else cs)
theorem J9 (h : ∀ x ∈ scope.names, x.2 = .free -> ∃ c, env.cells.lookup x.1 = some c) : closureFor scope env = pure (mG env scope.names []) := by
 have go : ∀ (l : List (Str × NameKind)) (cs : List (Str × Addr)), (∀ x ∈ l, x.2 = .free -> ∃ c, env.cells.lookup x.1 = some c) →
     (forIn l cs fun x r => match x with | (name, kind) => if (kind == NameKind.free) = true then do let a ← cellOf env name; pure (ForInStep.yield ((name, a) :: r)) else pure (ForInStep.yield r) : Sem (List (Str × Addr))) = pure (mG env l cs) := by
   intro l
   induction l with
   | nil => intro cs _; rfl
   | cons x r ih =>
     intro cs hx
     obtain ⟨n, k⟩ := x
     rw [List.forIn_cons]
     by_cases hk : k = .free
     . subst hk
       obtain ⟨c, hc⟩ := hx (n, .free) ati rfl
       have e : cellOf env n = pure c := by unfold cellOf; rw [hc]
       simp only [auP, if_true, e, pure_bind]
       rw [ih _ fun y hy => hx y (atk _ hy)]
       simp only [mG, auP, if_true]
       rw [hc]; rfl
     . have hb : (k == NameKind.free) = false := by simpa using hk
       simp only [hb, Bool.false_eq_true, if_false, pure_bind]
       rw [ih _ fun y hy => hx y (atk _ hy)]
       simp only [mG, hb, Bool.false_eq_true, if_false]
 unfold closureFor
 have := go scope.names [] h
 simp only [bind_pure] at this ⊢
 exact this
theorem zx {env : Env} : ∀ {l : List (Str × NameKind)} {cs : List (Str × Addr)} {y : Str} {c : Addr}, (∀ x ∈ l, x.2 = .free -> ∃ c, env.cells.lookup x.1 = some c) -> (∀ y c, cs.lookup y = some c -> env.cells.lookup y = some c) →
   (mG env l cs).lookup y = some c -> env.cells.lookup y = some c
 | [], cs, y, c, _, h, e => h y c e
 | (n, k) :: r, cs, y, c, hx, h, e => by
   refine zx (l := r) (fun z hz => hx z (atk _ hz)) (fun z d hz => ?_) e
   by_cases hk : k = .free
   . subst hk
     obtain ⟨c', hc⟩ := hx (n, .free) ati rfl
     simp only [auP, if_true, hc, Option.getD_some, atW] at hz
     by_cases hzn : (z == n) = true
     . rw [hzn] at hz
       have : z = n := by simpa using hzn
       subst this
       cases hz
       exact hc
     . have : (z == n) = false := by simpa using hzn
       rw [this] at hz
       exact h z d hz
   . have hb : (k == NameKind.free) = false := by simpa using hk
     rw [hb] at hz
     exact h z d hz
theorem FE {env : Env} {y : Str} : ∀ {l : List (Str × NameKind)} {cs : List (Str × Addr)}, (∃ c, cs.lookup y = some c) -> ∃ c, (mG env l cs).lookup y = some c
 | [], cs, h => h
 | (n, k) :: r, cs, h => by
   refine FE (l := r) ?_
   by_cases hk : (k == NameKind.free) = true
   . rw [atb hk, atW]
     by_cases hy : (y == n) = true
     . rw [hy]; exact ⟨_, rfl⟩
     . have : (y == n) = false := by simpa using hy
       rw [this]; exact h
   . rw [as5 hk]; exact h
theorem zy {env : Env} {y : Str} : ∀ {l : List (Str × NameKind)} {cs : List (Str × Addr)}, l.lookup y = some .free -> ∃ c, (mG env l cs).lookup y = some c
 | [], _, h => by simp at h
 | (n, k) :: r, cs, h => by
   rw [atW] at h
   by_cases hy : (y == n) = true
   . rw [hy] at h
     cases h
     refine FE (l := r) ?_
     rw [atb (by rfl), atW, hy]
     exact ⟨_, rfl⟩
   . have : (y == n) = false := by simpa using hy
     rw [this] at h
     exact zy (l := r) h
def fU (X : Cx) (scope : Scope) (Nc : Q.h) (C : Addr) (s : Shared) (H : Hp) (fp : Q.p) : Cx where
 prog := X.prog
 w := X.w
 K := X.K
 mg := X.mg
 base := X.base
 A := X.A
 N := Nc
 s₀ := s
 H₀ := H
 env := compEnvC scope (mG X.env scope.names []) C X.env
 outer := X.stack
 stack := X.stack
 ex := fp
 fn := fun _ => false
 calm := X.calm
 pn := []
 xe := fun _ _ => False
structure tE (X : Cx) (scope : Scope) (x : Str) (Nc : Q.h) (ix : List Nat) : Prop where
 kind : scope.kind = .function
 Ls : ∀ y ∈ scope.names, y.2 ≠ .cell
 nd : Nc.Nodup
 names : ∀ y ∈ scope.names, y.2 = .local -> scope.names.lookup y.1 = some .local
 own : scope.names.lookup x = some .local
 frees : ∀ y ∈ scope.names, y.2 = .free -> scope.names.lookup y.1 = some .free /\ (X.env.kindOf y.1 = some .cell \/ X.env.kindOf y.1 = some .free)
 hd : Nc = x :: ix.filterMap (X.N[·]?)
 ixs : ∀ i ∈ ix, ∃ y, X.N[i]? = some y /\ scope.names.lookup y = some .free
theorem jI {env : Env} : ∀ {names : List (Str × NameKind)} {x : Str} {k : NameKind}, names.lookup x = some k -> 
   (names.map fun (n, k) => if (k == NameKind.free && env.scope.kind == .function && env.kindOf n == some .cell) then (n, NameKind.cell) else (n, k)).lookup x = some (if (k == NameKind.free && env.scope.kind == .function && env.kindOf x == some .cell) then .cell else k)
 | [], _, _, h => by simp at h
 | (n, k') :: r, x, k, h => by
   have ih := @jI env r x k
   show List.lookup x ((if (k' == NameKind.free && env.scope.kind == .function && env.kindOf n == some .cell) = true then (n, NameKind.cell) else (n, k')) :: _) = _
   cases hx : x == n with
   | true =>
     simp only [atW, hx] at h
     cases h
     have e : x = n := by simpa using hx
     subst e
     split <;> simp [atW]
   | false =>
     simp only [atW, hx] at h
     split
     . simp only [atW, hx]; exact ih h
     . simp only [atW, hx]; exact ih h
theorem p9 {env : Env} : ∀ {names : List (Str × NameKind)} {x : Str}, names.lookup x = none -> 
   (names.map fun (n, k) => if (k == NameKind.free && env.scope.kind == .function && env.kindOf n == some .cell) then (n, NameKind.cell) else (n, k)).lookup x = none
 | [], _, _ => rfl
 | (n, k') :: r, x, h => by
   have ih := @p9 env r x
   show List.lookup x ((if (k' == NameKind.free && env.scope.kind == .function && env.kindOf n == some .cell) = true then (n, NameKind.cell) else (n, k')) :: _) = _
   cases hx : x == n with
   | true => simp only [atW, hx] at h; cases h
   | false =>
     simp only [atW, hx] at h
     split
     . simp only [atW, hx]; exact ih h
     . simp only [atW, hx]; exact ih h
variable {Nc : Q.h} {pins : Q.o}
theorem XO {Ko : Q.o} {σ' : L2.St} {s' : Shared} {h'' : Heap} (I : Q.m) (v9 : ∀ b ∈ fp, F4 X pins H b)
   (J : Inv (fU X scope Nc s.heap.objs.size s H fp) Ko σ' H' s') (hs : Heap.SameBut s.heap.objs.size s'.heap h'') : Inv X pins σ H' { s' with heap := h'' } := by
 have un : Un (vW X.stack) fp H H' s.heap s'.heap := J.base
 have un2 : Un (vW X.stack) fp H H' s.heap h'' := by
   have ne : ∀ b o, s.heap.get? b = some o -> b ≠ s.heap.objs.size := fun b o e => at3 (atA e)
   refine ⟨fun b o e n hb hx => (hs.2 b (ne b o e)).trans (un.keep b o e n hb hx), fun b o e n hb hx => ?_, un.free, fun b o e hx => ?_, un.F2, un.lB, un.F3⟩
   . obtain ⟨sl, q⟩ := un.slot b o e n hb hx
     exact ⟨sl, (hs.2 b (ne b o e)).trans q⟩
   . obtain ⟨o', q⟩ := un.there b o e hx
     exact ⟨o', (hs.2 b (ne b o e)).trans q⟩
 have nC : H' s.heap.objs.size = none := J.free
 have gS : xN X.prog X.w H' h'' := fun b u e => by
   refine (J.gS b u e).J3 (fun c v hc q => (hs.2 c ?_).trans q) (fun _ q => q) fun _ _ q => q
   rintro rfl
   rcases hc with z | z
   . subst z; rw [nC] at e; cases e
   . rw [nC] at z; cases z
 obtain ⟨hh, g, d, t, os'⟩ := s'
 obtain rfl : os' = s.os := J.os
 show L2.Inv X pins σ H' { s with heap := h'', gens := g, drawn := d, toks := t }
 exact I.call (h' := h'') (g' := g) (d' := d) (t' := t) (ch := fp) un2 gS J.bare fun b hb => ⟨(v9 b hb).2.2.2.1, (v9 b hb).2.1, (v9 b hb).2.2.2.2.1, (v9 b hb).2.2.2.2.2⟩
def ail (X : Cx) : List Expr -> TT
 | [] => fun _ H Q => Q true H
 | [c] => adV X c
 | _ => fun _ _ _ => False
theorem aaV (I : Q.m) (h : ail X ifs σ H Q) (hx : X.xe = fun _ _ => False) :
   wpAny Q.k X.A (forIn ifs true fun c r => if r = true then do let ok ← isTrue c X.env (eval c X.env); pure (ForInStep.yield ok) else pure (ForInStep.yield r)) (TP X pins σ Q) (fun _ _ => False) s := by
 match ifs, h with
 | [], h => exact wpAny_tests_nil ⟨H, I, h⟩
 | [c], h =>
   have := h pins s I
   rw [hx] at this
   exact wpAny_tests_one this
def TIv (X : Cx) (CL : Q.g) (b : Bx) (ifs : List Expr) (δ : Q.n) (p : Bool) : Prop :=
 match ifs with
 | [] => p = true
 | [c] => xT X CL b c δ p δ
 | _ => False
theorem TIv.sem (h : TIv X CL b ifs δ p) (S : bZ X.K CL b H Z δ σ [] [])
   (k : ∀ H' Z', aT Z Z' -> aT H H' -> bZ X.K CL b H' Z' δ σ [] [] -> Q p H') : ail X ifs σ H Q := by
 match ifs, h with
 | [], h =>
   have e : p = true := h
   subst e
   exact k H Z Q.j Q.j S
 | [c], h => exact (show xT X CL b c δ p δ from h) H Z σ [] [] Q S k
theorem tF : (T.lst ts).clean = T.eX ts := by rw [T.clean]
theorem Hx {g : D -> T} : ∀ {ds : List D}, (∀ d ∈ ds, (g d).clean = true) -> T.eX (ds.map g) = true
 | [], _ => by rw [List.map_nil, T.eX]
 | d :: ds, h => by
   rw [atG, T.eX, h d ati, Hx fun e he => h e (atk _ he)]
   rfl
theorem bL.at : ∀ {tl : List T} {us : List V} {fp : Q.p} {j : Nat} {t : T}, bL K CL H Z tl us fp -> tl[j]? = some t -> ∃ v f1 f2 f3, us[j]? = some v /\ fp = f1 ++ (f2 ++ f3) /\ cP K CL H Z t v f2 ∧
   ∀ {H' : Hp} {t' : T} {v' : V} {g : Q.p}, (∀ a ∈ f1 ++ f3, H' a = H a) -> cP K CL H' Z t' v' g -> bL K CL H' Z (tl.set j t') (us.set j v') Q.ab
 | _, _, _, _, _, .nil, e => by simp at e
 | _, _, _, 0, _, .cons (fp := fp) (gp := gp) r q, e => by
   simp at e
   subst e
   exact ⟨_, [], fp, gp, rfl, rfl, r, fun {H' t' v' g} k r' => bL.cons (fp := g) (gp := gp) r' (bL.mono (fp := gp) Q.j (fun a ha => k a (by simpa using ha)) q)⟩
 | _, _, _, j + 1, t, .cons (fp := fp) (gp := gp) r q, e => by
   obtain ⟨v, f1, f2, f3, h1, h2, h3, h4⟩ := bL.at (j := j) (t := t) q (by simpa using e)
   refine ⟨v, fp ++ f1, f2, f3, by simpa using h1, by rw [h2, List.append_assoc], h3, fun k r' => ?_⟩
   rw [atc]
   exact .cons (r.mono Q.j fun a ha => k a (by simp [ha])) (h4 (fun a ha => k a (by rw [atc]; exact as7 _ ha)) r')
variable {α : Type}
theorem iW {l : List α} {x : α} (h : l[i]? = some x) : l.set i x = l := by
 apply List.ext_getElem?
 intro j
 rw [List.getElem?_set]
 split
 . rename_i e; subst e
   split
   . exact h.symm
   . rename_i h2; rw [au3 Q.a]
 . rfl
variable {gp : Q.p}
theorem bZ.write {f1 f2 f3 g VX : Q.p} (S : Q.M) (nd : ((f1 ++ (f2 ++ f3)) ++ gp).Nodup) (own : ∀ c ∈ (f1 ++ (f2 ++ f3)) ++ gp, Z c = none /\ b.B c = none) (ha : a ∈ f2)
   (hH : ∃ o, H a = some o) (e' : fQ K CL (upd H a (.lst xs)) Z δ2 σ Q.ab) (r' : bL K CL (upd H a (.lst xs)) Z tl us VX) (pm : (Q.ab ++ VX).Nodup) (sub : ∀ c ∈ Q.ab ++ VX, c ∈ (f1 ++ (f2 ++ f3)) ++ gp) :
   bZ K CL b (upd H a (.lst xs)) Z δ2 σ tl us := by
 have oa := own a (by simp [ha])
 refine ⟨⟨_, _, e', r', pm, fun c hc => own c (sub c hc)⟩, fun c o q => ?_, S.zz, fun c o q => ?_, S.new, fun c o q i => ?_, S.tab⟩
 . rw [aP (cM q oa.2)]; exact S.bh c o q
 . rw [aP (cM q oa.1)]; exact S.zh c o q
 . by_cases hc : c = a
   . subst hc; rw [bR] at q; cases q; cases i
   . rw [aP hc] at q; exact S.tp c o q i
theorem bZ.append (S : Q.al) (hi : δ[i]? = some (some (.lst tl))) :
   ∃ a us, σ[i]? = some (some (.ref a)) /\ H a = some (.lst us) /\ us.length = tl.length /\ bZ K CL b (upd H a (.lst (us ++ [v]))) Z (δ.set i (some (.lst (tl ++ [t])))) σ ts vs := by
 obtain ⟨fp, gp, e, r, nd, k⟩ := S.rep
 obtain ⟨v0, f1, f2, f3, hv, v9, rt, put, _⟩ := e.get hi
 subst v9
 cases rt with
 | @lst a us _ g ha rs =>
   cases r with
   | @cons _ _ _ _ ft gr q1 q2 =>
     have ne : ∀ c ∈ Q.ab ++ (ft ++ gr), c ≠ a := fun c hc e => by
       subst e
       have hp : ((f1 ++ ((c :: g) ++ f3)) ++ (ft ++ gr)).Perm (c :: (Q.ab ++ (ft ++ gr))) := by
         rw [atV, ← atV]
         exact (auD.append_right _)
       exact (aud.mp (hp.nodup_iff.mp nd)).1 hc
     refine ⟨a, us, hv, ha, rs.length.symm, ?_⟩
     have r1 : cP K CL (upd H a (.lst (us ++ [v]))) Z (.lst (tl ++ [t])) (.ref a) (a :: (g ++ (ft ++ []))) :=
       .lst bR (bL.app (rs.mono Q.j fun c hc => aP Q.W) (.cons (q1.mono Q.j fun c hc => aP Q.W) .nil))
     have e2 := put (H' := upd H a (.lst (us ++ [v]))) Q.j (fun c hc => aP (ne c (by
       rcases ate.mp hc with h | h
       . simp [h]
       . simp [h]))) r1
     rw [iW hv] at e2
     have hp : ((f1 ++ ((a :: (g ++ (ft ++ []))) ++ f3)) ++ gr).Perm ((f1 ++ ((a :: g) ++ f3)) ++ (ft ++ gr)) := by
       simp only [atY, atV, atc]
       refine at7 f1 (List.Perm.cons a (at7 g ?_))
       rw [← atc, ← atc]
       exact atJ.append_right gr
     exact S.write nd k (ati) ⟨_, ha⟩ e2 (q2.mono Q.j fun c hc => aP Q.W) (hp.nodup_iff.mpr nd) fun c hc => hp.mem_iff.mp hc
theorem bZ.setAt (S : Q.al) (hi : δ[i]? = some (some (.lst tl))) (hj : j < tl.length) :
   ∃ a us, σ[i]? = some (some (.ref a)) /\ H a = some (.lst us) /\ us.length = tl.length /\ bZ K CL b (upd H a (.lst (us.set j v))) Z (δ.set i (some (.lst (tl.set j t)))) σ ts vs := by
 obtain ⟨fp, gp, e, r, nd, k⟩ := S.rep
 obtain ⟨v0, f1, f2, f3, hv, v9, rt, put, _⟩ := e.get hi
 subst v9
 cases rt with
 | @lst a us _ g ha rs =>
   cases r with
   | @cons _ _ _ _ ft gr q1 q2 =>
     have ne : ∀ c ∈ Q.ab ++ (ft ++ gr), c ≠ a := fun c hc e => by
       subst e
       have hp : ((f1 ++ ((c :: g) ++ f3)) ++ (ft ++ gr)).Perm (c :: (Q.ab ++ (ft ++ gr))) := by
         rw [atV, ← atV]
         exact (auD.append_right _)
       exact (aud.mp (hp.nodup_iff.mp nd)).1 hc
     refine ⟨a, us, hv, ha, rs.length.symm, ?_⟩
     obtain ⟨vj, g1, g2, g3, _, hg, _, set⟩ := rs.at (atm hj)
     subst hg
     have r1 : cP K CL (upd H a (.lst (us.set j v))) Z (.lst (tl.set j t)) (.ref a) (a :: (g1 ++ (ft ++ g3))) :=
       .lst bR (set (fun c hc => aP (ne c (by
         rcases ate.mp hc with h | h
         . simp [h]
         . simp [h]))) (q1.mono Q.j fun c hc => aP Q.W))
     have e2 := put (H' := upd H a (.lst (us.set j v))) Q.j (fun c hc => aP (ne c (by
       rcases ate.mp hc with h | h
       . simp [h]
       . simp [h]))) r1
     rw [iW hv] at e2
     have hp : ((f1 ++ ((a :: (g1 ++ (ft ++ g3))) ++ f3)) ++ gr).Perm ((f1 ++ ((a :: (g1 ++ g3)) ++ f3)) ++ (ft ++ gr)) := by
       simp only [atV, atc]
       refine at7 f1 (List.Perm.cons a (at7 g1 ?_))
       have := (atJ (l₁ := ft) (l₂ := g3 ++ f3)).append_right gr
       simp only [atc] at this
       exact this
     have sb : ((f1 ++ ((a :: (g1 ++ g3)) ++ f3)) ++ (ft ++ gr)).Sublist ((f1 ++ ((a :: (g1 ++ (g2 ++ g3))) ++ f3)) ++ (ft ++ gr)) := by
       refine atO (atO (atQ _) (atO (List.Sublist.cons₂ a ?_) (atQ _))) (atQ _)
       exact atO (atQ _) (auh _ _)
     exact S.write nd k (ati) ⟨_, ha⟩ e2 (q2.mono Q.j fun c hc => aP Q.W) (hp.nodup_iff.mpr (nd.sublist sb)) fun c hc => sb.subset (hp.mem_iff.mp hc)
section
variable {Rk : List T} {D : g6} {pp pa pb : Pos}
theorem aim (i : Nat) (h0 : δ[i]? = some (some (.lst Rk))) (h : Q.T) (h1 : δ1[i]? = some (some (.lst tl))) (hl : tl.length < sizeLine) (k : D.nx (δ1.set i (some (.lst (tl ++ [t])))))
   (hi : X.N[i]? = some x := by rfl) (hv : Vis X.env.scope x := by first | exact Or.inl rfl | exact Or.inr (Or.inl rfl) | exact Or.inr (Or.inr rfl)) (hd : Q.s := by decide) (rJ : Q.ao := by decide)
   (Bt : attributeBase (.Name x pp) "append" X.env (eval (.Name x pp) X.env) = eval (.Name x pp) X.env := by rfl)
   (Li : Q.bf := by rfl)
   (hline : (pa.endLine == pb.line) = true := by rfl) (hs : Q.aa := by exact cE rfl) (O4 : swapsWith (.Call (.Attribute (.Name x pp) "append" pa) [e] [] pb) none pos.line X.env = pure false := by rfl) :
   TSv X CL b (.Expr (.Call (.Attribute (.Name x pp) "append" pa) [e] [] pb) pos) δ D := fun H Z σ ts vs E S M =>
 v8 (Bk (aaC avm PySem.F.slot_list_append PySem.F.type_list_append DT (oE hi hv hd rJ) (dm fh iA hs) Bt Li hline hs rfl) O4) (by
   obtain ⟨v0, e0, r0⟩ := S.look h0
   refine ⟨v0, e0, ?_, ?_⟩
   . rw [T.iU] at r0
     cases r0 with
     | lst hq _ => exact .inl ⟨rfl, _, hq⟩
   . refine h H Z σ ts vs _ S fun v H1 Z1 z1 k1 S1 => ?_
     obtain ⟨a, us, ea, ha, hu, S2⟩ := S1.append h1
     rw [e0] at ea
     cases ea
     exact ⟨a, us, v, rfl, rfl, ha, by rw [hu]; exact hl, M.nx _ σ _ Z1 z1 S2 k⟩)
end
def alH : Option (Option T) -> Option T
 | some (some t) => some (.sh t.iU)
 | _ => none
def shO : Option (Option T) -> Option T
 | some (some (T.sh d)) => some (.sh d)
 | _ => none
def O5 (δ : Q.n) (ix : List Nat) : List (Option T) := ix.map fun i => alH δ[i]?
def O6 (δ : Q.n) (ix : List Nat) : List (Option T) := ix.map fun i => shO δ[i]?
theorem O7 (S : Q.M) : ∀ (ix : List Nat) (H' : Hp), fQ K CL H' H (O5 δ ix) (ix.map fun i => (σ[i]?).getD none) []
 | [], _ => .nil
 | i :: r, H' => by
   have ih := O7 S r H'
   show fQ K CL H' H (alH δ[i]? :: O5 δ r) (((σ[i]?).getD none) :: r.map fun i => (σ[i]?).getD none) []
   cases e : δ[i]? with
   | none => exact .skip ih
   | some o =>
     cases o with
     | none => exact .skip ih
     | some t =>
       obtain ⟨v, hv, rv⟩ := S.look e
       rw [hv]
       exact .cons (fp := []) (gp := []) (.sh rv) ih
theorem O8 (S : Q.M) : ∀ (ix : List Nat) (H' : Hp), fQ K CL H' Z (O6 δ ix) (ix.map fun i => (σ[i]?).getD none) []
 | [], _ => .nil
 | i :: r, H' => by
   have ih := O8 S r H'
   show fQ K CL H' Z (shO δ[i]? :: O6 δ r) (((σ[i]?).getD none) :: r.map fun i => (σ[i]?).getD none) []
   cases e : δ[i]? with
   | none => exact .skip ih
   | some o =>
     cases o with
     | none => exact .skip ih
     | some t =>
       cases t with
       | sh d =>
         obtain ⟨v, hv, rv⟩ := S.agU e
         rw [hv]
         exact .cons (fp := []) (gp := []) (.sh rv) ih
       | tup _ => exact .skip ih
       | lst _ => exact .skip ih
       | ins _ _ => exact .skip ih
       | vC _ => exact .skip ih
       | dct _ => exact .skip ih
       | pin _ _ => exact .skip ih
section
variable {ds : List D}
structure Comes (X : Cx) (CL : Q.g) (b : Bx) (δ1 : Q.n) (σ : L2.St) (ts : List T) (vs : List V) (Z H : Hp) (ds : List D) (J : It) (H1 : Hp) : Prop where
 ex : ∃ Z1 us, aT Z Z1 /\ aT H H1 /\ bZ X.K CL b H1 Z1 δ1 σ ts vs /\ aX X.K CL Z1 ds us /\ (∀ i H2, aT Z1 H2 -> i < ds.length -> J.go i H2) ∧
   (∀ i H2 x H', aT Z1 H2 -> i < ds.length -> J.yld i H2 x H' -> H' = H2 /\ us[i]? = some x) /\ (∀ H2, aT Z1 H2 -> J.stop ds.length H2)
def TIt (X : Cx) (CL : Q.g) (b : Bx) (tg e : Expr) (δ : Q.n) (ds : List D) (δ1 : Q.n) : Prop :=
 ∃ wi, PI X tg e wi /\ ∀ (H Z : Hp) (σ : L2.St) (ts : List T) (vs : List V) (R : It -> Hp -> Prop), bZ X.K CL b H Z δ σ ts vs -> (∀ J H1, Comes X CL b δ1 σ ts vs Z H ds J H1 -> R J H1) -> wi σ H R
theorem ud {tg : Expr} (h : dH X CL b iter δ (.sh (.lst ds)) δ1) : TIt X CL b tg iter δ ds δ1 := by
 refine ⟨_, adF fh, fun H Z σ ts vs R S k => h H Z σ ts vs _ S fun v H1 Z1 z1 k1 S1 => ?_⟩
 obtain ⟨fp, gp, _, r, _, _⟩ := S1.rep
 cases r with
 | cons r _ =>
   cases r with
   | sh r =>
     cases r with
     | @lst a us _ hq rr =>
       refine ⟨a, rfl, ⟨us, S1.zh.seq hq⟩, k _ _ ⟨Z1, us, z1, k1, S1.pop, rr, fun i H2 s hi => ?_, fun i H2 y H' s hi hy => ⟨hy.1, hy.2 us (s.seq hq)⟩, fun H2 s => ⟨us, s.seq hq, by rw [rr.length]; exact atq _⟩⟩⟩
       have hi' : i < us.length := by rw [← rr.length]; exact hi
       exact ⟨us, us[i], s.seq hq, by simp [hi']⟩
theorem aaW {tg : Expr} (h : dH X CL b iter δ (.sh (.tup ds)) δ1) : TIt X CL b tg iter δ ds δ1 := by
 refine ⟨_, ahL fh, fun H Z σ ts vs R S k => h H Z σ ts vs _ S fun v H1 Z1 z1 k1 S1 => ?_⟩
 obtain ⟨fp, gp, _, r, _, _⟩ := S1.rep
 cases r with
 | cons r _ =>
   cases r with
   | sh r =>
     cases r with
     | @tup a us _ hq rr =>
       refine ⟨a, rfl, ⟨us, aT.sqT S1.zh hq⟩, k _ _ ⟨Z1, us, z1, k1, S1.pop, rr, fun i H2 s hi => ?_, fun i H2 y H' s hi hy => ⟨hy.1, hy.2 us (aT.sqT s hq)⟩, fun H2 s => ⟨us, aT.sqT s hq, by rw [rr.length]; exact atq _⟩⟩⟩
       have hi' : i < us.length := by rw [← rr.length]; exact hi
       exact ⟨us, us[i], aT.sqT s hq, by simp [hi']⟩
def cO (lo : Int) (n : Nat) : List D := (List.range n).map fun (i : Nat) => D.int (lo + i)
theorem O9 (lo : Int) (n : Nat) : aX K CL Z (cO lo n) ((List.range n).map fun (i : Nat) => V.int (lo + i)) := by
 unfold cO
 generalize List.range n = l
 induction l with
 | nil => exact .nil
 | cons i r ih => exact .cons (.int _) ih
theorem fk {tg : Expr} {pr pc : Pos} {n : Int} (hm : X.mg "range" = none) (h : eK X CL b iter δ (.int n) δ1) (hn : -(2 ^ 62) <= n /\ n < 2 ^ 62) (hg : Gl X "range") (vX : starEach [iter] X.env = [(false, eval iter X.env)] := by rfl) (ain : starEach [iter] X.env = (false, eval iter X.env) :: starEach [] X.env := by exact cE rfl) :
   TIt X CL b tg (.Call (.Name "range" pr) [iter] [] pc) δ (cO 0 n.toNat) δ1 := by
 refine ⟨_, Xp hg hm (dm fh iA ain) vX, fun H Z σ ts vs R S k => h H Z σ ts vs _ S fun v H1 Z1 z1 k1 S1 r => ⟨n, by rw [r.sc rfl], hn.1, hn.2, k _ _ ⟨Z1, _, z1, k1, S1, O9 0 n.toNat, fun i H2 s hi => ?_, fun i H2 y H' s hi hy => ?_, fun H2 s => ?_⟩⟩⟩
 . show i < n.toNat
   have : (cO 0 n.toNat).length = n.toNat := by simp [cO]
   omega
 . have hi' : i < n.toNat := by simpa [cO] using hi
   refine ⟨hy.1, ?_⟩
   rw [atE, auC hi', hy.2]
   rfl
 . show n.toNat <= (cO 0 n.toNat).length
   simp [cO]
theorem DV {tg : Expr} {pr pc : Pos} {m n : Int} (hm : X.mg "range" = none) (h1 : eK X CL b e1 δ (.int m) δ1) (h2 : eK X CL b e2 δ1 (.int n) δ2) (hn : -(2 ^ 62) <= m /\ m < 2 ^ 62 /\ -(2 ^ 62) <= n /\ n < 2 ^ 62) (hg : Gl X "range")
   (vX : starEach [e1, e2] X.env = [(false, eval e1 X.env), (false, eval e2 X.env)] := by rfl) (ain : starEach [e2] X.env = [(false, eval e2 X.env)] := by rfl) (aoy : starEach [e1, e2] X.env = (false, eval e1 X.env) :: starEach [e2] X.env := by rfl) (aoz : starEach [e2] X.env = (false, eval e2 X.env) :: starEach [] X.env := by rfl) :
   TIt X CL b tg (.Call (.Name "range" pr) [e1, e2] [] pc) δ (cO m (n - m).toNat) δ2 := by
 refine ⟨_, Xq hg hm (dm fh (dm fh iA aoz) aoy) vX ain, fun H Z σ ts vs R S k => h1 H Z σ ts vs _ S fun v H1 Z1 z1 k1 S1 r => h2 H1 Z1 σ ts vs _ S1 fun v2 H2 Z2 z2 k2 S2 r2 => ⟨m, n, by rw [r.sc rfl, r2.sc rfl], hn, k _ _ ⟨Z2, _, z1.trans z2, k1.trans k2, S2, O9 m (n - m).toNat, fun i H2 s hi => ?_, fun i H2 y H' s hi hy => ?_, fun H2 s => ?_⟩⟩⟩
 . show i < (n - m).toNat
   have : (cO m (n - m).toNat).length = (n - m).toNat := by simp [cO]
   omega
 . have hi' : i < (n - m).toNat := by simpa [cO] using hi
   refine ⟨hy.1, ?_⟩
   rw [atE, auC hi', hy.2]
   rfl
 . show (n - m).toNat <= (cO m (n - m).toNat).length
   simp [cO]
theorem aio {D : g6} {fS : List Stmt} (i : Nat) {pos' : Pos} (P : Nat -> List (Option T) -> Prop) (h : TIt X CL b (.Name x pos') iter δ ds δ1) (h0 : P 0 δ1) (hl : ∀ j δ, P j δ -> i < δ.length)
   (hs : ∀ j d δ, ds[j]? = some d -> P j δ -> dY X CL b fS (δ.set i (some (.sh d))) { nx := P (j + 1), rt := D.rt, bk := D.nx, ct := P (j + 1) }) (hd : ∀ δ, P ds.length δ -> D.nx δ)
   (hp : PassesOwn Q.k X.A X.env X.xe) (hc : X.calm = true) (hN : X.N.Nodup) (hi : X.N[i]? = some x) (hx : Loc X.env.scope x) (hf : Q.aL) (hq : Q.au := by intro _; rfl) :
   TSv X CL b (.For (.Name x pos') iter fS [] pos) δ D := fun H Z σ ts vs E S M => by
 obtain ⟨wi, pi, hw⟩ := h
 refine v8 (aam hp hc pi (Bl hN hi hx hf) XH hq) (hw H Z σ ts vs _ S fun J H1 zz => ?_)
 obtain ⟨Z1, us, z1, k1, S1, rr, go, yl, st⟩ := zz
 refine ⟨fun j m σ H2 => m = ds.length - j /\ j <= ds.length /\ ∃ Z2 δ2, aT Z1 Z2 /\ bZ X.K CL b H2 Z2 δ2 σ ts vs /\ P j δ2, ⟨_, rfl, atx _, Z1, δ1, .refl _, S1, h0⟩, ?_⟩
 rintro j m σ H2 ⟨rfl, hj, Z2, δ2, s, S2, p2⟩
 by_cases Lv : j < ds.length
 . refine .inr ⟨go j H2 (s.trans S2.zh) Lv, fun σ' H' => ∃ Z2 δ2, aT Z1 Z2 /\ bZ X.K CL b H' Z2 δ2 σ' ts vs /\ P (j + 1) δ2, fun σ' H' h => ⟨ds.length - (j + 1), by omega, rfl, Lv, h⟩, fun y H' hy => ?_⟩
   obtain ⟨e, hu⟩ := yl j H2 y H' (s.trans S2.zh) Lv hy
   subst e
   obtain ⟨d, hd', rd⟩ := rr.adU hu
   have S3 := (S2.push (rd.mono s)).set (hl j δ2 p2)
   exact hs j d δ2 hd' p2 _ Z2 _ ts vs _ S3 ⟨fun δ' σ' H' Z' s' S' k => ⟨Z', δ', s.trans s', S', k⟩, fun t v H' Z' δ' σ' s' S' k => M.rt t v H' Z' δ' σ' (z1.trans (s.trans s')) S' k, fun δ' σ' H' Z' s' S' k => M.nx δ' σ' H' Z' (z1.trans (s.trans s')) S' k, fun δ' σ' H' Z' s' S' k => ⟨Z', δ', s.trans s', S', k⟩⟩
 . have e : j = ds.length := by omega
   subst e
   exact .inl ⟨st H2 (s.trans S2.zh), M.nx δ2 σ H2 Z2 (z1.trans s) S2 (hd δ2 p2)⟩
def Block (X : Cx) (CL : Q.g) (scope : Scope) (Nc : Q.h) (ifs : List Expr) (elt : Expr) (δc : Q.n) (ds : List D) (p : D -> Bool) (g : D -> T) : Prop :=
 ∀ C s0 H0 f0 b' d, d ∈ ds -> TIv (fU X scope Nc C s0 H0 f0) CL b' ifs (some (.sh d) :: δc) (p d) /\ (p d = true -> dH (fU X scope Nc C s0 H0 f0) CL b' elt (some (.sh d) :: δc) (g d) (some (.sh d) :: δc))
variable {δc : Q.n} {p : D -> Bool} {g : D -> T}
end
variable {n : Nat}
theorem aC (h : Nat.ble n 1000 = true) : n <= sizeLine := aub (cS (atf h))
structure Vn (X : Cx) (i : Nat) (x : Str) : Prop where
 hi : X.N[i]? = some x
 hv : Vis X.env.scope x
 hd : (x == ("__debug__" : Str)) = false
 rJ : (x == ("__classdict__" : Str)) = false
structure Ln (X : Cx) (i : Nat) (x : Str) : Prop extends Vn X i x where
 loc : Loc X.env.scope x
 hf : X.fn x = true \/ X.env.scope.names.lookup x = some .local
structure Gx (X : Cx) : Prop where
 nd : X.N.Nodup
 calm : X.calm = true
 xe : PassesOwn Q.k X.A X.env X.xe
structure Fc (X : Cx) (CL : Q.g) (x : Str) (k n : Nat) {A : Type} (arg : A -> List D) (Pre : A -> Prop) (res : A -> T) : Prop where
 ex : ∃ f fd ps, iy X.prog X.w X.K X.mg X.base xS k f fd ps (XM X.K CL n arg Pre res) /\ X.mg x = some (.ref f) /\ PySem.W.keepIn X.K (.ref f) = true /\ Binds X.K fd ps []
 room : jH k X.A
section
variable {d : L3.D} {pp : Pos} {D : g6} {fS : List Stmt} {ds : List L3.D}
theorem v_ (n : Vn X i x) (h : δ[i]? = some (some (.sh d)) := by rfl) : dH X CL b Q.C δ (.sh d) δ := aie i n.hi n.hv n.hd n.rJ h
theorem vF (n : Vn X i x) (h : δ[i]? = some (some t) := by rfl) : dH X CL b Q.C δ (.sh t.iU) (δ.set i (some (.sh t.iU))) := adY i n.hi n.hv n.hd n.rJ h
theorem vM (n : Vn X i x) (h : δ[i]? = some (some t) := by rfl) : dH X CL b Q.C δ t (δ.set i none) := adZ i n.hi n.hv n.hd n.rJ h
theorem vB (n : Vn X i x) (h : δ[i]? = some (some t) := by rfl) : eK X CL b Q.C δ t.iU δ := aif i n.hi n.hv n.hd n.rJ h
theorem cg (h : eK X CL b e δ (.int k) δ1) : dH X CL b (.UnaryOp .USub e pos) δ (.sh (.int (-k))) δ1 := fun H Z σ ts vs Q S kk =>
 dS (ak8 ahU fh) (h H Z σ ts vs _ S fun v H1 Z1 z1 k1 S1 r => ⟨k, r.sc rfl, kk _ H1 Z1 z1 k1 (S1.push (.int _))⟩)
theorem vL (n : Vn X i x) (h : δ[i]? = some (some (.lst (ds.map T.sh))) := by rfl) : eK X CL b Q.C δ (.lst ds) δ := by
 have := vB (CL := CL) (b := b) (pos := pos) n h
 rwa [T.iU, rL] at this
theorem c_ {k : Nat} {A : Type} {arg : A -> List L3.D} {Pre : A -> Prop} {res : A -> T} (a : A) (F : Fc X CL x k n arg Pre res) (hg : Gl X x) (h : BAv X CL b (e :: es) δ (arg a) δ1) (hp : Pre a) (hc : (res a).clean = true) (hn : (arg a).length = n := by rfl)
   (Bo : Q.s := by decide) (he : Q.R := by exact cE rfl) (hpl : Q.ac := by rfl) :
   dH X CL b Q.aw δ (res a) δ1 := by
 obtain ⟨f, fd, ps, F1, m, k, b⟩ := F.ex
 exact ad4 a F1 F.room m k b h hn hp hc hg Bo he hpl
theorem bf {pos' : Pos} (g : Gx X) (n : Ln X i x) (h : Q.T) (k : dY X CL b fS (δ1.set i (some t)) D) (hl : i < δ1.length := by exact atf rfl) (hs : Q.aK := by rfl) :
   dY X CL b (.Assign [.Name x pos'] e pos :: fS) δ D := dh (RN i h k hl g.nd n.hi n.loc hs n.hf)
theorem bx (h : Q.T) (k : D.rt t δ1) : dY X CL b (.Return (some e) pos :: fS) δ D := dh (aik h k)
theorem b5 {a c : List Stmt} (h : xT X CL b e δ p δ1) (h1 : p = true -> dY X CL b a δ1 { D with nx := fun δ2 => dY X CL b fS δ2 D }) (h2 : p = false -> dY X CL b c δ1 { D with nx := fun δ2 => dY X CL b fS δ2 D }) : dY X CL b (.If e a c pos :: fS) δ D := dh (alE h h1 h2)
theorem dY.to {D' : g6} (h : dY X CL b fS δ D') (h1 : ∀ δ, D'.nx δ -> D.nx δ) (h2 : ∀ t δ, D'.rt t δ -> D.rt t δ) (h3 : ∀ δ, D'.bk δ -> D.bk δ) (h4 : ∀ δ, D'.ct δ -> D.ct δ) : dY X CL b fS δ D := fun H Z σ ts vs E S M => h H Z σ ts vs E S (M.to h1 h2 h3 h4)
theorem Hy {a c : List Stmt} (J : List (Option T) -> Prop) (h : xT X CL b e δ p δ1) (h1 : p = true -> dY X CL b a δ1 { D with nx := J }) (h2 : p = false -> dY X CL b c δ1 { D with nx := J }) (k : ∀ δ2, J δ2 -> dY X CL b fS δ2 D) : dY X CL b (.If e a c pos :: fS) δ D :=
 b5 h (fun hp => dY.to (h1 hp) k (fun _ _ q => q) (fun _ q => q) (fun _ q => q)) (fun hp => dY.to (h2 hp) k (fun _ _ q => q) (fun _ q => q) (fun _ q => q))
theorem oA {body : List Stmt} {pos' : Pos} (g : Gx X) (n : Ln X i x) (P : Nat -> List (Option T) -> Prop) (h : TIt X CL b (.Name x pos') e δ ds δ1) (h0 : P 0 δ1) (hl : ∀ j δ, P j δ -> i < δ.length)
   (hs : ∀ j d δ, ds[j]? = some d -> P j δ -> dY X CL b body (δ.set i (some (.sh d))) { nx := P (j + 1), rt := D.rt, bk := fun δ2 => dY X CL b fS δ2 D, ct := P (j + 1) }) (hd : ∀ δ, P ds.length δ -> dY X CL b fS δ D) (hq : ∀ x, foldedSetIterable e X.env x = pure x := by intro _; rfl) :
   dY X CL b (.For (.Name x pos') e body [] pos :: fS) δ D :=
 dh (aio (D := { D with nx := fun δ1 => dY X CL b fS δ1 D }) i P h h0 hl hs hd g.xe g.calm g.nd n.hi n.loc n.hf hq)
theorem wj {o : Option Expr} {l : Nat} (h : ∃ c, swapsWith e o l env = pure c) : swapsWith e o l env = pure true \/ swapsWith e o l env = pure false := by
 obtain ⟨c, h⟩ := h
 cases c
 . exact .inr h
 . exact .inl h
theorem ji {C : Addr} (h1 : Nc[i]? = some x) (h2 : scope.names.lookup x = some .local) (hd : Q.s := by decide) (rJ : Q.ao := by decide) : Vn (fU X scope Nc C s H fp) i x :=
 ⟨h1, .inl (lookup_relabel_local h2), hd, rJ⟩
theorem oG {C : Addr} (h1 : Nc[i]? = some x) (h2 : scope.names.lookup x = some .free) (hd : Q.s := by decide) (rJ : Q.ao := by decide) : Vn (fU X scope Nc C s H fp) i x := by
 refine ⟨h1, ?_, hd, rJ⟩
 have q := jI (env := X.env) h2
 show (relabel scope X.env).names.lookup x = some .local \/ (relabel scope X.env).names.lookup x = some .cell \/ (relabel scope X.env).names.lookup x = some .free
 rw [show (relabel scope X.env).names.lookup x = _ from q]
 split
 . exact .inr (.inl rfl)
 . exact .inr (.inr rfl)
theorem qd {C : Addr} (h2 : scope.names.lookup x = some .globalImplicit) : Gl (fU X scope Nc C s H fp) x := by
 have q := jI (env := X.env) h2
 show (relabel scope X.env).names.lookup x = some .globalImplicit
 rw [show (relabel scope X.env).names.lookup x = _ from q]
 rfl
theorem By {C : Addr} {k : Nat} {A : Type} {arg : A -> List L3.D} {Pre : A -> Prop} {res : A -> T} (F : Fc X CL x k n arg Pre res) : Fc (fU X scope Nc C s H fp) CL x k n arg Pre res := ⟨F.ex, F.room⟩
end
theorem XQ : bootBuiltins "int" = some (.type "int") := Q.f
theorem cN : bootBuiltins "list" = some (.type "list") := Q.f
theorem Pa : bootBuiltins "tuple" = some (.type "tuple") := Q.f
def pQ (sc : Scope) (l : List (Str × NameKind)) : Bool := l.all fun p => sc.names.lookup p.1 == some p.2
theorem iB {sc : Scope} {l : List (Str × NameKind)} (h : pQ sc l = true) (i : Nat) {k : NameKind} (hi : l[i]? = some (x, k)) : sc.names.lookup x = some k := by
 unfold pQ at h
 rw [atL] at h
 exact au7.mp (h _ (at6 hi))
inductive ad5 (X : Cx) : List Nat -> List Str -> Prop where
 | nil : ad5 X [] []
 | cons {i : Nat} {y : Str} {ix : List Nat} {ys : Q.h} (n : Vn X i y) (k : X.env.kindOf y = some .cell \/ X.env.kindOf y = some .free) (r : ad5 X ix ys) : ad5 X (i :: ix) (y :: ys)
def aaX (scope : Scope) (x : Str) (Pb : Q.h) : Bool :=
 scope.kind == .function && scope.names.lookup x == some .local && Pb.all (fun y => scope.names.lookup y == some .free) && decide ((x :: Pb).Nodup) &&
   scope.names.all fun y => y.2 != .cell && (y.2 != .local || scope.names.lookup y.1 == some .local) && (y.2 != .free || (Pb.contains y.1 && scope.names.lookup y.1 == some .free))
variable {ix : List Nat}
theorem d7 {Pb : Q.h} (c : ad5 X ix Pb) (ok : aaX scope x Pb = true) : tE X scope x (x :: Pb) ix := by
 unfold aaX at ok
 simp only [ato, atL, aur, au7] at ok
 obtain ⟨⟨⟨⟨h1, h2⟩, h3⟩, h4⟩, h5⟩ := ok
 have kc : ∀ y ∈ Pb, X.env.kindOf y = some .cell \/ X.env.kindOf y = some .free := by
   clear h3 h4 h5
   induction c with
   | nil => intro y hy; cases hy
   | cons n k r ih =>
     intro y hy
     rcases atl.mp hy with e | hy
     . subst e; exact k
     . exact ih y hy
 refine ⟨h1, fun y hy e => ?_, h4, fun y hy e => ?_, h2, fun y hy e => ?_, ?_, fun i hi => ?_⟩
 . have := (h5 y hy).1.1
   rw [e] at this
   simp at this
 . have := (h5 y hy).1.2
   rw [e] at this
   simpa using this
 . have := (h5 y hy).2
   rw [e] at this
   simp at this
   exact ⟨this.2, kc _ this.1⟩
 . congr 1
   clear h3 h4 h5 kc
   induction c with
   | nil => rfl
   | cons n k r ih => rw [aum, n.hi, ← ih]
 . clear h4 h5 kc
   induction c with
   | nil => cases hi
   | @cons i' y ix ys n k r ih =>
     rcases atl.mp hi with e | hi
     . subst e; exact ⟨y, n.hi, h3 y ati⟩
     . exact ih (fun z hz => h3 z (atk _ hz)) hi
def D.FG : D -> Int
 | .int i => i
 | _ => 0
def D.toS : D -> Str
 | .str x => x
 | _ => Str.empty
theorem fH {bs : Q.e} (h0 : 0 <= k) (h1 : k < bs.length) : yW (bs.map D.int) k = some (.int (bs.getD k.toNat 0)) := by
 obtain ⟨j, rfl⟩ : ∃ j : Nat, k = j := ⟨k.toNat, by omega⟩
 refine b6 ?_
 have hl : j < bs.length := by omega
 rw [atE, atm hl]
 simp [List.getD, hl]
theorem gi : ∀ (bs : Q.e), D.cZ (bs.map D.int) = true
 | [] => rfl
 | i :: r => by rw [atG, D.cZ, gi r]; rfl
theorem kR {lo : Int} {d : D} (h : (cO lo n)[j]? = some d) : d = .int (lo + j) /\ j < n := by
 have hl : j < n := by
   have := (atM.mp h).1
   simpa [cO] using this
 refine ⟨?_, hl⟩
 unfold cO at h
 rw [atE, auC hl] at h
 exact (atX h).symm
theorem mz (l : List α) : l.filter (fun _ => true) = l := by simp
theorem Pg {K : Q.l} {CL : Q.g} {Z : Hp} : ∀ (ns : Q.e), aX K CL Z (ns.map D.int) (ns.map V.int)
 | [] => .nil
 | n :: r => .cons (.int n) (Pg r)
theorem aip {arg : List Int -> List D} {pre : List Int -> Prop} {res : List Int -> T} {ns : Q.e} (ha : arg ns = [.lst (ns.map D.int)]) (hp : pre ns) (hr : res ns = .sh (.bl true)) (hS : vN K H a (ns.map V.int)) (h0 : ∀ x, VP x = true -> CL x = 0 := by intros; rfl) :
   XM K CL 1 arg pre res [.ref a] H (fun v _ => v = .bl true) fun _ _ _ => False :=
 ⟨H, ns, .refl _, fun _ _ q _ => q, by rw [ha]; exact .cons (.lst hS (Pg ns)) .nil, by rw [ha]; rfl, hp, fun x hx e => absurd (h0 x hx) e, fun v H' W' fp _ _ _ _ _ r _ _ => by
   rw [hr] at r
   cases r with
   | sh r => exact r.sc rfl⟩
mutual
def D.toPy : D -> PyData
 | .non => .none
 | .bl b => .bool b
 | .int i => .int i
 | .str x => .str x
 | .tup ds => .tuple (D.wk ds)
 | .lst ds => .list (D.wk ds)
 | .ins _ _ => .none
 | .vC _ => .none
 | .dct _ => .none
 | .any => .none
 | .val _ => .none
def D.wk : List D -> List PyData
 | [] => []
 | d :: ds => d.toPy :: D.wk ds
end
inductive qO : Nat -> D -> Prop where
 | non (n : Nat) : qO n .non
 | bl (n : Nat) (b : Bool) : qO n (.bl b)
 | int (n : Nat) (i : Int) : qO n (.int i)
 | str (n : Nat) (x : Str) (h : PyData.strOk x = true) : qO n (.str x)
 | tup {n : Nat} {ds : List D} (h : ∀ d ∈ ds, qO n d) : qO (n + 1) (.tup ds)
 | lst {n : Nat} {ds : List D} (h : ∀ d ∈ ds, qO n d) : qO (n + 1) (.lst ds)
def RP (a b : D) : Bool := PyData.eqv a.toPy b.toPy
theorem qO.aiq {n : Nat} : ∀ {ds : List D}, (∀ d ∈ ds, d.toPy.canLay0 = true /\ d.toPy.depth <= n) -> PyData.canLayAll0 (D.wk ds) = true /\ PyData.depthAll (D.wk ds) <= n
 | [], _ => ⟨by rw [D.wk, PyData.canLayAll0], by rw [D.wk, PyData.depthAll]; exact atx _⟩
 | d :: ds, h => by
   have h1 := h d ati
   have h2 := qO.aiq (ds := ds) fun e he => h e (atk _ he)
   rw [D.wk, PyData.canLayAll0, PyData.depthAll, h1.1, h2.1]
   exact ⟨rfl, Nat.max_le.mpr ⟨h1.2, h2.2⟩⟩
theorem qO.lay {d : D} (h : qO n d) : d.toPy.canLay0 = true /\ d.toPy.depth <= n := by
 induction h with
 | non n => exact ⟨by rw [D.toPy, PyData.canLay0], by rw [D.toPy, PyData.depth]; exact atx _⟩
 | bl n b => exact ⟨by rw [D.toPy, PyData.canLay0], by rw [D.toPy, PyData.depth]; exact atx _⟩
 | int n i => exact ⟨by rw [D.toPy, PyData.canLay0], by rw [D.toPy, PyData.depth]; exact atx _⟩
 | str n x hx => exact ⟨by rw [D.toPy, PyData.canLay0]; exact hx, by rw [D.toPy, PyData.depth]; exact atx _⟩
 | @tup n ds _ ih =>
   have := qO.aiq ih
   rw [D.toPy, PyData.canLay0, PyData.depth]
   exact ⟨this.1, by omega⟩
 | @lst n ds _ ih =>
   have := qO.aiq ih
   rw [D.toPy, PyData.canLay0, PyData.depth]
   exact ⟨this.1, by omega⟩
theorem Ph {d : D} (h : qO n d) : RP d d = true := SeqAt.eqv_refl _ h.lay.1
theorem Lw (I : L2.Inv X pins σ H s) {d : D} {u : Value} (hd : qO n d) (q : cC X.K CL H d v) (r : RelV v u) : ∃ as, Reads s.heap u d.toPy as := by
 refine cC.rec (motive_1 := fun d v _ => ∀ (n : Nat) (u : Value), qO n d -> RelV v u -> ∃ as, Reads s.heap u d.toPy as)
   (motive_2 := fun ds vs _ => ∀ (n : Nat) (us : Q.q), (∀ d ∈ ds, qO n d) -> Vals vs us -> ∃ as, ReadsAll s.heap us (D.wk ds) as) (motive_3 := fun _ _ _ => True) (motive_4 := fun _ _ _ => True) (motive_5 := fun _ _ _ => True)
   (fun _ _ _ r => ?non) (fun b _ _ _ r => ?bl) (fun i _ _ _ r => ?int) (fun x _ _ _ r => ?str) (fun _ _ _ hd _ => by cases hd) (fun _ _ _ hd _ => by cases hd) (fun hq _ ih n u hd r => ?tup) (fun hq _ ih n u hd r => ?lst) (fun _ _ _ _ _ hd _ => by cases hd) (fun _ _ _ _ _ hd _ => by cases hd) (fun _ _ _ _ _ hd _ => by cases hd)
   (fun _ _ _ r => ?nil) (fun _ _ ih ihs n us h r => ?cons) trivial Q.S trivial Q.S trivial Q.S q n u hd r
 case non => cases r; rw [D.toPy]; exact ⟨[], .none⟩
 case bl => cases r; rw [D.toPy]; exact ⟨[], .bool b⟩
 case int => obtain ⟨t, rfl⟩ := r; rw [D.toPy]; exact ⟨[], .int i t⟩
 case str => obtain ⟨t, rfl⟩ := r; rw [D.toPy]; exact ⟨[], .str x t⟩
 case tup =>
   cases hd with
   | tup hd =>
     cases r
     obtain ⟨its, rv, ⟨o, e, c, k, dt⟩, _⟩ := I.tuple hq
     obtain ⟨as, ra⟩ := ih _ _ hd rv
     rw [D.toPy]
     exact ⟨as, .tuple e c dt (by simpa using ra)⟩
 case lst =>
   cases hd with
   | lst hd =>
     cases r
     obtain ⟨its, rv, ⟨o, k, e, c, _, dt⟩, _⟩ := I.list hq
     obtain ⟨as, ra⟩ := ih _ _ hd rv
     rw [D.toPy]
     exact ⟨_, .list e c dt (by simpa using ra)⟩
 case nil => cases r; rw [D.wk]; exact ⟨[], .nil⟩
 case cons =>
   cases r with
   | cons r rs =>
     obtain ⟨as, ra⟩ := ih n _ (h _ ati) r
     obtain ⟨bs, rb⟩ := ihs n _ (fun e he => h e (atk _ he)) rs
     rw [D.wk]
     exact ⟨as ++ bs, .cons ra rb⟩
variable {δ3 : Q.n} {p2 pp : Pos} {fS : List Stmt} {DD : g6} {d1 d2 : D} {ds : List D}
theorem air (hu : X.A.units + 64 < cLine) : vY X (compareOp .Eq) (fun x y H Q => ∃ a c, cC X.K CL H a x /\ cC X.K CL H c y /\ qO 60 a /\ qO 60 c /\ Q (.bl (RP a c)) H) := by
 intro pins s σ H x y v u Q I rx ry h
 obtain ⟨a, c, ra, rc, da, dc, q⟩ := h
 obtain ⟨as, r1⟩ := Lw I da ra rx
 obtain ⟨bs, r2⟩ := Lw I dc rc ry
 exact SeqAt.rcAt_reads r1 r2 da.lay.1 dc.lay.1 (by have := da.lay.2; omega) X.prog X.w X.xe _ ⟨.bl _, H, I, rfl, q⟩
theorem ais (hu : X.A.units + 64 < cLine) : vY X (compareOp .NotEq) (fun x y H Q => ∃ a c, cC X.K CL H a x /\ cC X.K CL H c y /\ qO 60 a /\ qO 60 c /\ Q (.bl (!RP a c)) H) := by
 intro pins s σ H x y v u Q I rx ry h
 obtain ⟨a, c, ra, rc, da, dc, q⟩ := h
 obtain ⟨as, r1⟩ := Lw I da ra rx
 obtain ⟨bs, r2⟩ := Lw I dc rc ry
 exact SeqAt.rcNeAt_reads r1 r2 da.lay.1 dc.lay.1 (by have := da.lay.2; omega) X.prog X.w X.xe _ ⟨.bl _, H, I, rfl, q⟩
theorem alI {op : CmpOp} {f : Bool -> Bool} (ho : vY X (compareOp op) (fun x y H Q => ∃ a c, cC X.K CL H a x /\ cC X.K CL H c y /\ qO 60 a /\ qO 60 c /\ Q (.bl (f (RP a c))) H)) (h1 : eK X CL b e1 δ d1 δ1) (h2 : eK X CL b e2 δ1 d2 δ2) (k1 : qO 60 d1) (k2 : qO 60 d2)
   (hm : behindInMarks op e2 = false) : xT X CL b (.Compare e1 [op] [e2] pos) δ (f (RP d1 d2)) δ2 /\ dH X CL b (.Compare e1 [op] [e2] pos) δ (.sh (.bl (f (RP d1 d2)))) δ2 := by
 constructor
 . intro H Z σ ts vs Q S k
   refine J7 (xP ho fh fh hm) (h1 H Z σ ts vs _ S fun v1 H1 Z1 z1 k1' S1 r1 => h2 H1 Z1 σ ts vs _ S1 fun v2 H2 Z2 z2 k2' S2 r2 => ?_)
   exact ⟨d1, d2, r1.mono k2', r2, k1, k2, _, rfl, k H2 Z2 Q.w (k1'.trans k2') S2⟩
 . intro H Z σ ts vs Q S k
   refine dS (xO ho fh fh hm) (h1 H Z σ ts vs _ S fun v1 H1 Z1 z1 k1' S1 r1 => h2 H1 Z1 σ ts vs _ S1 fun v2 H2 Z2 z2 k2' S2 r2 => ?_)
   exact ⟨d1, d2, r1.mono k2', r2, k1, k2, k _ H2 Z2 Q.w (k1'.trans k2') (S2.push (.bl _))⟩
theorem aaY (hu : X.A.units + 64 < cLine) (h1 : eK X CL b e1 δ d1 δ1) (h2 : eK X CL b e2 δ1 d2 δ2) (k1 : qO 60 d1) (k2 : qO 60 d2) : xT X CL b (.Compare e1 [.Eq] [e2] pos) δ (RP d1 d2) δ2 /\ dH X CL b (.Compare e1 [.Eq] [e2] pos) δ (.sh (.bl (RP d1 d2))) δ2 :=
 alI (f := fun b => b) (air hu) h1 h2 k1 k2 (t8 _)
theorem Lx (hu : X.A.units + 64 < cLine) (h1 : eK X CL b e1 δ d1 δ1) (h2 : eK X CL b e2 δ1 d2 δ2) (k1 : qO 60 d1) (k2 : qO 60 d2) : xT X CL b (.Compare e1 [.NotEq] [e2] pos) δ (!RP d1 d2) δ2 /\ dH X CL b (.Compare e1 [.NotEq] [e2] pos) δ (.sh (.bl (!RP d1 d2))) δ2 :=
 alI (f := fun b => !b) (ais hu) h1 h2 k1 k2 (t8 _)
def cutD (xs : List α) (lo hi : Option Int) : List α := (xs.drop (HT.DS xs.length 0 lo)).take (HT.DS xs.length xs.length hi - HT.DS xs.length 0 lo)
theorem aX.drop {K : Q.l} {Z : Hp} : ∀ {ds : List L3.D} {vs : List V} (n : Nat), aX K CL Z ds vs -> aX K CL Z (ds.drop n) (vs.drop n)
 | _, _, 0, r => r
 | _, _, _ + 1, .nil => .nil
 | _, _, n + 1, .cons _ t => aX.drop n t
theorem aX.take {K : Q.l} {Z : Hp} : ∀ {ds : List L3.D} {vs : List V} (n : Nat), aX K CL Z ds vs -> aX K CL Z (ds.take n) (vs.take n)
 | _, _, 0, _ => .nil
 | _, _, _ + 1, .nil => .nil
 | _, _, n + 1, .cons r t => .cons r (aX.take n t)
theorem aX.cut {ds : List L3.D} (r : aX K CL Z ds vs) (lo hi : Option Int) : aX K CL Z (cutD ds lo hi) (Xy vs lo hi) := by
 unfold cutD Xy
 rw [r.length]
 exact (r.drop _).take _
theorem Hz : ∀ {ds : List L3.D}, D.cZ ds = true -> ∀ d ∈ ds, d.qc = true
 | [], _, _, h => by cases h
 | d :: ds, k, e, h => by
   rw [D.cZ, ato] at k
   rcases atl.mp h with h | h
   . subst h; exact k.1
   . exact Hz k.2 e h
theorem GH : ∀ {ds : List L3.D}, (∀ d ∈ ds, d.qc = true) -> D.cZ ds = true
 | [], _ => rfl
 | d :: ds, h => by rw [D.cZ, h d ati, GH fun e he => h e (atk _ he)]; rfl
theorem ad6 {xs : List α} {lo hi : Option Int} {x : α} (h : x ∈ cutD xs lo hi) : x ∈ xs := List.mem_of_mem_drop (auN h)
def TOv (X : Cx) (CL : Q.g) (b : Bx) (e : Option Expr) (δ : Q.n) (k : Option Int) (δ' : Q.n) : Prop :=
 ∃ t, PO X e t /\ ∀ (H Z : Hp) (σ : L2.St) (ts : List T) (vs : List V) (Q : Option Int -> Hp -> Prop), bZ X.K CL b H Z δ σ ts vs -> (∀ H' Z', aT Z Z' -> aT H H' -> bZ X.K CL b H' Z' δ' σ ts vs -> Q k H') -> t σ H Q
theorem oZ : TOv X CL b none δ none δ := ⟨_, adN, fun H Z σ ts vs Q S k => k H Z Q.j Q.j S⟩
theorem pe (h : eK X CL b e δ (.int k) δ1) : TOv X CL b (some e) δ (some k) δ1 := ⟨_, adO fh, fun H Z σ ts vs Q S kk => h H Z σ ts vs _ S fun v H1 Z1 z1 k1 S1 r => ⟨k, r.sc rfl, kk H1 Z1 z1 k1 S1⟩⟩
theorem qP {lo hi : Option Expr} {l h : Option Int} (h1 : eK X CL b e δ (.lst ds) δ1) (hi1 : D.cZ ds = true) (h2 : TOv X CL b lo δ1 l δ2) (h3 : TOv X CL b hi δ2 h δ3) : dH X CL b (.Subscript e (.Slice lo hi none p2) pos) δ (.lst ((cutD ds l h).map T.sh)) δ3 := fun H Z σ ts vs Q S k => by
 obtain ⟨t2, po2, w2⟩ := h2
 obtain ⟨t3, po3, w3⟩ := h3
 refine dS (OV adP fh po2 po3) (h1 H Z σ ts vs _ S fun v H1 Z1 z1 k1 S1 r => w2 H1 Z1 σ ts vs _ S1 fun H2 Z2 z2 k2 S2 => w3 H2 Z2 σ ts vs _ S2 fun H3 Z3 z3 k3 S3 => ?_)
 have r' := r.mono (k2.trans k3)
 cases r' with
 | lst hq rr =>
   refine ⟨_, _, rfl, hq, fun p hp => ?_⟩
   have rc := aX.qc S3.tp (GH fun d hd => Hz hi1 d (ad6 hd)) (rr.cut l h)
   obtain ⟨c, S4⟩ := (bZ.FD rc S3).zu (g0 := []) (by simp [rc.length]) hp
   exact k _ _ _ (z1.trans (z2.trans z3)) (k1.trans (k2.trans (k3.trans c))) S4
theorem tG (hm : X.mg "tuple" = none) (h : eK X CL b e δ (.lst ds) δ1) (hi : D.cZ ds = true) (hg : Gl X "tuple") (hs : Q.aa := by exact cE rfl) : dH X CL b (.Call (.Name "tuple" pp) [e] [] pos) δ (.sh (.tup ds)) δ1 := fun H Z σ ts vs Q S k =>
 dS (qD J6 hg hm Pa (dm fh iA hs) (he := hs)) (h H Z σ ts vs _ S fun v H1 Z1 z1 k1 S1 r => by
   cases r with
   | lst hq rr =>
     refine ⟨_, _, rfl, .inl ⟨hq, fun l hl => ?_⟩⟩
     obtain ⟨a, c, S2⟩ := (bZ.FD (aX.qc S1.tp hi rr) S1).aaR (by simp [rr.length]) hl
     obtain ⟨Z3, z3, S3⟩ := S2.aaN
     rw [T.iU, rL] at S3
     exact k _ _ Z3 (z1.trans (a.trans z3)) (k1.trans c) S3)
theorem y9 {Rk : List T} {pa pb : Pos} (n : Vn X i x) (h0 : δ[i]? = some (some (.lst Rk))) (h : Q.T) (h1 : δ1[i]? = some (some (.lst tl))) (hl : tl.length <= 1000000) (k : dY X CL b fS (δ1.set i (some (.lst (tl ++ [t])))) DD)
   (Bt : attributeBase (.Name x pp) "append" X.env (eval (.Name x pp) X.env) = eval (.Name x pp) X.env := by rfl)
   (Li : Q.bf := by rfl)
   (hline : (pa.endLine == pb.line) = true := by rfl) (hs : Q.aa := by exact cE rfl) (O4 : swapsWith (.Call (.Attribute (.Name x pp) "append" pa) [e] [] pb) none pos.line X.env = pure false := by rfl) :
   dY X CL b (.Expr (.Call (.Attribute (.Name x pp) "append" pa) [e] [] pb) pos :: fS) δ DD :=
 dh (aim i h0 h h1 (auX hl (by rw [aui]; decide)) k n.hi n.hv n.hd n.rJ Bt Li hline hs O4)
theorem aaZ {ps : Pos} (n : Vn X i x) (h : Q.T) (h2 : eK X CL b e2 δ1 (.int k) δ1) (h1 : δ1[i]? = some (some (.lst tl))) (hk : xQ tl.length k = some j) (kk : dY X CL b fS (δ1.set i (some (.lst (tl.set j t)))) DD)
   (ha : ∀ v, assign (.Subscript (.Name x pp) e2 ps) X.env v = (do
     let ov ← holding [v] (eval (.Name x pp) X.env)
     let iv ← holding [v, ov] (eval e2 X.env)
     standAt ps
     holding [v, ov, iv] (setItem ov iv v)
     release [v, ov, iv] []) := by intro _; rfl)
   (hs : swapsWithSole [.Subscript (.Name x pp) e2 ps] e pos.line X.env = pure false := by rfl) (hw : swappedStores [.Subscript (.Name x pp) e2 ps] e X.env = pure none := by rfl) (ha1 : (assignEach [.Subscript (.Name x pp) e2 ps] X.env).map (·.2) = [assign (.Subscript (.Name x pp) e2 ps) X.env] := by rfl) :
   dY X CL b (.Assign [.Subscript (.Name x pp) e2 ps] e pos :: fS) δ DD := by
 refine dh fun H Z σ ts vs E S M => v8 (aak fh (aaj (oE n.hi n.hv n.hd n.rJ) fh set_list ha) hs hw ha1) (h H Z σ ts vs _ S fun v H1 Z1 z1 k1 S1 => ?_)
 have hj : j < tl.length := (Bp hk).2.1
 obtain ⟨v0, e0, _⟩ := S1.look h1
 refine ⟨v0, e0, ?_⟩
 refine h2 H1 Z1 σ _ _ _ S1 fun v2 H2 Z2 z2 k2 S2 r2 => ?_
 obtain ⟨a, us, ea, XI, hu, S3⟩ := S2.setAt h1 hj
 rw [e0] at ea
 cases ea
 exact ⟨a, us, k, j, rfl, r2.sc rfl, XI, by rw [hu]; exact hk, M.nx _ σ _ Z2 Q.w S3 kk⟩
theorem cG (hn : ds.length = n) (hm : X.mg "len" = none) (h : eK X CL b e δ (.lst ds) δ1) (hg : Gl X "len") (hs : Q.aa := by exact cE rfl) : dH X CL b (.Call (.Name "len" pp) [e] [] pos) δ (.sh (.int n)) δ1 := by
 subst hn
 exact VW hm h hg hs
theorem bJ (h : dH X CL b e δ (.lst (ds.map T.sh)) δ1) : eK X CL b e δ (.lst ds) δ1 := by
 have := agV h
 rwa [T.iU, rL] at this
theorem fV {f : α -> D} {l : List α} (z : α) (h0 : 0 <= k) (h1 : k < l.length) : yW (l.map f) k = some (f (l.getD k.toNat z)) := by
 obtain ⟨j, rfl⟩ : ∃ j : Nat, k = j := ⟨k.toNat, by omega⟩
 refine b6 ?_
 have hl : j < l.length := by omega
 rw [atE, atm hl]
 simp [List.getD, hl]
theorem bS {α : Type} {f : α -> D} (h : ∀ a, (f a).qc = true) : ∀ (l : List α), D.cZ (l.map f) = true
 | [] => rfl
 | a :: l => by rw [atG, D.cZ, h a, bS h l]; rfl
variable {d : D}
theorem ad7 {u : Tok} (hm : X.mg x = some (.int k u)) (hg : Gl X x) (hd : Q.s := by decide) : dH X CL b Q.C δ (.sh (.int k)) δ := fun H Z σ ts vs Q S kk =>
 dS (GF (v := .int k) hg hm ⟨u, rfl⟩ hd) (kk _ H Z Q.j Q.j (S.push (.int k)))
theorem kT (hm : ∃ u, X.mg x = some (.int k u)) (hg : Gl X x) (hd : Q.s := by decide) : dH X CL b Q.C δ (.sh (.int k)) δ := by
 obtain ⟨u, hm⟩ := hm
 exact ad7 hm hg hd
theorem vE (n : Vn X i x) (h : δ[i]? = some (some t)) (e : t.iU = d) : eK X CL b Q.C δ d δ := e ▸ vB n h
theorem uf (x : Str) : ∀ l : List Str, inV (.str x) (l.map V.str) = decide (x ∈ l)
 | [] => by simp [inV]
 | y :: l => by
   have ih := uf x l
   unfold inV at ih ⊢
   rw [atG, auo, ih]
   have e : ∀ a c : Str, eqV (.str a) (.str c) = (a == c) := fun _ _ => rfl
   rw [e]
   by_cases h : y = x
   . subst h; simp
   . have h' : ¬ x = y := fun e => h e.symm
     simp [h, h']
theorem aX.strs {K : Q.l} {Z : Hp} : ∀ {l : Q.h} {vs : List V}, aX K CL Z (l.map D.str) vs -> vs = l.map V.str
 | [], _, r => by
   have r' : aX K CL Z [] _ := r
   cases r'; rfl
 | y :: l, _, r => by
   have r' : aX K CL Z (D.str y :: l.map D.str) _ := r
   cases r' with
   | cons r1 r2 => rw [r1.sc rfl, aX.strs r2]; rfl
theorem iC : ∀ l : List Str, (l.map V.str).all yX = true
 | [] => rfl
 | y :: l => by rw [atG, aun, iC l]; rfl
variable {l : Q.h}
theorem alL (h1 : eK X CL b e1 δ (.str x) δ1) (h2 : eK X CL b e2 δ1 (.tup (l.map .str)) δ2) (hm : behindInMarks .In e2 = false) :
   xT X CL b (.Compare e1 [.In] [e2] pos) δ (decide (x ∈ l)) δ2 /\ dH X CL b (.Compare e1 [.In] [e2] pos) δ (.sh (.bl (decide (x ∈ l)))) δ2 := by
 constructor
 . intro H Z σ ts vs Q S k
   refine J7 (xP xR fh fh hm) (h1 H Z σ ts vs _ S fun v1 H1 Z1 z1 k1 S1 r1 => h2 H1 Z1 σ ts vs _ S1 fun v2 H2 Z2 z2 k2 S2 r2 => ?_)
   cases r2 with
   | tup hq rr =>
     have e := rr.strs
     subst e
     refine ⟨_, _, rfl, .inr hq, by rw [r1.sc rfl]; rfl, iC l, _, rfl, ?_⟩
     rw [as5 atv, r1.sc rfl, uf]
     exact k H2 Z2 Q.w Q.E S2
 . intro H Z σ ts vs Q S k
   refine dS (xO xR fh fh hm) (h1 H Z σ ts vs _ S fun v1 H1 Z1 z1 k1 S1 r1 => h2 H1 Z1 σ ts vs _ S1 fun v2 H2 Z2 z2 k2 S2 r2 => ?_)
   cases r2 with
   | tup hq rr =>
     have e := rr.strs
     subst e
     refine ⟨_, _, rfl, .inr hq, by rw [r1.sc rfl]; rfl, iC l, ?_⟩
     rw [as5 atv, r1.sc rfl, uf]
     exact k _ H2 Z2 Q.w Q.E (S2.push (.bl _))
theorem aa0 (h1 : eK X CL b e1 δ (.str x) δ1) (h2 : XJ X CL b es δ1 ((l.map D.str).map T.sh) δ2) (hl : (l.map D.str).length <= sizeLine := by exact aC rfl) :
   xT X CL b (.Compare e1 [.In] [.Tuple es j p2] pos) δ (decide (x ∈ l)) δ2 /\ dH X CL b (.Compare e1 [.In] [.Tuple es j p2] pos) δ (.sh (.bl (decide (x ∈ l)))) δ2 := alL h1 (ai (bG h2 hl)) rfl
theorem Ly (hm : X.mg "int" = none) (h : eK X CL b e δ (.bl p) δ1) (hg : Gl X "int") (hs : Q.aa := by exact cE rfl) : dH X CL b (.Call (.Name "int" pp) [e] [] pos) δ (.sh (.int (if p then 1 else 0))) δ1 := fun H Z σ ts vs Q S k =>
 dS (qD Xs hg hm XQ (dm fh iA hs) (he := hs)) (h H Z σ ts vs _ S fun v H1 Z1 z1 k1 S1 r => .inr ⟨p, by rw [r.sc rfl], k _ H1 Z1 z1 k1 (S1.push (.int _))⟩)
def HB : Expr -> Option Str
 | .Constant (.str x) _ _ => some x
 | _ => none
def DW : List Expr -> Option Q.h
 | [] => some []
 | e :: es => (HB e).bind fun x => (DW es).map (x :: ·)
theorem Pj (h : HB e = some x) : ∃ j p, e = .Constant (.str x) j p := by
 unfold HB at h
 split at h
 . cases h; exact ⟨_, _, rfl⟩
 . cases h
theorem iD : ∀ {es : List Expr} {l : Q.h}, DW es = some l -> XJ X CL b es δ ((l.map D.str).map T.sh) δ
 | [], l, h => by
   have e : l = [] := (atX h).symm
   subst e
   exact cV
 | e :: es, l, h => by
   rw [DW] at h
   obtain ⟨x, hx, h⟩ := Option.bind_eq_some_iff.mp h
   obtain ⟨l', hl, rfl⟩ := auc.mp h
   obtain ⟨j, p, rfl⟩ := Pj hx
   exact bA bz (iD hl)
theorem aoD {st1 : Stmt} (J : List (Option T) -> Prop) (k : ∀ δ2, J δ2 -> dY X CL b fS δ2 DD) (h : (∀ δ2, J δ2 -> dY X CL b fS δ2 DD) -> dY X CL b (st1 :: fS) δ DD) : dY X CL b (st1 :: fS) δ DD := h k
theorem aa1 {l : List α} (z : α) (h0 : 0 <= k) (h1 : k < l.length) : yW l k = some (l.getD k.toNat z) := by
 obtain ⟨j, rfl⟩ : ∃ j : Nat, k = j := ⟨k.toNat, by omega⟩
 refine b6 ?_
 have hl : j < l.length := by omega
 rw [atm hl]
 simp [List.getD, hl]
theorem str_len (x y : Str) : (x ++ y).length = x.length + y.length := by
 show (x.cps ++ y.cps).size = _
 rw [Array.size_append]; rfl
theorem FH (l : Q.e) : T.eX ((l.map D.int).map T.sh) = true := by
 rw [atF]
 induction l with
 | nil => rfl
 | cons i r ih => rw [atG, T.eX, ih]; rfl
variable {tt : List T}
theorem bZ.ait (S : Q.M) (hi : δ[i]? = some (some (.tup tt))) (hj : tt[j]? = some t) :
   ∃ a0 us0 v, σ[i]? = some (some (.ref a0)) /\ Z a0 = some (.tup us0) /\ us0[j]? = some v /\ bZ K CL b H Z (δ.set i (some (.tup (tt.set j (.sh .any))))) σ (t :: ts) (v :: vs) := by
 obtain ⟨fp, gp, e, r, nd, k⟩ := S.rep
 obtain ⟨v0, f1, f2, f3, hv, v9, rt, put, _⟩ := e.get hi
 subst v9
 cases rt with
 | @tup a0 us0 _ _ hq r0 =>
   obtain ⟨vj, g1, g2, g3, hvj, hg, rj, set⟩ := r0.at hj
   subst hg
   have r2 := set (H' := H) (t' := .sh .any) (v' := vj) (g := []) (fun _ _ => rfl) (.sh (.any vj))
   rw [iW hvj] at r2
   have e2 := put (H' := H) Q.j (fun _ _ => rfl) (cP.tup hq r2)
   rw [iW hv] at e2
   have hp : ((f1 ++ ((g1 ++ ([] ++ g3)) ++ f3)) ++ (g2 ++ gp)).Perm ((f1 ++ ((g1 ++ (g2 ++ g3)) ++ f3)) ++ gp) := by
     simp only [auA, atc]
     refine at7 f1 (at7 g1 ?_)
     have := (atJ (l₁ := g3 ++ f3) (l₂ := g2)).append_right gp
     simp only [atc] at this
     exact this
   exact ⟨a0, us0, vj, hv, hq, hvj, ⟨⟨_, g2 ++ gp, e2, .cons rj r, hp.nodup_iff.mpr nd, fun a ha => k a (hp.mem_iff.mp ha)⟩, S.bh, S.zz, S.zh, S.new, S.tp, S.tab⟩⟩
variable {pc ps : Pos} {kj : Nat}
theorem VY (j : Nat) (n : Vn X i x) (h : δ[i]? = some (some (.tup tt))) (hj : tt[j]? = some t) : dH X CL b (.Subscript (.Name x pp) (.Constant (.int j) kj pc) ps) δ t (δ.set i (some (.tup (tt.set j (.sh .any))))) := fun H Z σ ts vs Q S k => by
 obtain ⟨a0, us0, v, hv, hq, hvj, S'⟩ := S.ait h hj
 exact dS (OX aaz (oE n.hi n.hv n.hd n.rJ) aah (fun _ _ => rfl)) ⟨_, hv, a0, us0, j, v, rfl, rfl, Fq.of (S.zh _ _ hq), b6 hvj, k v H Z Q.j Q.j S'⟩
variable {ds : List D}
theorem vFL (n : Vn X i x) (h : δ[i]? = some (some (.lst (ds.map T.sh)))) : dH X CL b Q.C δ (.sh (.lst ds)) (δ.set i (some (.sh (.lst ds)))) := by
 have := vF (CL := CL) (b := b) (pos := pos) n h
 rwa [T.iU, rL] at this
theorem yZ.get : ∀ {fs : List (Str × D)} {gs : List (Str × V)} {f : Str} {d : D}, yZ K CL Z fs gs -> fs.lookup f = some d -> ∃ v, gs.lookup f = some v /\ cC K CL Z d v
 | _, _, _, _, .nil, e => by simp at e
 | _, _, f, d, .cons (x := x) r t, e => by
   rw [atW] at e ⊢
   cases h : f == x with
   | true => rw [h] at e; cases e; exact ⟨_, rfl, r⟩
   | false => rw [h] at e; exact yZ.get t e
def BD (f : Str) (t : T) : List Q.t -> List Q.t
 | [] => [(f, t)]
 | (g, x) :: r => if g = f then (g, t) :: r else (g, x) :: BD f t r
theorem eU.length {fs : List Q.t} {gs : List (Str × V)} (h : eU K CL H Z fs gs fp) : fs.length = gs.length :=
 eU.ind (P := fun d v _ => d.length = v.length) rfl (fun _ _ i => congrArg (· + 1) i) h
theorem eU.put {f : Str} {g : Q.p} (q : cP K CL H Z t v g) : ∀ {fs : List Q.t} {gs : List (Str × V)} {fp : Q.p}, eU K CL H Z fs gs fp →
   ∃ VZ f', eU K CL H Z (BD f t fs) (qM f v gs) VZ /\ f'.Sublist fp /\ VZ.Perm (g ++ f')
 | _, _, _, .nil => ⟨g ++ [], [], .cons q .nil, atQ _, avl _⟩
 | _, _, _, .cons (x := x) (fp := fp) (gp := gp) r rs => by
   rw [BD, qM]
   by_cases h : x = f
   . rw [atb h, atb h]
     exact ⟨g ++ gp, gp, .cons q rs, auh _ _, avl _⟩
   . rw [as5 h, as5 h]
     obtain ⟨p, p', h1, h2, h3⟩ := eU.put (f := f) q rs
     refine ⟨fp ++ p, fp ++ p', .cons r h1, atO (atQ _) h2, (at7 fp h3).trans ?_⟩
     rw [← atc, ← atc]
     exact atJ.append_right p'
theorem bZ.RQ {o : HO} {VZ VX : Q.p} (hm : pG o = false) (S : Q.M) (own : ∀ c ∈ fp ++ gp, Z c = none /\ b.B c = none) (ha : a ∈ fp ++ gp)
   (e' : fQ K CL (upd H a o) Z δ2 σ VZ) (r' : bL K CL (upd H a o) Z tl us VX) (pm : (VZ ++ VX).Nodup) (sub : ∀ c ∈ VZ ++ VX, c ∈ fp ++ gp) :
   bZ K CL b (upd H a o) Z δ2 σ tl us := by
 have oa := own a ha
 refine ⟨⟨_, _, e', r', pm, fun c hc => own c (sub c hc)⟩, fun c u q => ?_, S.zz, fun c u q => ?_, S.new, fun c u q i => ?_, S.tab⟩
 . rw [aP (cM q oa.2)]; exact S.bh c u q
 . rw [aP (cM q oa.1)]; exact S.zh c u q
 . by_cases hc : c = a
   . subst hc; rw [bR] at q; cases q; rw [hm] at i; cases i
   . rw [aP hc] at q; exact S.tp c u q i
variable {c : Str}
theorem bZ.setField {x : Addr} {f : Str} {fs : List Q.t} (S : Q.al) (hi : δ[i]? = some (some (.pin x (.ins c fs)))) :
   ∃ dx gs, σ[i]? = some (some (.ref x)) /\ H x = some (.ins (CL c) dx gs) /\ gs.length = fs.length /\ bZ K CL b (upd H x (.ins (CL c) dx (qM f v gs))) Z (δ.set i (some (.pin x (.ins c (BD f t fs))))) σ ts vs := by
 obtain ⟨fp, gp, e, r, nd, k⟩ := S.rep
 obtain ⟨v0, f1, f2, f3, hv, v9, rt, put, _⟩ := e.get hi
 subst v9
 cases rt with
 | pin rt =>
 cases rt with
 | @ins a dx _ gs _ g ha rs =>
   cases r with
   | @cons _ _ _ _ ft gr q1 q2 =>
     have ne : ∀ c ∈ Q.ab ++ (ft ++ gr), c ≠ x := fun c hc e => by
       subst e
       have hp : ((f1 ++ ((c :: g) ++ f3)) ++ (ft ++ gr)).Perm (c :: (Q.ab ++ (ft ++ gr))) := by
         rw [atV, ← atV]
         exact (auD.append_right _)
       exact (aud.mp (hp.nodup_iff.mp nd)).1 hc
     refine ⟨dx, gs, hv, ha, rs.length.symm, ?_⟩
     have q1' := q1.mono (H' := upd H x (.ins (CL c) dx (qM f v gs))) Q.j fun c hc => aP Q.W
     have rs' := rs.mono (H' := upd H x (.ins (CL c) dx (qM f v gs))) Q.j fun c hc => aP Q.W
     obtain ⟨p, p', h1, h2, h3⟩ := eU.put (f := f) q1' rs'
     have r1 : cP K CL (upd H x (.ins (CL c) dx (qM f v gs))) Z (.pin x (.ins c (BD f t fs))) (.ref x) (x :: p) := .pin (.ins bR h1)
     have e2 := put (H' := upd H x (.ins (CL c) dx (qM f v gs))) Q.j (fun c hc => aP (ne c (by
       rcases ate.mp hc with h | h
       . simp [h]
       . simp [h]))) r1
     rw [iW hv] at e2
     have hp : ((f1 ++ ((x :: p) ++ f3)) ++ gr).Perm ((f1 ++ ((x :: p') ++ f3)) ++ (ft ++ gr)) := by
       have h4 : ((f1 ++ ((x :: p) ++ f3)) ++ gr).Perm ((f1 ++ ((x :: (ft ++ p')) ++ f3)) ++ gr) := ((h3.cons x).append_right f3).append_left f1 |>.append_right gr
       refine h4.trans ?_
       simp only [atV, atc]
       refine at7 f1 (List.Perm.cons x ?_)
       have := (atJ (l₁ := ft) (l₂ := p' ++ f3)).append_right gr
       simp only [atc] at this
       exact this
     have sb : ((f1 ++ ((x :: p') ++ f3)) ++ (ft ++ gr)).Sublist ((f1 ++ ((x :: g) ++ f3)) ++ (ft ++ gr)) :=
       atO (atO (atQ _) (atO (List.Sublist.cons₂ x h2) (atQ _))) (atQ _)
     exact S.RQ rfl k Q.r e2 (q2.mono Q.j fun c hc => aP Q.W) (hp.nodup_iff.mpr (nd.sublist sb)) fun c hc => sb.subset (hp.mem_iff.mp hc)
variable {f : Str} {d : D} {fs : List (Str × D)}
theorem dJ (hc : DQ X.K (CL c)) (n : bQ X.K (CL c) f) (h : eK X CL b e δ (.ins c fs) δ1) (hl : fs.lookup f = some d) (hb : attributeBase e f X.env (eval e X.env) = eval e X.env := by rfl) :
   eK X CL b (.Attribute e f pos) δ d δ1 := fun H Z σ ts vs Q S k =>
 dS (aau fh hb) (h H Z σ ts vs _ S fun v H' Z' z s S' r => by
   cases r with
   | @ins a dx _ gs _ ha rf =>
     obtain ⟨w, hw, rw'⟩ := rf.get hl
     exact ⟨a, CL c, dx, gs, w, rfl, ha, hc, n, hw, k w H' Z' z s S' rw'⟩)
theorem HC (hc : DQ X.K (CL c)) (n : bQ X.K (CL c) f) (h : dH X CL b e δ (.sh (.ins c fs)) δ1) (hl : fs.lookup f = some d) (hb : attributeBase e f X.env (eval e X.env) = eval e X.env := by rfl) :
   dH X CL b (.Attribute e f pos) δ (.sh d) δ1 := fun H Z σ ts vs Q S k =>
 dS (aau fh hb) (h H Z σ ts vs _ S fun v H' Z' z s S' => by
   obtain ⟨fp, gp, _, r, _, _⟩ := S'.rep
   cases r with
   | cons r _ =>
     cases r with
     | sh r =>
       cases r with
       | @ins a dx _ gs _ ha rf =>
         obtain ⟨w, hw, rw'⟩ := rf.get hl
         exact ⟨a, CL c, dx, gs, w, rfl, S'.zh _ _ ha, hc, n, hw, k w H' Z' z s (S'.pop.push rw')⟩)
theorem BE {gs : List Q.t} {pa pb : Pos} (hc : DQ X.K (CL c)) (n : bQ X.K (CL c) f) (nm : Vn X i x) (h : Q.T) (h1 : δ1[i]? = some (some (.pin a (.ins c gs)))) (hl : gs.length < 1000)
   (k : dY X CL b fS (δ1.set i (some (.pin a (.ins c (BD f t gs))))) DD) (hs : swapsWith e (some (.Attribute (.Name x pa) f pb)) pc.line X.env = pure false := by rfl) :
   dY X CL b (.Assign [.Attribute (.Name x pa) f pb] e pc :: fS) δ DD := dh fun H Z σ ts vs E S M =>
 v8 (ahW (oE nm.hi nm.hv nm.hd nm.rJ) fh hs) (h H Z σ ts vs _ S fun v H' Z' z s S' => by
   obtain ⟨dx, ws, hv, hx, hlen, S2⟩ := S'.setField (f := f) h1
   exact ⟨.ref a, hv, a, CL c, dx, ws, rfl, hx, hc, n, by rw [hlen]; exact hl, M.nx _ σ _ Z' z S2 k⟩)
def spI (K : Q.l) (CL : Q.g) {A : Type} (c : Str) (n : Nat) (arg : A -> List D) (Pre : A -> Prop) (res : A -> List Q.t) : Sp := fun vs H Q _ =>
 ∃ (W H0 : Hp) (a : A) (x dx : Addr) (us : List V), vs = .ref x :: us /\ H0 x = none /\ H0 dx = none /\ dx ≠ x /\ H = upd (upd H0 dx (.own x)) x (.ins (CL c) dx []) ∧
   aT W H0 /\ (∀ c o, H0 c = some o -> pG o = true -> W c = some o) /\ aX K CL W (arg a) us /\ (arg a).length + 1 = n /\ Pre a /\ pT CL W ∧
   ∀ H' W' fp, aT H0 H' -> aT W W' -> aT W' H' -> (∀ c o, W' c = some o -> W c = none -> H0 c = none) -> (∀ c o, H' c = some o -> pG o = true -> W' c = some o) →
     cP K CL H' W' (.ins c (res a)) (.ref x) fp -> fp.Nodup -> (∀ c ∈ fp, W' c = none /\ H0 c = none) -> Q .non H'
variable {A : Type} {k : Nat} {f : Addr} {ps : Q.h} {arg : A -> List D} {Pre : A -> Prop}
theorem ad9 {res : A -> List Q.t} (a : A) (M : Mk X.K (CL c) f) (F : iy X.prog X.w X.K X.mg X.base xS k f fd ps (spI X.K CL c n arg Pre res)) (hr : jH (k + 1) X.A) (hm : X.mg x = some (.ref (CL c))) (hb : Binds X.K fd ps [])
   (h : BAv X CL b (e :: es) δ (arg a) δ1) (hn : (arg a).length + 1 = n) (hp : Pre a) (hc : T.cQ (res a) = true) (hg : Gl X x)
   (Bo : Q.s := by decide) (he : Q.R := by exact cE rfl) (hpl : Q.ac := by rfl) :
   dH X CL b Q.aw δ (.ins c (res a)) δ1 := fun H Z σ ts vs Q S kk =>
 dS (VG M F hr hg hm hb .nil OZ VN Bo he hpl) (h H Z σ ts vs _ S fun us H1 Z1 z1 k1 S1 r x dx hx hdx ne => by
   rw [atY]
   refine ⟨H1, H1, a, x, dx, us, rfl, hx, hdx, ne, rfl, .refl _, fun _ _ q _ => q, r, hn, hp, S1.aaM, fun H' W' fp hh ww wh nw tp rt nd own => ⟨rfl, ?_⟩⟩
   obtain ⟨Z', z', S'⟩ := S1.back hh S1.zh ww wh nw tp rt nd own (.inr (by rw [T.clean]; exact hc))
   exact kk _ H' Z' (z1.trans z') (k1.trans hh) S')
theorem V0 {qual : Str} {arg : A -> List D} {Pre : A -> Prop} {res : A -> List Q.t} (F : ow K x qual st f fd) (S : aZ N ps (az st))
   (hb : ∀ (lC : Value) (Ar : Around) (outer : List Env) (s : Shared) (H : Hp) (E : XK) (b : Bx) (a : A) (y : Addr), jH k Q.aY -> Pre a →
     dY (DR xS P w K mg base N qual (az st) f lC Ar outer s H E).nox CL b (dW st) (some (.pin y (.ins c [])) :: ((arg a).map (fun d => some (T.sh d)) ++ List.replicate (N.length - ((arg a).length + 1)) none))
       { nx := fun δ => δ[0]? = some (some (.pin y (.ins c (res a)))), rt := fun _ _ => False }) :
   iy P w K mg base xS (k + 1) f fd ps (spI K CL c ps.length arg Pre res) := by
 refine F.ok S (fun vs H Q E h => ?_) (fun lC Ar outer s H vs Q E hr h => ?_)
 . obtain ⟨W, H0, a, y, dx, us, rfl, _, _, _, _, _, _, r, hl, _⟩ := h
   rw [at8, ← r.length]; exact hl
 . obtain ⟨W, H0, a, y, dx, us, rfl, hy, hdx, ne, rfl, wh, tp, r, hl, hp, tb, kk⟩ := h
   have old : ∀ {d : Addr} {o : HO}, H0 d = some o -> upd (upd H0 dx (.own y)) y (.ins (CL c) dx []) d = some o := fun {d o} q => by
     rw [aP (cM q hy), aP (cM q hdx)]; exact q
   refine ⟨_, XH, hb lC Ar outer s _ E ⟨H0, W⟩ a y hr hp _ W _ [] [] _ ⟨⟨[y] ++ [], [], ?_, .nil, by simp, fun d hd => ?_⟩, fun d o q => old q, .refl _, fun d o q => old (wh d o q), fun d o q z => ?_, fun d o q i => ?_, tb⟩ ⟨fun δ' σ' H' Z' s' S' e => ?_, fun t v H' Z' δ' σ' s' S' e => e.elim, fun _ _ _ _ _ _ e => e.elim, fun _ _ _ _ _ _ e => e.elim⟩⟩
   . unfold L2.start
     rw [atG, at8, atV, ← r.length]
     exact .cons (.pin (.ins bR .nil)) (oF _ r)
   . have : d = y := by simpa using hd
     subst this
     exact ⟨RK wh hy, hy⟩
   . have q' : W d = some o := q
     have z' : W d = none := z
     rw [q'] at z'; cases z'
   . by_cases h1 : d = y
     . subst h1; rw [bR] at q; cases q; cases i
     . rw [aP h1] at q
       by_cases h2 : d = dx
       . subst h2; rw [bR] at q; cases q; cases i
       . rw [aP h2] at q; exact tp d o q i
   . obtain ⟨fp, gp, eE, _, nd, own⟩ := S'.rep
     obtain ⟨v, f1, f2, f3, hv, v9, rt, _, _⟩ := eE.get e
     subst v9
     cases rt with
     | pin rt =>
       refine kk H' Z' f2 S'.bh S'.zz S'.zh S'.new S'.tp rt ?_ fun d hd => own d (by simp [hd])
       have h1 := (atR.mp nd).1
       exact (atR.mp (atR.mp h1).2.1).1
variable {body : List Stmt} {ds V1 : List D}
theorem V2 (g : Gx X) (P : Nat -> List (Option T) -> Prop) (m : Nat) (h0 : P m δ)
   (hs : ∀ m δ, P m δ -> ∃ p δ1, xT X CL b e δ p δ1 ∧
     (p = true -> dY X CL b body δ1 { nx := fun δ2 => ∃ m', m' < m /\ P m' δ2, rt := DD.rt, bk := fun δ2 => dY X CL b fS δ2 DD, ct := fun δ2 => ∃ m', m' < m /\ P m' δ2 }) /\ (p = false -> dY X CL b fS δ1 DD)) :
   dY X CL b (.While e body [] pos :: fS) δ DD := dh fun H Z σ ts vs E S M =>
 v8 (aal g.xe ptS XH) (by
   refine ⟨fun m σ H => ∃ Z2 δ2, aT Z Z2 /\ bZ X.K CL b H Z2 δ2 σ ts vs /\ P m δ2, ⟨m, Z, δ, .refl _, S, h0⟩, ?_⟩
   rintro m σ H ⟨Z2, δ2, z2, S2, p2⟩
   obtain ⟨p, δ3, ht, h1, h2⟩ := hs m δ2 p2
   refine ht H Z2 σ ts vs _ S2 fun H3 Z3 z3 k3 S3 => ?_
   cases p with
   | true =>
     rw [atb rfl]
     refine ⟨fun σ' H' => ∃ m', m' < m /\ ∃ Z2 δ2, aT Z Z2 /\ bZ X.K CL b H' Z2 δ2 σ' ts vs /\ P m' δ2, fun σ' H' q => q, ?_⟩
     refine h1 rfl H3 Z3 σ ts vs _ S3 ⟨fun δ' σ' H' Z' s' S' ⟨m', l, q⟩ => ⟨m', l, Z', δ', z2.trans (z3.trans s'), S', q⟩, fun t v H' Z' δ' σ' s' S' q => M.rt t v H' Z' δ' σ' (z2.trans (z3.trans s')) S' q,
       fun δ' σ' H' Z' s' S' q => M.nx δ' σ' H' Z' (z2.trans (z3.trans s')) S' q, fun δ' σ' H' Z' s' S' ⟨m', l, q⟩ => ⟨m', l, Z', δ', z2.trans (z3.trans s'), S', q⟩⟩
   | false =>
     rw [as5 Q.c]
     exact M.nx δ3 σ H3 Z3 (z2.trans z3) S3 (h2 rfl))
def alO (K : Q.l) : R2 := fun x y H Q => ∃ l b xs zs, x = .ref l /\ y = .ref b /\ vN K H l xs /\ vN K H b zs /\ xs.length + zs.length <= sizeLine /\ ∀ p, H p = none -> Q (.ref p) (upd H p (.lst (xs ++ zs)))
theorem aea : vY X (binaryOp .Add) (alO X.K) := by
 intro pins s σ H x y v u Q I rx ry h
 obtain ⟨l, b, xs, zs, rfl, rfl, hH, hB, hz, q⟩ := h
 cases rx
 cases ry
 obtain ⟨its, r, pl, _⟩ := I.list hH
 obtain ⟨aiu, r2, pl2, _⟩ := I.list hB
 have e1 := r.length
 have e2 := r2.length
 obtain ⟨⟨c1, dd, da1, sl⟩, ho, hc, n, hd⟩ := pl.isList
 obtain ⟨⟨c2, dd2, da2, sl2⟩, ho2, hc2, n2, hd2⟩ := pl2.isList
 cases hc; cases hc2; cases hd; cases hd2
 refine concat_meets ⟨_, ho, rfl⟩ ⟨_, ho2, rfl⟩ noFill_list_add seq_list_add PySem.F.slot_list_add PySem.F.entry_list_add (PySem.F.args_list_add_2 (Value.ref l) (Value.ref b))
   (list_addW l b its.toArray aiu.toArray n n2 dd dd2 sl sl2 (by rw [atN, atN]; omega)) ⟨ho, ho2, ?_⟩
 have ea : its.toArray ++ aiu.toArray = (its ++ aiu).toArray := by simp
 rw [ea]
 exact ⟨.ref _, _, I.alq (t' := s.toks) (r.append r2) (by rw [ats]; omega), rfl, q _ I.fresh⟩
theorem aX.app {ds V1 : List L3.D} {vs2 : List V} (h : aX K CL Z ds vs) (r2 : aX K CL Z V1 vs2) : aX K CL Z (ds ++ V1) (vs ++ vs2) :=
 aX.ind (P := fun ds vs => aX K CL Z (ds ++ V1) (vs ++ vs2)) r2 (fun r _ i => .cons r i) h
theorem ug (h1 : eK X CL b e1 δ (.lst ds) δ1) (h2 : eK X CL b e2 δ1 (.lst V1) δ2) (i1 : D.cZ ds = true) (i2 : D.cZ V1 = true) (hz : ds.length + V1.length <= sizeLine) :
   dH X CL b (.BinOp e1 .Add e2 pos) δ (.lst ((ds ++ V1).map T.sh)) δ2 := fun H Z σ ts vs Q S k =>
 dS (aan aea fh fh) (h1 H Z σ ts vs _ S fun v1 H1 Z1 z1 k1 S1 r1 => h2 H1 Z1 σ ts vs _ S1 fun v2 H2 Z2 z2 k2 S2 r2 => by
   have r1' := r1.mono k2
   cases r1' with
   | lst hq1 rr1 =>
     cases r2 with
     | lst hq2 rr2 =>
       refine ⟨_, _, _, _, rfl, rfl, hq1, hq2, by rw [← rr1.length, ← rr2.length]; exact hz, fun p hp => ?_⟩
       have rc := aX.app (aX.qc S2.tp i1 rr1) (aX.qc S2.tp i2 rr2)
       obtain ⟨c, S4⟩ := (bZ.FD rc S2).zu (g0 := []) (by simp [rc.length, rr1.length, rr2.length]) hp
       exact k _ _ _ Q.w (k1.trans (k2.trans c)) S4)
theorem boot_str : bootBuiltins "str" = some (.type "str") := Q.f
theorem Lz {i : Int} (hm : X.mg "str" = none) (hg : Gl X "str") (h : eK X CL b e δ (.int i) δ1) (hi : i.natAbs.log2 < 1920) (hs : Q.aa := by exact cE rfl) :
   dH X CL b (.Call (.Name "str" pp) [e] [] pos) δ (.sh (.str (toString i))) δ1 := fun H Z σ ts vs Q S k =>
 dS (qD Ld hg hm boot_str (dm fh iA hs) (he := hs)) (h H Z σ ts vs _ S fun v H1 Z1 z1 k1 S1 r => by
   rw [r.sc rfl]
   exact ⟨i, rfl, hi, k _ H1 Z1 z1 k1 (S1.push (.str _))⟩)
structure Fm (X : Cx) (CL : Q.g) (x : Str) (k n : Nat) {A : Type} (arg : A -> List D) (Pre : A -> Prop) (res : A -> List Q.t) : Prop where
 ex : ∃ f fd ps, Mk X.K (CL x) f /\ iy X.prog X.w X.K X.mg X.base xS k f fd ps (spI X.K CL x n arg Pre res) /\ X.mg x = some (.ref (CL x)) /\ Binds X.K fd ps []
 room : jH (k + 1) X.A
def aa2 (N : Q.h) (y : Addr) (c : Str) (ds : List D) : List (Option T) := some (.pin y (.ins c [])) :: (ds.map (fun d => some (T.sh d)) ++ List.replicate (N.length - (ds.length + 1)) none)
theorem aix {CL' : Q.g} {arg : List Int -> List D} {pre : List Int -> Prop} {res : List Int -> T} (ha : ∀ a, arg a = [.lst (a.map .int)]) (hr : ∀ a, res a = .sh (.bl true)) (h0 : ∀ x, VP x = true -> CL x = 0) :
   ∀ (vs : List V) (H : Hp) (Q : VK) (E : XK), XM K CL' 1 arg pre res vs H Q E -> XM K CL 1 arg pre res vs H Q E := by
 rintro vs H Q E ⟨W, a, h1, h2, h3, h4, h5, _, k⟩
 have aiy : ∀ {l : Q.e} {us : List V}, aX K CL' W (l.map .int) us -> aX K CL W (l.map .int) us := by
   intro l
   induction l with
   | nil => intro us r; cases r; exact .nil
   | cons i l ih =>
     intro us r
     cases r with
     | cons r t => cases r; exact .cons (.int i) (ih t)
 refine ⟨W, a, h1, h2, ?_, h4, h5, fun x hx e => absurd (h0 x hx) e, fun v H' W' fp a1 a2 a3 a4 a5 r nd own => k v H' W' fp a1 a2 a3 a4 a5 ?_ nd own⟩
 . rw [ha] at h3 ⊢
   cases h3 with
   | cons r t =>
     cases t
     cases r with
     | lst q rr => exact .cons (.lst q (aiy rr)) .nil
 . rw [hr] at r ⊢
   cases r with
   | sh r => cases r; exact .sh (.bl _)
section
variable {m : Str} {D : g6}
theorem mk_ {arg : A -> List L3.D} {Pre : A -> Prop} {res : A -> List Q.t} (a : A) (F : Fm X CL x k n arg Pre res) (hg : Gl X x) (h : BAv X CL b (e :: es) δ (arg a) δ1) (hp : Pre a) (hc : T.cQ (res a) = true) (hn : (arg a).length + 1 = n := by rfl)
   (Bo : Q.s := by decide) (he : Q.R := by exact cE rfl) (hpl : Q.ac := by rfl) :
   dH X CL b Q.aw δ (.ins x (res a)) δ1 := by
 obtain ⟨f, fd, ps, M, F1, m, b⟩ := F.ex
 exact ad9 a M F1 F.room m b h hn hp hc hg Bo he hpl
end
theorem qe {f : Str} {d : α} {fs : List (Str × α)} : ((f, d) :: fs).lookup f = some d := by
 rw [atW, auP]
theorem fN {f g : Str} {d : α} {fs : List (Str × α)} (h : (f == g) = false) : ((g, d) :: fs).lookup f = fs.lookup f := by
 rw [atW, h]
theorem mH {f : Str} : BD f t [] = [(f, t)] := rfl
theorem c9 {f g : Str} {u : T} {fs : List Q.t} (h : ¬ g = f) : BD f t ((g, u) :: fs) = (g, u) :: BD f t fs := by
 rw [BD, as5 h]
variable {d : L3.D}
theorem LC (x : Int) : ∀ l : List Int, inV (.int x) (l.map V.int) = decide (x ∈ l)
 | [] => by simp [inV]
 | y :: l => by
   have ih := LC x l
   unfold inV at ih ⊢
   rw [atG, auo, ih]
   by_cases h : y = x
   . subst h; simp [eqV]
   . have h' : ¬ x = y := fun e => h e.symm
     simp [eqV, h, h']
theorem aX.ints {K : Q.l} {Z : Hp} : ∀ {l : Q.e} {vs : List V}, aX K CL Z (l.map D.int) vs -> vs = l.map V.int
 | [], _, r => by
   have r' : aX K CL Z [] _ := r
   cases r'; rfl
 | y :: l, _, r => by
   have r' : aX K CL Z (D.int y :: l.map D.int) _ := r
   cases r' with
   | cons r1 r2 => rw [r1.sc rfl, aX.ints r2]; rfl
theorem uh : ∀ l : List Int, (l.map V.int).all yX = true
 | [] => rfl
 | y :: l => by rw [atG, aun, uh l]; rfl
def HD (d : L3.D) : Option (List L3.D) := match d with
 | .lst ds => some ds
 | .tup ds => some ds
 | _ => none
theorem cC.HD {ds : List L3.D} (r : cC K CL Z d v) (h : L3.HD d = some ds) : ∃ p us, v = .ref p /\ (vN K Z p us \/ Fq K Z p us) /\ aX K CL Z ds us := by
 cases r with
 | tup hq rr => cases h; exact ⟨_, _, rfl, .inr hq, rr⟩
 | lst hq rr => cases h; exact ⟨_, _, rfl, .inl hq, rr⟩
 | non => cases h
 | bl => cases h
 | int => cases h
 | str => cases h
 | any => cases h
 | val => cases h
 | vC => cases h
 | dct => cases h
 | ins => cases h
theorem aeb {l : Q.e} {i : Int} (h1 : Q.ae) (h2 : eK X CL b e2 δ1 d δ2) (hd : L3.HD d = some (l.map .int)) (hm : behindInMarks .NotIn e2 = false) :
   xT X CL b (.Compare e1 [.NotIn] [e2] pos) δ (!decide (i ∈ l)) δ2 /\ dH X CL b (.Compare e1 [.NotIn] [e2] pos) δ (.sh (.bl (!decide (i ∈ l)))) δ2 := by
 constructor
 . intro H Z σ ts vs Q S k
   refine J7 (xP qb fh fh hm) (h1 H Z σ ts vs _ S fun v1 H1 Z1 z1 k1 S1 r1 => h2 H1 Z1 σ ts vs _ S1 fun v2 H2 Z2 z2 k2 S2 r2 => ?_)
   obtain ⟨p, us, rfl, hq, rr⟩ := cC.HD r2 hd
   have e := rr.ints
   subst e
   refine ⟨_, _, rfl, hq, by rw [r1.sc rfl]; rfl, uh l, _, rfl, ?_⟩
   rw [atb rfl, r1.sc rfl, LC]
   exact k H2 Z2 Q.w Q.E S2
 . intro H Z σ ts vs Q S k
   refine dS (xO qb fh fh hm) (h1 H Z σ ts vs _ S fun v1 H1 Z1 z1 k1 S1 r1 => h2 H1 Z1 σ ts vs _ S1 fun v2 H2 Z2 z2 k2 S2 r2 => ?_)
   obtain ⟨p, us, rfl, hq, rr⟩ := cC.HD r2 hd
   have e := rr.ints
   subst e
   refine ⟨_, _, rfl, hq, by rw [r1.sc rfl]; rfl, uh l, ?_⟩
   rw [atb rfl, r1.sc rfl, LC]
   exact k _ H2 Z2 Q.w Q.E (S2.push (.bl _))
theorem V3 (h1 : eK X CL b e1 δ (.str x) δ1) (h2 : eK X CL b e2 δ1 d δ2) (hd : L3.HD d = some (l.map .str)) (hm : behindInMarks .In e2 = false) :
   xT X CL b (.Compare e1 [.In] [e2] pos) δ (decide (x ∈ l)) δ2 /\ dH X CL b (.Compare e1 [.In] [e2] pos) δ (.sh (.bl (decide (x ∈ l)))) δ2 := by
 constructor
 . intro H Z σ ts vs Q S k
   refine J7 (xP xR fh fh hm) (h1 H Z σ ts vs _ S fun v1 H1 Z1 z1 k1 S1 r1 => h2 H1 Z1 σ ts vs _ S1 fun v2 H2 Z2 z2 k2 S2 r2 => ?_)
   obtain ⟨p, us, rfl, hq, rr⟩ := cC.HD r2 hd
   have e := rr.strs
   subst e
   refine ⟨_, _, rfl, hq, by rw [r1.sc rfl]; rfl, iC l, _, rfl, ?_⟩
   rw [as5 atv, r1.sc rfl, uf]
   exact k H2 Z2 Q.w Q.E S2
 . intro H Z σ ts vs Q S k
   refine dS (xO xR fh fh hm) (h1 H Z σ ts vs _ S fun v1 H1 Z1 z1 k1 S1 r1 => h2 H1 Z1 σ ts vs _ S1 fun v2 H2 Z2 z2 k2 S2 r2 => ?_)
   obtain ⟨p, us, rfl, hq, rr⟩ := cC.HD r2 hd
   have e := rr.strs
   subst e
   refine ⟨_, _, rfl, hq, by rw [r1.sc rfl]; rfl, iC l, ?_⟩
   rw [as5 atv, r1.sc rfl, uf]
   exact k _ H2 Z2 Q.w Q.E (S2.push (.bl _))
theorem V4 (h1 : eK X CL b e1 δ (.str x) δ1) (h2 : eK X CL b e2 δ1 d δ2) (hd : L3.HD d = some (l.map .str)) (hm : behindInMarks .NotIn e2 = false) :
   xT X CL b (.Compare e1 [.NotIn] [e2] pos) δ (!decide (x ∈ l)) δ2 /\ dH X CL b (.Compare e1 [.NotIn] [e2] pos) δ (.sh (.bl (!decide (x ∈ l)))) δ2 := by
 constructor
 . intro H Z σ ts vs Q S k
   refine J7 (xP qb fh fh hm) (h1 H Z σ ts vs _ S fun v1 H1 Z1 z1 k1 S1 r1 => h2 H1 Z1 σ ts vs _ S1 fun v2 H2 Z2 z2 k2 S2 r2 => ?_)
   obtain ⟨p, us, rfl, hq, rr⟩ := cC.HD r2 hd
   have e := rr.strs
   subst e
   refine ⟨_, _, rfl, hq, by rw [r1.sc rfl]; rfl, iC l, _, rfl, ?_⟩
   rw [atb rfl, r1.sc rfl, uf]
   exact k H2 Z2 Q.w Q.E S2
 . intro H Z σ ts vs Q S k
   refine dS (xO qb fh fh hm) (h1 H Z σ ts vs _ S fun v1 H1 Z1 z1 k1 S1 r1 => h2 H1 Z1 σ ts vs _ S1 fun v2 H2 Z2 z2 k2 S2 r2 => ?_)
   obtain ⟨p, us, rfl, hq, rr⟩ := cC.HD r2 hd
   have e := rr.strs
   subst e
   refine ⟨_, _, rfl, hq, by rw [r1.sc rfl]; rfl, iC l, ?_⟩
   rw [atb rfl, r1.sc rfl, uf]
   exact k _ H2 Z2 Q.w Q.E (S2.push (.bl _))
variable {ds : List L3.D}
theorem bK : XJ X CL b [] δ (([] : List L3.D).map T.sh) δ := cV
theorem ay (h1 : dH X CL b e δ (.sh d) δ1) (h2 : XJ X CL b es δ1 (ds.map T.sh) δ2) (hs : Q.R := by exact cE rfl) : XJ X CL b (e :: es) δ ((d :: ds).map T.sh) δ2 := bA h1 h2 hs
theorem fO (h : XJ X CL b es δ (ds.map T.sh) δ1) (hl : ds.length <= sizeLine) : dH X CL b (.List es pos) δ (.lst (ds.map T.sh)) δ1 := cR h (by simpa using hl)
theorem pH (l : Q.h) : D.cZ (l.map L3.D.str) = true := bS (fun _ => rfl) _
theorem LD (h : dH X CL b e δ (.lst (ds.map T.sh)) δ1) : dH X CL b e δ (.sh (.lst ds)) δ1 := by
 have := RL h
 rwa [T.iU, rL] at this
theorem aec (h : Q.T) (q : t.iU = d) : dH X CL b e δ (.sh d) δ1 := q ▸ RL h
theorem HF {d2 : L3.D} (h : eK X CL b e δ d δ1) (q : d = d2) : eK X CL b e δ d2 δ1 := q ▸ h
theorem aK {t2 : T} (h : Q.T) (q : t = t2) : dH X CL b e δ t2 δ1 := q ▸ h
structure LJ (Z H Z' H' : Hp) : Prop where
 z : aT Z Z'
 h : aT H H'
 zh : aT Z' H'
 new : ∀ a o, Z' a = some o -> Z a = none -> H a = none
 tp : ∀ a o, H' a = some o -> pG o = true -> Z' a = some o
theorem LJ.refl (zh : aT Z H) (tp : Q.aZ) : LJ Z H Z H := ⟨.refl _, .refl _, zh, fun a o q z => (by rw [q] at z; cases z), tp⟩
theorem LJ.tup {p : Addr} (zh : aT Z H) (tp : Q.aZ) (hp : H p = none) : LJ Z H (upd Z p (.tup xs)) (upd H p (.tup xs)) := by
 have zp : Z p = none := zh.free hp
 refine ⟨aT.upd zp, aT.upd hp, fun a o q => ?_, fun a o q z => ?_, fun a o q i => ?_⟩
 . by_cases e : a = p
   . subst e; rw [bR] at q ⊢; exact q
   . rw [aP e] at q ⊢; exact zh a o q
 . by_cases e : a = p
   . subst e; exact hp
   . rw [aP e, z] at q; cases q
 . by_cases e : a = p
   . subst e; rw [bR] at q ⊢; exact q
   . rw [aP e] at q ⊢; exact tp a o q i
theorem bZ.grow (S : Q.M) (g : LJ Z H Z' H') : bZ K CL b H' Z' δ σ ts vs := by
 obtain ⟨fp, gp, e, r, nd, k⟩ := S.rep
 have old : ∀ a ∈ fp ++ gp, ∃ o, H a = some o := fun a ha => (ate.mp ha).elim (e.there a) (r.there a)
 have keep : ∀ a ∈ fp ++ gp, H' a = H a := fun a ha => by
   obtain ⟨o, q⟩ := old a ha
   rw [q]; exact g.h a o q
 refine ⟨⟨fp, gp, e.mono g.z (fun a ha => keep a (as9 _ ha)), r.mono g.z (fun a ha => keep a (as7 _ ha)), nd, fun a ha => ⟨?_, (k a ha).2⟩⟩, S.bh.trans g.h, S.zz.trans g.z, g.zh, fun a o q z => ?_, g.tp, S.tab⟩
 . cases q : Z' a with
   | none => rfl
   | some o =>
     obtain ⟨u, hu⟩ := old a ha
     rw [g.new a o q (k a ha).1] at hu; cases hu
 . cases e2 : Z a with
   | none => exact S.bh.free (g.new a o q e2)
   | some u =>
     have := g.z a u e2
     rw [q] at this; cases this
     exact S.new a o e2 z
def V5 (δ : Q.n) : List Nat -> List D -> List (Option T)
 | i :: is, d :: ds => V5 (δ.set i (some (.sh d))) is ds
 | _, _ => δ
def HG (σ : L2.St) : List Nat -> List V -> L2.St
 | i :: is, v :: vs => HG (σ.set i (some v)) is vs
 | _, _ => σ
theorem bZ.sets {ps : List D} {ys : List V} : ∀ {is : List Nat} {δ : Q.n} {σ : L2.St}, bZ K CL b H Z δ σ ts vs -> aX K CL Z ps ys -> (∀ i ∈ is, i < δ.length) -> bZ K CL b H Z (V5 δ is ps) (HG σ is ys) ts vs := by
 intro is
 induction is generalizing ps ys with
 | nil =>
   intro δ σ S r _
   cases ps <;> cases ys <;> exact S
 | cons i is ih =>
   intro δ σ S r hl
   cases r with
   | nil => exact S
   | cons r rr => exact ih ((S.push r).set (hl i ati)) rr (fun j hj => by rw [atz]; exact hl j (atk _ hj))
section
variable {tg : Expr} {ds : List D}
structure LK (X : Cx) (CL : Q.g) (b : Bx) (δ1 : Q.n) (σ : L2.St) (ts : List T) (vs : List V) (Z H : Hp) (ds : List D) (J : It) (H1 : Hp) : Prop where
 ex : ∃ Z1, aT Z Z1 /\ aT H H1 /\ bZ X.K CL b H1 Z1 δ1 σ ts vs /\ (∀ i H2, aT Z1 H2 -> i < ds.length -> J.go i H2) ∧
   (∀ i Z2 H2 x H', aT Z1 Z2 -> aT Z2 H2 -> (∀ a o, H2 a = some o -> pG o = true -> Z2 a = some o) -> i < ds.length -> J.yld i H2 x H' -> ∃ Z3 d, ds[i]? = some d /\ LJ Z2 H2 Z3 H' /\ cC X.K CL Z3 d x) /\ (∀ H2, aT Z1 H2 -> J.stop ds.length H2)
def GIt (X : Cx) (CL : Q.g) (b : Bx) (tg e : Expr) (δ : Q.n) (ds : List D) (δ1 : Q.n) : Prop :=
 ∃ wi, PI X tg e wi /\ ∀ (H Z : Hp) (σ : L2.St) (ts : List T) (vs : List V) (R : It -> Hp -> Prop), bZ X.K CL b H Z δ σ ts vs -> (∀ J H1, LK X CL b δ1 σ ts vs Z H ds J H1 -> R J H1) -> wi σ H R
theorem agY (h : TIt X CL b tg iter δ ds δ1) : GIt X CL b tg iter δ ds δ1 := by
 obtain ⟨wi, pi, hw⟩ := h
 refine ⟨wi, pi, fun H Z σ ts vs R S k => hw H Z σ ts vs R S fun J H1 zz => ?_⟩
 obtain ⟨Z1, us, z1, k1, S1, rr, go, yl, st⟩ := zz
 refine k J H1 ⟨Z1, z1, k1, S1, go, fun i Z2 H2 x H' s1 s2 tp hi hy => ?_, st⟩
 obtain ⟨e, hu⟩ := yl i H2 x H' (s1.trans s2) hi hy
 subst e
 obtain ⟨d, hd, rd⟩ := rr.adU hu
 exact ⟨Z2, d, hd, .refl s2 tp, rd.mono s1⟩
def Tgt (X : Cx) (CL : Q.g) (tg : Expr) (is : List Nat) (parts : D -> Option (List D)) : Prop :=
 ∃ t : TG, PG X tg t /\ ∀ (Z H : Hp) (d : D) (ps : List D) (x : V) (σ : L2.St) (Q : L2.St -> Hp -> Prop), aT Z H -> cC X.K CL Z d x -> parts d = some ps -> (∀ ys, aX X.K CL Z ps ys -> Q (HG σ is ys) H) -> t x σ H Q
def part1 (d : D) : Option (List D) := some [d]
def part2 : D -> Option (List D)
 | .tup [a, c] => some [a, c]
 | _ => none
theorem XR {d : D} {ps : List D} (h : part2 d = some ps) : ∃ d1 d2, d = .tup [d1, d2] /\ ps = [d1, d2] := by
 unfold part2 at h
 split at h
 . cases h; exact ⟨_, _, rfl, rfl⟩
 . cases h
theorem RT {d : D} {ps : List D} {x : V} {Q : L2.St -> Hp -> Prop} (zh : aT Z H) (r : cC K CL Z d x) (e : part2 d = some ps) (k : ∀ ys, aX K CL Z ps ys -> Q (HG σ [i, j] ys) H) : ahH K 2 (OJ (Ft i) (OJ (Ft j) ahG)) x σ H Q := by
 obtain ⟨d1, d2, rfl, rfl⟩ := XR e
 cases r with
 | tup hq rr =>
   cases rr with
   | cons r1 rr =>
     cases rr with
     | cons r2 rr =>
       cases rr
       exact ⟨_, _, rfl, aT.sqT zh hq, rfl, _, _, rfl, _, _, rfl, rfl, k _ (.cons r1 (.cons r2 .nil))⟩
theorem aa3 {px : Pos} (hN : X.N.Nodup) (n : Ln X i x) : Tgt X CL (.Name x px) [i] part1 :=
 ⟨Ft i, Bl hN n.hi n.loc n.hf, fun Z H d ps x σ Q zh r e k => by
   cases e
   exact k [x] (.cons r .nil)⟩
theorem V6 {y : Str} {px py pt : Pos} (hN : X.N.Nodup) (hc : X.calm = true) (n : Ln X i x) (m : Ln X j y) (hs : (assignEach [.Name x px, .Name y py] X.env).map (·.2) = assign (.Name x px) X.env :: (assignEach [.Name y py] X.env).map (·.2) := by rfl) (Ov : (assignEach [.Name y py] X.env).map (·.2) = assign (.Name y py) X.env :: (assignEach [] X.env).map (·.2) := by rfl)
   (hn : (assignEach [.Name x px, .Name y py] X.env).length = 2 := by rfl) (vX : (assignEach [.Name x px, .Name y py] X.env).findIdx? (·.1) = none := by rfl) : Tgt X CL (.Tuple [.Name x px, .Name y py] k pt) [i, j] part2 :=
 ⟨ahH X.K 2 (OJ (Ft i) (OJ (Ft j) ahG)), ahI hc (OL (Bl hN n.hi n.loc n.hf) (OL (Bl hN m.hi m.loc m.hf) adE Ov) hs) hn vX, fun Z H d ps x σ Q zh r e k => RT zh r e k⟩
theorem aed {D : g6} (is : List Nat) (parts : L3.D -> Option (List L3.D)) (P : Nat -> List (Option T) -> Prop) (h : GIt X CL b tg iter δ ds δ1) (ht : Tgt X CL tg is parts) (h0 : P 0 δ1) (hl : ∀ j δ, P j δ -> ∀ i ∈ is, i < δ.length)
   (hs : ∀ j d δ, ds[j]? = some d -> P j δ -> ∃ ps, parts d = some ps /\ dY X CL b fS (V5 δ is ps) { nx := P (j + 1), rt := D.rt, bk := D.nx, ct := P (j + 1) }) (hd : ∀ δ, P ds.length δ -> D.nx δ)
   (hp : PassesOwn Q.k X.A X.env X.xe) (hc : X.calm = true) (hq : Q.au := by intro _; rfl) :
   TSv X CL b (.For tg iter fS [] pos) δ D := fun H Z σ ts vs E S M => by
 obtain ⟨wi, pi, hw⟩ := h
 obtain ⟨t, pg, ht⟩ := ht
 refine v8 (aam hp hc pi pg XH hq) (hw H Z σ ts vs _ S fun J H1 zz => ?_)
 obtain ⟨Z1, z1, k1, S1, go, yl, st⟩ := zz
 refine ⟨fun j m σ H2 => m = ds.length - j /\ j <= ds.length /\ ∃ Z2 δ2, aT Z1 Z2 /\ bZ X.K CL b H2 Z2 δ2 σ ts vs /\ P j δ2, ⟨_, rfl, atx _, Z1, δ1, .refl _, S1, h0⟩, ?_⟩
 rintro j m σ H2 ⟨rfl, hj, Z2, δ2, s, S2, p2⟩
 by_cases Lv : j < ds.length
 . refine .inr ⟨go j H2 (s.trans S2.zh) Lv, fun σ' H' => ∃ Z2 δ2, aT Z1 Z2 /\ bZ X.K CL b H' Z2 δ2 σ' ts vs /\ P (j + 1) δ2, fun σ' H' h => ⟨ds.length - (j + 1), by omega, rfl, Lv, h⟩, fun y H' hy => ?_⟩
   obtain ⟨Z3, d, hd', gr, rd⟩ := yl j Z2 H2 y H' s S2.zh S2.tp Lv hy
   obtain ⟨ps, hps, hb⟩ := hs j d δ2 hd' p2
   have S3 := S2.grow gr
   refine ht Z3 H' d ps y σ _ S3.zh rd hps fun ys rys => ?_
   have S4 := S3.sets (is := is) rys (hl j δ2 p2)
   have s3 := s.trans gr.z
   exact hb _ Z3 _ ts vs _ S4 ⟨fun δ' σ' H' Z' s' S' k => ⟨Z', δ', s3.trans s', S', k⟩, fun t v H' Z' δ' σ' s' S' k => M.rt t v H' Z' δ' σ' (z1.trans (s3.trans s')) S' k, fun δ' σ' H' Z' s' S' k => M.nx δ' σ' H' Z' (z1.trans (s3.trans s')) S' k, fun δ' σ' H' Z' s' S' k => ⟨Z', δ', s3.trans s', S', k⟩⟩
 . have e : j = ds.length := by omega
   subst e
   exact .inl ⟨st H2 (s.trans S2.zh), M.nx δ2 σ H2 Z2 (z1.trans s) S2 (hd δ2 p2)⟩
theorem aa4 {D : g6} {is : List Nat} {parts : L3.D -> Option (List L3.D)} (g : Gx X) (ht : Tgt X CL tg is parts) (P : Nat -> List (Option T) -> Prop) (h : GIt X CL b tg iter δ ds δ1) (h0 : P 0 δ1) (hl : ∀ j δ, P j δ -> ∀ i ∈ is, i < δ.length)
   (hs : ∀ j d δ, ds[j]? = some d -> P j δ -> ∃ ps, parts d = some ps /\ dY X CL b body (V5 δ is ps) { nx := P (j + 1), rt := D.rt, bk := fun δ2 => dY X CL b fS δ2 D, ct := P (j + 1) }) (hd : ∀ δ, P ds.length δ -> dY X CL b fS δ D) (hq : Q.au := by intro _; rfl) :
   dY X CL b (.For tg iter body [] pos :: fS) δ D :=
 dh (aed (D := { D with nx := fun δ1 => dY X CL b fS δ1 D }) is parts P h ht h0 hl hs hd g.xe g.calm hq)
end
structure wm (X : Cx) (scope : Scope) (xs : Q.h) (Nc : Q.h) (ix : List Nat) : Prop where
 kind : scope.kind = .function
 Ls : ∀ y ∈ scope.names, y.2 ≠ .cell
 nd : Nc.Nodup
 names : ∀ y ∈ scope.names, y.2 = .local -> scope.names.lookup y.1 = some .local
 own : ∀ x ∈ xs, scope.names.lookup x = some .local
 frees : ∀ y ∈ scope.names, y.2 = .free -> scope.names.lookup y.1 = some .free /\ (X.env.kindOf y.1 = some .cell \/ X.env.kindOf y.1 = some .free)
 hd : Nc = xs ++ ix.filterMap (X.N[·]?)
 ixs : ∀ i ∈ ix, ∃ y, X.N[i]? = some y /\ scope.names.lookup y = some .free
def XS (σ : L2.St) (ix : List Nat) (os : List (Option V)) : L2.St := os ++ ix.map fun i => (σ[i]?).getD none
variable {xs : Q.h}
theorem Pk (sc : wm X scope xs Nc ix) (I : Q.m) (v9 : ∀ b ∈ fp, F4 X pins H b /\ b < s.heap.objs.size) {h' : Heap} {m : Q.B} {tk : Nat}
   (hn : h'.Ns s.heap.objs.size m) (hk : ∀ b o, s.heap.get? b = some o -> h'.get? b = some o) :
   Inv (fU X scope Nc s.heap.objs.size s H fp) [] (XS σ ix (List.replicate xs.length none)) H { s with heap := h', toks := tk } := by
 have frees : ∀ y ∈ scope.names, y.2 = .free -> ∃ c, X.env.cells.lookup y.1 = some c := fun y hy e => I.ok.has y.1 (sc.frees y hy e).2
 have sub : ∀ {y : Str} {c : Addr}, (mG X.env scope.names []).lookup y = some c -> X.env.cells.lookup y = some c := fun {y c} e => zx frees (fun _ _ z => by cases z) e
 have hlen : (XS σ ix (List.replicate xs.length none)).length = Nc.length := by
   have all : ∀ l : List Nat, (∀ i ∈ l, ∃ y, X.N[i]? = some y /\ scope.names.lookup y = some .free) -> (l.filterMap (X.N[·]?)).length = l.length := by
     intro l
     induction l with
     | nil => intro _; rfl
     | cons i r ih =>
       intro h
       obtain ⟨y, e, _⟩ := h i ati
       rw [aum, e]
       show _ + 1 = _ + 1
       rw [ih fun j hj => h j (atk _ hj)]
   unfold XS
   rw [sc.hd, ats, ats, as4, auy, all ix sc.ixs]
 have C0 : s.heap.get? s.heap.objs.size = none := Heap.get?_none_of_le (atq _)
 refine ⟨⟨I.ok.mod, sc.kind, I.ok.glob, I.ok.blt, atq _, fun y z c h1 h2 => I.ok.inj y z c (sub h1) (sub h2), fun y hy => ?_, fun y c hf _ => (by cases (show false = true from hf)), I.ok.hd, I.ok.frames, .inl rfl, fun b hb => ⟨at3 (v9 b hb).2, fun y c e => (v9 b hb).1.2.2.2.2.1 y c (sub e)⟩, I.bs, ath I.ok.bsz I.sz, fun b o e hb => ?_, fun b hb hf => ?_, I.stack, I.La⟩,
   rfl, I.bare, Un.kept hk, ⟨m, hn, fun i y v h1 h2 h3 => ?_⟩, fun y c e => ?_, I.gS.fresh (atq _), fun y c e => I.p8 y c (sub e), fun p hp => absurd (show p ∈ ([] : List (Addr × Obj)) from hp) Q.r, I.gS.kept hk, hlen⟩
 . 
   have hy' : (relabel scope X.env).names.lookup y = some .cell \/ (relabel scope X.env).names.lookup y = some .free := hy
   cases e : scope.names.lookup y with
   | none => 
     have := p9 (env := X.env) e
     rcases hy' with q | q <;> (rw [show (relabel scope X.env).names.lookup y = none from this] at q; cases q)
   | some k =>
     have q := jI (env := X.env) e
     have hk : k = .free := by
       by_cases hk : k = .free
       . exact hk
       . have hb : (k == NameKind.free) = false := by simpa using hk
         rw [as5 (by rw [hb]; simp)] at q
         have nc : k ≠ .cell := fun z => by
           subst z
           exact sc.Ls _ (aus e) rfl
         rcases hy' with z | z
         . rw [show (relabel scope X.env).names.lookup y = some k from q] at z
           exact absurd (atX z) nc
         . rw [show (relabel scope X.env).names.lookup y = some k from q] at z
           exact absurd (atX z) hk
     subst hk
     exact zy e
 . 
   rcases (v9 b hb).1.2.2.2.1 with z | z
   . exact I.ok.Rp b o e z
   . exact absurd (atZ (atA e) (ath I.ok.bsz z)) (au9 _)
 . rcases atl.mp (I.K9 b hf) with z | z
   . exact (v9 b hb).1.2.1 z
   . exact (v9 b hb).1.2.2.1 z
 . 
   unfold XS at h2
   by_cases hi : i < xs.length
   . rw [avd (by rw [auy]; exact hi), List.getElem?_replicate, atb hi] at h2
     cases h2
   . obtain ⟨n, rfl⟩ : ∃ n, i = xs.length + n := ⟨i - xs.length, by omega⟩
     rw [auv (by rw [auy]; omega), auy, Nat.add_sub_cancel_left, atE] at h2
     cases ei : ix[n]? with
     | none => rw [ei] at h2; cases h2
     | some j =>
       rw [ei] at h2
       have h2' : (σ[j]?).getD none = some v := atX h2
       have hj : σ[j]? = some (some v) := by
         cases q : σ[j]? with
         | none => rw [q] at h2'; cases h2'
         | some o => rw [q] at h2'; exact congrArg some h2'
       obtain ⟨y', hy1, hy2⟩ := sc.ixs j (at6 ei)
       have hNc : Nc[xs.length + n]? = some y' := by
         have all : ∀ (l : List Nat) (i : Nat), (∀ j ∈ l, ∃ y, X.N[j]? = some y /\ scope.names.lookup y = some .free) -> l[i]? = some j -> (l.filterMap (X.N[·]?))[i]? = some y' := by
           intro l
           induction l with
           | nil => intro i _ h; simp at h
           | cons a r ih =>
             intro i h hi
             obtain ⟨ya, ea, _⟩ := h a ati
             rw [aum, ea]
             cases i with
             | zero =>
               simp at hi
               subst hi
               rw [hy1] at ea
               cases ea
               rfl
             | succ i => exact ih i (fun j hj => h j (List.mem_cons_of_mem _ hj)) (by simpa using hi)
         rw [sc.hd, auv Q.a, Nat.add_sub_cancel_left]
         exact all ix n sc.ixs ei
       have ey : y' = y := by
         have h1' : Nc[xs.length + n]? = some y := h1
         rw [hNc] at h1'
         exact atX h1'
       subst ey
       have VH := (sc.frees (y', .free) (aus hy2) rfl).2
       have aoK : Vis X.env.scope y' := VH.elim (fun z => .inr (.inl z)) (fun z => .inr (.inr z))
       obtain ⟨m0, hn0, hl0⟩ := I.loc
       obtain ⟨u, ru, lk⟩ := hl0 j y' v hy1 hj aoK
       refine ⟨u, ru, ?_⟩
       rcases lk with ⟨kk, _⟩ | ⟨_, c, hc, Kp⟩
       . rcases VH with z | z
         . rw [kk] at z; cases z
         . rw [kk] at z; cases z
       . obtain ⟨c', hc'⟩ := zy (env := X.env) (cs := []) hy2
         have : c' = c := by
           have := sub hc'
           rw [hc] at this
           exact (atX this).symm
         subst this
         obtain ⟨o, ho, hd⟩ := Kp
         refine .inr ⟨?_, c', hc', o, hk _ _ ho, hd⟩
         have q := jI (env := X.env) hy2
         show (relabel scope X.env).names.lookup y' = some .cell \/ (relabel scope X.env).names.lookup y' = some .free
         rw [show (relabel scope X.env).names.lookup y' = _ from q]
         split
         . exact .inl rfl
         . exact .inr rfl
 . obtain ⟨v, o, ho, hd⟩ := I.cell y c (sub e)
   exact ⟨v, o, hk _ _ ho, hd⟩
def aa5 (X : Cx) (tg elt : Expr) (ifs : List Expr) (n : Nat) (σ : L2.St) (ix : List Nat) (D : Addr) (N : Hp -> Prop) (xv : V) (os : List (Option V)) (H3 : Hp) : Prop :=
 ∃ t : TG, PG X tg t /\ t xv (XS σ ix os) H3 fun σ8 H4 => ∃ os', os'.length = n /\ σ8 = XS σ ix os' /\ ail X ifs σ8 H4 fun ok H5 =>
   if ok = true then Lj X elt σ8 H5 fun y H6 => ∃ acc, H6 D = some (.lst acc) /\ acc.length < sizeLine /\ N (upd H6 D (.lst (acc ++ [y]))) else N H5
variable {tg : Expr}
theorem RV {J : It} {it : Addr} {tn : Nat -> Heap -> Prop} {G : Addr -> Hp -> Prop} {RR : Value -> Addr -> Result -> Shared -> Prop} {E : Q.v}
   (sc : wm X scope xs Nc ix) (hc : X.calm = true) (I : Q.m) (Tn : Turn X.prog X.w X.K tg J fp it tn) (st : tn 0 s.heap) (hf : ∀ b ∈ fp, F4 X pins H b)
   (loop : ∀ D, H D = none -> ∃ W : Nat -> Nat -> Hp -> Prop, (∃ m, W 0 m (upd H D (.lst []))) /\ ∀ i m H2, W i m H2 -> (J.stop i H2 /\ G D H2) ∨
     (J.go i H2 /\ ∃ N : Hp -> Prop, (∀ H', N H' -> ∃ m', m' < m /\ W (i + 1) m' H') /\ ∀ xv H3, J.yld i H2 xv H3 -> ∀ C s0 H0 f0 os, os.length = xs.length -> aa5 (fU X scope Nc C s0 H0 f0) tg elt ifs xs.length σ ix D N xv os H3))
   (hRR : ∀ D C s' H', (∃ m, s'.heap.Ns C m) -> (∃ o, s'.heap.get? C = some o /\ ∀ v, o.data ≠ .cell v) -> H' C = none -> (C ≠ X.env.locals /\ C ∉ X.fs /\ X.s₀.heap.objs.size <= C /\ (∀ y c, X.env.cells.lookup y = some c -> c ≠ C) /\ ∀ q ∈ X.pn ++ pins, q.1 ≠ C) -> (∀ h', Heap.SameBut C s'.heap h' -> Inv X pins σ H' { s' with heap := h' }) -> G D H' -> RR (.ref D) C (.ok .next) s') :
   wpAny Q.k X.A (newList []) (fun acc s₃ => wpAny Q.k X.A (newFunctionEnv scope X.env.globals (mG X.env scope.names []) [] X.env.qual none .none (some X.env)) (fun aa6 s₄ =>
     codeAny Q.k X.A (.compStart Q.aD 0 (.ref it) acc { aa6 with scope := relabel scope X.env }) (RR acc aa6.locals) s₄) E s₃) E s := by
 refine wpAny_newObj_type ?_
 have I3 : Inv X pins σ (upd H s.heap.objs.size (.lst [])) { s with heap := s.heap.push { cls := .type "list", dict := none, data := .seq ([] : List Value).toArray } } :=
   I.laid (t' := s.toks) (fun b u e => atu _ e) (atq _) ⟨by show 0 <= sizeLine; exact atx _, [], 0, .nil, at4 _ rfl⟩
 have hD : H s.heap.objs.size = none := I.gS.fresh (atq _)
 obtain ⟨W, ⟨m0, w0⟩, turn⟩ := loop _ hD
 have aa7 : ∀ b ∈ fp, F4 X pins (upd H s.heap.objs.size (.lst [])) b /\ b < (s.heap.push { cls := .type "list", dict := none, data := .seq ([] : List Value).toArray }).objs.size := fun b hb => by
   obtain ⟨f0, f1⟩ := hf b hb
   obtain ⟨o, ho, _⟩ := Tn.obj 0 _ st b hb
   have Lv := atA ho
   refine ⟨⟨by rw [aP (at3 Lv)]; exact f0, f1⟩, ?_⟩
   rw [Heap.size_push]; exact Nat.lt_succ_of_lt Lv
 have st3 : tn 0 (s.heap.push { cls := .type "list", dict := none, data := .seq ([] : List Value).toArray }) := Tn.keep 0 _ _ st fun b _ o e => atu _ e
 generalize hs3 : ({ s with heap := s.heap.push { cls := .type "list", dict := none, data := .seq ([] : List Value).toArray } } : Shared) = s3 at I3 ⊢
 have hh3 : s3.heap = s.heap.push { cls := .type "list", dict := none, data := .seq ([] : List Value).toArray } := by rw [← hs3]
 rw [← hh3] at aa7 st3
 refine wpAny_newFunctionEnv sc.Ls (by intro y hy; simp at hy) (fun h₁ aiA aiB => ?_) sc.kind
 have old : ∀ b o, s3.heap.get? b = some o -> h₁.get? b = some o := fun b o e => (aiB.2 b (at3 (atA e))).trans (atu _ e)
 have J0 := Pk (tk := s3.toks + ([] : List (Str × Value)).length) sc I3 aa7 aiA old
 have st4 : tn 0 h₁ := Tn.keep 0 _ _ st3 fun b _ o e => old b o e
 have agZ : ∀ s4 : Shared, s4 = { s3 with heap := h₁, toks := s3.toks + ([] : List (Str × Value)).length } -> codeAny Q.k X.A (.compLoop Q.aD 0 (.ref it) (.ref s.heap.objs.size) (compEnvC scope (mG X.env scope.names []) s3.heap.objs.size X.env)) (RR (.ref s.heap.objs.size) s3.heap.objs.size) s4 := by
   rintro s4 rfl
   have stat : ∀ {H' : Hp}, (∀ b ∈ fp, H' b = none) -> ∀ b ∈ fp, F4 Q.aH [] H' b := fun {H'} hn b hb => by
     obtain ⟨⟨f0, f1, f2, f3, f4, f5⟩, Lv⟩ := aa7 b hb
     refine ⟨hn b hb, at3 Lv, fun z => ?_, .inl hb, fun y c e => f4 y c (zx (fun y hy e => I.ok.has y.1 (sc.frees y hy e).2) (fun _ _ z => by cases z) e), fun p hp => absurd (show p ∈ ([] : List (Addr × Obj)) from hp) Q.r⟩
     rcases atl.mp (I3.K9 b z) with q | q
     . exact f1 q
     . exact f2 q
   refine Lr (fun n s' => ∃ i o H', o.length = xs.length /\ Inv Q.aH [] (XS σ ix o) H' s' /\ tn i s'.heap /\ (∀ b ∈ fp, H' b = none) /\ W i n H') ?_ m0 ⟨0, _, _, auy, J0, st4, fun b hb => (aa7 b hb).1.1, w0⟩
   rintro n s5 ⟨i, o5, H5, ol5, I5, st5, fr5, w5⟩
   rcases turn i n H5 w5 with ⟨stop, g⟩ | ⟨go, N, hN, step⟩
   . refine gM (Tn.done Q.aH rfl rfl rfl hc i [] s5 _ H5 _ I5 (stat fr5) st5 stop) fun r s6 zz => ?_
     obtain ⟨hr, I6⟩ := zz
     subst hr
     obtain ⟨m6, hn6, _⟩ := I6.loc
     obtain ⟨oc, esc, epc, hoc, hdc, _⟩ := id hn6
     have fpC := I3.Lb (atq s3.heap.objs.size) (H' := fun _ => none) rfl
     refine hRR _ _ s6 H5 ⟨m6, hn6⟩ ⟨oc, hoc, fun v z => by rw [hdc] at z; cases z⟩ I6.free ⟨fpC.2.1, fpC.2.2.1, ?_, fpC.2.2.2.2.1, fpC.2.2.2.2.2⟩ (fun h' hs' => XO I3 (fun b hb => (aa7 b hb).1) I6 hs') g
     exact I3.sz
   . refine gM (Tn.item Q.aH rfl rfl rfl hc i [] s5 _ H5 _ I5 (stat fr5) st5 go) fun r s6 zz => ?_
     obtain ⟨u, hr, h6⟩ := zz
     subst hr
     refine gM h6 fun _ s7 zz => ?_
     obtain ⟨xv, H7, I7, r7, y7, st7, fr7⟩ := zz
     have I7' := I7.pinned (stat fr7) (Tn.obj _ _ st7)
     obtain ⟨t, hg, ht⟩ := step xv _ y7 s3.heap.objs.size s3 (upd H s.heap.objs.size (.lst [])) fp o5 ol5
     refine gM (hg _ s7 _ H7 xv u _ I7' r7 ht) fun _ s8 zz => ?_
     obtain ⟨σ8, H8, I8, os8, ol8, e8, h8⟩ := zz
     subst e8
     refine gM (aaV I8 h8 rfl) fun ok s9 zz => ?_
     obtain ⟨H9, I9, q9⟩ := zz
     have again : ∀ {Ha : Hp} {sa : Shared}, Inv Q.aH ([] ++ Ht fp s7.heap) (XS σ ix os8) Ha sa -> N Ha -> ∃ m, m < n /\ ∃ i o H', o.length = xs.length /\ Inv Q.aH [] (XS σ ix o) H' sa /\ tn i sa.heap /\ (∀ b ∈ fp, H' b = none) /\ W i m H' := fun {Ha sa} Ia na => by
       obtain ⟨m', hm, wa⟩ := hN Ha na
       refine ⟨m', hm, i + 1, os8, Ha, ol8, Ia.Bm, Tn.keep _ _ _ st7 fun b hb o e => (Ia.pin (b, o) (as7 _ (as7 _ (t7 hb e)))).1, fun b hb => ?_, wa⟩
       obtain ⟨o, e, d⟩ := Tn.obj _ _ st7 b hb
       exact (Ia.pin (b, o) (as7 _ (as7 _ (t7 hb e)))).2.1
     cases ok with
     | false =>
       rw [as5 atv] at q9 ⊢
       exact again I9 q9
     | true =>
       rw [atb rfl] at q9 ⊢
       refine gM (q9 _ s9 I9) fun v sa zz => ?_
       obtain ⟨y, Ha, Ia, ra, acc, aoN, hlen, na⟩ := zz
       refine gM (DT (X := fU X scope Nc s3.heap.objs.size s3 (upd H s.heap.objs.size (.lst [])) fp) _ sa _ Ha (.ref s.heap.objs.size) [y] (.ref s.heap.objs.size) [v] (fun _ Hb => Hb = upd Ha s.heap.objs.size (.lst (acc ++ [y]))) Ia rfl (.cons ra .nil) ⟨_, acc, y, rfl, rfl, aoN, hlen, rfl⟩) fun _ sb zz => ?_
       obtain ⟨_, Hb, Ib, _, eb⟩ := zz
       subst eb
       exact again Ib na
 exact codeAny_compStart_list (agZ _ rfl) (Tn.self _ 0 _ _ _ st4 (agZ _ rfl))
def XT (ps : List D) : List (Option T) := ps.map fun p => some (.sh p)
theorem Ky : ∀ {ys : List V} {os : List (Option V)} {pre r : L2.St}, os.length = ys.length -> HG (pre ++ (os ++ r)) (List.range' pre.length ys.length) ys = pre ++ (ys.map some ++ r)
 | [], os, pre, r, h => by
   have : os = [] := List.length_eq_zero_iff.mp h
   subst this
   rfl
 | y :: ys, os, pre, r, h => by
   match os, h with
   | o :: os, h =>
     show HG ((pre ++ (o :: (os ++ r))).set pre.length (some y)) (List.range' (pre.length + 1) ys.length) ys = _
     rw [List.set_append_right _ _ (atq _), avh, List.set_cons_zero]
     have := Ky (ys := ys) (os := os) (pre := pre ++ [some y]) (r := r) (by simpa using h)
     simp only [ats, at8, List.length_nil, atc, List.singleton_append] at this
     rw [this]
     simp
theorem aee : ∀ {ps : List D} {ys : List V} {δc : Q.n} {σc : L2.St}, aX K CL Z ps ys -> fQ K CL H Z δc σc [] -> fQ K CL H Z (XT ps ++ δc) (ys.map some ++ σc) [] := fun {ps ys δc σc} h e =>
 aX.ind (P := fun ps ys => fQ K CL H Z (XT ps ++ δc) (ys.map some ++ σc) []) e (fun r _ i => .cons (fp := []) (gp := []) (.sh r) i) h
section
variable {W1 : Hp} {δc : Q.n} {J : It} {ds : List D} {p : D -> Bool} {g : D -> T} {parts : D -> Option (List D)}
def DX (X : Cx) (CL : Q.g) (scope : Scope) (Nc : Q.h) (n : Nat) (tg : Expr) (parts : D -> Option (List D)) (ifs : List Expr) (elt : Expr) (δc : Q.n) (ds : List D) (p : D -> Bool) (g : D -> T) : Prop :=
 ∀ C s0 H0 f0 b', Tgt (fU X scope Nc C s0 H0 f0) CL tg (List.range' 0 n) parts /\ ∀ d, d ∈ ds -> ∃ ps, parts d = some ps /\ ps.length = n /\ TIv (fU X scope Nc C s0 H0 f0) CL b' ifs (XT ps ++ δc) (p d) /\ (p d = true -> dH (fU X scope Nc C s0 H0 f0) CL b' elt (XT ps ++ δc) (g d) (XT ps ++ δc))
structure GW (K : Q.l) (CL : Q.g) (H W1 : Hp) (D : Addr) (l : List T) (k : Nat) (H2 Z2 : Hp) (Rl : List V) (fp : Q.p) : Prop where
 a1 : aT H H2
 a2 : aT W1 Z2
 a3 : aT Z2 H2
 a4 : Z2 D = none
 a5 : ∀ a o, Z2 a = some o -> W1 a = none -> H a = none
 a6 : ∀ a o, H2 a = some o -> pG o = true -> Z2 a = some o
 a7 : H2 D = some (.lst Rl)
 a8 : bL K CL H2 Z2 l Rl fp
 a9 : fp.Nodup
 b1 : D ∉ fp
 b2 : ∀ a ∈ fp, Z2 a = none /\ H a = none
 b3 : Rl.length <= k
theorem HJ (S : bZ X.K CL b H Z δ σ ts vs) (zw : aT Z W1) (wh : aT W1 H) (tp : ∀ a o, H a = some o -> pG o = true -> W1 a = some o)
   (cap : ∀ H', fQ X.K CL H' W1 δc (ix.map fun i => (σ[i]?).getD none) []) (inner : DX X CL scope Nc n tg parts ifs elt δc ds p g)
   (hgo : ∀ i H2, aT W1 H2 -> i < ds.length -> J.go i H2)
   (hy : ∀ i Z2 H2 x H', aT W1 Z2 -> aT Z2 H2 -> (∀ a o, H2 a = some o -> pG o = true -> Z2 a = some o) -> i < ds.length -> J.yld i H2 x H' -> ∃ Z3 d, ds[i]? = some d /\ LJ Z2 H2 Z3 H' /\ cC X.K CL Z3 d x)
   (vX : ∀ H2, aT W1 H2 -> J.stop ds.length H2) (hlen : ds.length <= sizeLine) (c : W1 = Z \/ ∀ d ∈ ds, (g d).clean = true) :
   ∀ D, H D = none -> ∃ W : Nat -> Nat -> Hp -> Prop, (∃ m, W 0 m (upd H D (.lst []))) /\ ∀ i m H2, W i m H2 -> (J.stop i H2 /\ ∃ Z2, aT Z Z2 /\ aT H H2 /\ bZ X.K CL b H2 Z2 δ σ (.lst ((ds.filter p).map g) :: ts) (.ref D :: vs)) ∨
     (J.go i H2 /\ ∃ N : Hp -> Prop, (∀ H', N H' -> ∃ m', m' < m /\ W (i + 1) m' H') /\ ∀ xv H3, J.yld i H2 xv H3 -> ∀ C s0 H0 f0 os, os.length = n -> aa5 (fU X scope Nc C s0 H0 f0) tg elt ifs n σ ix D N xv os H3) := by
 intro D hD
 have wD : W1 D = none := wh.free hD
 refine ⟨fun i m H2 => m = ds.length - i /\ i <= ds.length /\ ∃ Z2 Rl fp, GW X.K CL H W1 D (((ds.take i).filter p).map g) i H2 Z2 Rl fp, ⟨ds.length, rfl, atx _, W1, [], [], aT.upd hD, .refl _, wh.trans (aT.upd hD), wD, fun a o q z => ?_, fun a o q i => ?_, bR, .nil, auz, by simp, by simp, by simp⟩, ?_⟩
 . rw [q] at z; cases z
 . by_cases ha : a = D
   . subst ha; rw [bR] at q; cases q; cases i
   . rw [aP ha] at q; exact tp a o q i
 . rintro i m H2 ⟨rfl, hi, Z2, Rl, fp, hh, wz, zh, zD, nw, tp2, hD2, ra, nd, nD, own, hav⟩
   by_cases Lv : i < ds.length
   . refine .inr ⟨hgo i H2 (wz.trans zh) Lv, fun H' => ∃ Z2 Rl fp, GW X.K CL H W1 D (((ds.take (i + 1)).filter p).map g) (i + 1) H' Z2 Rl fp, fun H' h => ⟨ds.length - (i + 1), by omega, rfl, Lv, h⟩, fun xv H3 y C s0 H0 f0 os hos => ?_⟩
     obtain ⟨Z3, d, hd, gr, rd⟩ := hy i Z2 H2 xv H3 wz zh tp2 Lv y
     have aiD : ∀ a, Z2 a = none -> (∃ o, H2 a = some o) -> Z3 a = none := fun a e ⟨o, e2⟩ => by
       cases q : Z3 a with
       | none => rfl
       | some u => rw [gr.new a u q e] at e2; cases e2
     have nw3 : ∀ a o, Z3 a = some o -> W1 a = none -> H a = none := fun a o q z => by
       cases e : Z2 a with
       | none => exact hh.free (gr.new a o q e)
       | some u =>
         have := gr.z a u e
         rw [q] at this; cases this
         exact nw a o e z
     have ra3 : bL X.K CL H3 Z3 (((ds.take i).filter p).map g) Rl fp := ra.mono gr.z fun a ha => by
       obtain ⟨o, e⟩ := ra.there a ha
       rw [e]; exact gr.h a o e
     have ow3 : ∀ a ∈ fp, Z3 a = none /\ H a = none := fun a ha => ⟨aiD a (own a ha).1 (ra.there a ha), (own a ha).2⟩
     have zD3 : Z3 D = none := aiD D zD ⟨_, hD2⟩
     have hD3 : H3 D = some (.lst Rl) := gr.h D _ hD2
     have hh3 := hh.trans gr.h
     have wz3 := wz.trans gr.z
     have zh3 := gr.zh
     have tp3 := gr.tp
     clear own nw ra zD hD2 hh wz zh tp2 gr aiD
     have aoQ : d ∈ ds := at6 hd
     have htk : ds.take (i + 1) = ds.take i ++ [d] := by rw [au0, hd]; rfl
     obtain ⟨tgt, inn⟩ := inner C s0 H0 f0 ⟨H3, Z3⟩
     obtain ⟨ps, hps, hpl, it, ie⟩ := inn d aoQ
     obtain ⟨t, pg, ht⟩ := tgt
     refine ⟨t, pg, ht Z3 H3 d ps xv _ _ zh3 rd hps fun ys rys => ?_⟩
     have hyl : ys.length = n := by rw [← rys.length]; exact hpl
     have es : HG (XS σ ix os) (List.range' 0 n) ys = XS σ ix (ys.map some) := by
       have := Ky (ys := ys) (os := os) (pre := []) (r := ix.map fun i => (σ[i]?).getD none) (by rw [hos, hyl])
       rw [hyl] at this
       exact this
     refine ⟨ys.map some, by rw [as4]; exact hyl, es, ?_⟩
     rw [es]
     have S0 : bZ X.K CL ⟨H3, Z3⟩ H3 Z3 (XT ps ++ δc) (XS σ ix (ys.map some)) [] [] :=
       ⟨⟨[], [], aee rys ((cap H3).mono wz3 fun a ha => by cases ha), .nil, auz, fun a ha => by cases ha⟩, .refl _, .refl _, zh3, fun a o q z => (by have z' : Z3 a = none := z; rw [show Z3 a = some o from q] at z'; cases z'), tp3, (S.aic.mono zw).mono wz3⟩
     refine it.sem S0 fun H4 Z4 z4 k4 S4 => ?_
     have aoS : ∀ a ∈ fp, H4 a = H3 a := fun a ha => by
       obtain ⟨o, e⟩ := ra3.there a ha
       rw [e]; exact k4 a o e
     have aa8 : ∀ a, Z3 a = none -> (∃ o, H3 a = some o) -> Z4 a = none := fun a e ⟨o, e2⟩ => by
       cases q : Z4 a with
       | none => rfl
       | some u =>
         have := S4.new a u q e
         rw [show H3 a = none from this] at e2; cases e2
     cases hp : p d with
     | false =>
       refine XD ⟨Z4, Rl, fp, hh3.trans k4, wz3.trans z4, S4.zh, aa8 D zD3 ⟨_, hD3⟩, fun a o q z => ?_, S4.tp, k4 D _ hD3, ?_, nd, nD, fun a ha => ⟨aa8 a (ow3 a ha).1 (ra3.there a ha), (ow3 a ha).2⟩, by omega⟩
       . cases e : Z3 a with
         | none => exact hh3.free (S4.new a o q e)
         | some u => 
           have := z4 a u e
           rw [q] at this; cases this
           exact nw3 a o e z
       . rw [htk, List.filter_append, List.filter_cons_of_neg (by simp [hp]), List.filter_nil, atY]
         exact ra3.mono z4 aoS
     | true =>
       refine XF ((ie hp) H4 Z4 (XS σ ix (ys.map some)) [] [] _ S4 fun yv H5 Z5 z5 k5 S5 => ⟨Rl, k5 D _ (k4 D _ hD3), by omega, ?_⟩)
       obtain ⟨f1, g1, e1, r1, nd1, alQ⟩ := S5.rep
       cases r1 with
       | @cons _ _ _ _ fy fn ry rn =>
         cases rn
         rw [atY] at nd1 alQ
         have ndy : fy.Nodup := (atR.mp nd1).2.1
         have aef : ∀ a ∈ fy, Z5 a = none /\ H3 a = none := fun a ha => alQ a (as7 _ ha)
         have RW : ∀ a, Z3 a = none -> (∃ o, H3 a = some o) -> Z5 a = none := fun a e ⟨o, e2⟩ => by
           cases q : Z5 a with
           | none => rfl
           | some u =>
             have := S5.new a u q e
             rw [show H3 a = none from this] at e2; cases e2
         have yD : ∀ a ∈ fy, a ≠ D := fun a ha e => by
           subst e
           rw [(aef a ha).2] at hD3; cases hD3
         have h5D : H5 D = some (.lst Rl) := k5 D _ (k4 D _ hD3)
         have sD : aT H (upd H5 D (.lst (Rl ++ [yv]))) := fun a o q => by
           rw [aP (cM q hD)]
           exact k5 a o (k4 a o (hh3 a o q))
         refine ⟨Z5, Rl ++ [yv], fp ++ fy, sD, wz3.trans (z4.trans z5), fun a o q => ?_, RW D zD3 ⟨_, hD3⟩, fun a o q z => ?_, fun a o q im => ?_, bR, ?_, ?_, ?_, fun a ha => ?_, ?_⟩
         . rw [aP (cM q (RW D zD3 ⟨_, hD3⟩))]; exact S5.zh a o q
         . cases e : Z3 a with
           | none => exact hh3.free (S5.new a o q e)
           | some u =>
             have := z5 a u (z4 a u e)
             rw [q] at this; cases this
             exact nw3 a o e z
         . by_cases ha : a = D
           . subst ha; rw [bR] at q; cases q; cases im
           . rw [aP ha] at q; exact S5.tp a o q im
         . rw [htk, List.filter_append, List.filter_cons_of_pos hp, List.filter_nil, auJ]
           refine bL.app (ra3.mono (z4.trans z5) fun a ha => ?_) (by
             have := bL.cons (fp := fy) (gp := []) (ry.mono Q.j fun a ha => aP (yD a ha)) (bL.nil (H := upd H5 D (.lst (Rl ++ [yv]))) (Z := Z5))
             rwa [atY] at this)
           have : a ≠ D := fun e => nD (e ▸ ha)
           rw [aP this]
           obtain ⟨o, e⟩ := ra3.there a ha
           rw [e]; exact k5 a o (k4 a o e)
         . refine atR.mpr ⟨nd, ndy, fun a ha a' XI e => ?_⟩
           subst e
           obtain ⟨o, e⟩ := ra3.there a ha
           rw [(aef a XI).2] at e; cases e
         . intro h
           rcases ate.mp h with h | h
           . exact nD h
           . exact yD D h rfl
         . rcases ate.mp ha with h | h
           . exact ⟨RW a (ow3 a h).1 (ra3.there a h), (ow3 a h).2⟩
           . exact ⟨(aef a h).1, hh3.free (aef a h).2⟩
         . rw [ats, List.length_singleton]; omega
   . have e : i = ds.length := by omega
     subst e
     refine .inl ⟨vX H2 (wz.trans zh), ?_⟩
     rw [List.take_length] at ra
     obtain ⟨Z', z', S'⟩ := S.back (H' := H2) (W := W1) (W' := Z2) (t := .lst ((ds.filter p).map g)) (v := .ref D) (fp := D :: fp) hh zw wz zh nw tp2 (.lst hD2 ra) (aud.mpr ⟨nD, nd⟩) (fun a ha => by
       rcases atl.mp ha with h | h
       . subst h; exact ⟨zD, hD⟩
       . exact own a h) (c.imp id fun c => by
         rw [tF]
         exact Hx fun d hd => c d (auV.mp hd).1)
     exact ⟨Z', z', hh, S'⟩
end
variable {δc : Q.n} {ds : List D} {p : D -> Bool} {g : D -> T} {parts : D -> Option (List D)}
theorem Kz {J : It} {it : Addr} {tn : Nat -> Heap -> Prop} {H1 : Hp} {RR : Value -> Addr -> Result -> Shared -> Prop} {E : Q.v}
   (sc : wm X scope xs Nc ix) (hc : X.calm = true) (C : LK X CL b δ1 σ ts vs Z H ds J H1) (I : L2.Inv X pins σ H1 s) (Tn : Turn X.prog X.w X.K tg J fp it tn) (st : tn 0 s.heap) (hf : ∀ b ∈ fp, F4 X pins H1 b)
   (hb : Q.aW) (inner : DX X CL scope Nc xs.length tg parts ifs elt δc ds p g) (hlen : ds.length <= sizeLine)
   (hRR : ∀ D C s' H' Z', (∃ m, s'.heap.Ns C m) -> (∃ o, s'.heap.get? C = some o /\ ∀ v, o.data ≠ .cell v) -> H' C = none -> (C ≠ X.env.locals /\ C ∉ X.fs /\ X.s₀.heap.objs.size <= C /\ (∀ y c, X.env.cells.lookup y = some c -> c ≠ C) /\ ∀ q ∈ X.pn ++ pins, q.1 ≠ C) -> (∀ h', Heap.SameBut C s'.heap h' -> L2.Inv X pins σ H' { s' with heap := h' }) -> aT Z Z' -> aT H H' -> bZ X.K CL b H' Z' δ1 σ (.lst ((ds.filter p).map g) :: ts) (.ref D :: vs) -> RR (.ref D) C (.ok .next) s') :
   wpAny Q.k X.A (newList []) (fun acc s₃ => wpAny Q.k X.A (newFunctionEnv scope X.env.globals (mG X.env scope.names []) [] X.env.qual none .none (some X.env)) (fun aa6 s₄ =>
     codeAny Q.k X.A (.compStart Q.aD 0 (.ref it) acc { aa6 with scope := relabel scope X.env }) (RR acc aa6.locals) s₄) E s₃) E s := by
 obtain ⟨Z1, z1, k1, S1, go, yl, stp⟩ := C.ex
 have lp : ∀ D, H1 D = none -> ∃ W : Nat -> Nat -> Hp -> Prop, (∃ m, W 0 m (upd H1 D (.lst []))) /\ ∀ i m H2, W i m H2 -> (J.stop i H2 /\ ∃ Z2, aT Z1 Z2 /\ aT H1 H2 /\ bZ X.K CL b H2 Z2 δ1 σ (.lst ((ds.filter p).map g) :: ts) (.ref D :: vs)) ∨
     (J.go i H2 /\ ∃ N : Hp -> Prop, (∀ H', N H' -> ∃ m', m' < m /\ W (i + 1) m' H') /\ ∀ xv H3, J.yld i H2 xv H3 -> ∀ C s0 H0 f0 os, os.length = xs.length -> aa5 (fU X scope Nc C s0 H0 f0) tg elt ifs xs.length σ ix D N xv os H3) := by
   rcases hb with ⟨e, cl⟩ | e
   . subst e
     exact HJ (W1 := H1) S1 S1.zh Q.j (fun _ _ q _ => q) (O7 S1 ix) inner (fun i H2 s => go i H2 (S1.zh.trans s)) (fun i Z2 H2 y H' s => yl i Z2 H2 y H' (S1.zh.trans s)) (fun H2 s => stp H2 (S1.zh.trans s)) hlen (.inr cl)
   . subst e
     exact HJ (W1 := Z1) S1 Q.j S1.zh S1.tp (O8 S1 ix) inner go yl stp hlen (.inl rfl)
 exact RV sc hc I Tn st hf lp fun D C s' H' m io nC ch ci ⟨Z', z', k', S'⟩ => hRR D C s' H' Z' m io nC ch ci (z1.trans z') (k1.trans k') S'
theorem FI (sc : wm X scope xs Nc ix) (I : L2.Inv X pins σ H s) : closureFor scope X.env = pure (mG X.env scope.names []) :=
 J9 fun y hy e => I.ok.has y.1 (sc.frees y hy e).2
theorem Pn (sc : wm X scope xs Nc ix) (hc : X.calm = true) (h : GIt X CL b tg iter δ ds δ1) (hb : Q.aW) (inner : DX X CL scope Nc xs.length tg parts ifs elt δc ds p g) (hlen : ds.length <= sizeLine)
   (hs : Q.au := by intro _; rfl) : dH X CL b Q.aD δ (.lst ((ds.filter p).map g)) δ1 := fun H Z σ ts vs Q S k pins s I => by
 obtain ⟨wi, pi, hw⟩ := h
 rw [eval_ListComp]
 refine wpAny_comprehension_free (use := none) rfl hs (FI sc I) sc.kind sc.names ?_
 refine gM (pi pins s σ H _ I (hw H Z σ ts vs (fun J H1 => LK X CL b δ1 σ ts vs Z H ds J H1) S fun J H1 C => C)) fun v s1 h1 => gM h1 fun itv s2 zz => ?_
 obtain ⟨it, fp, tn, J, H1, e, I1, Tn, st, hf, C⟩ := zz
 subst e
 refine Kz (RR := fun acc C => compPost Q.k X.A X.xe none (EP X pins σ Q) acc C) sc hc C I1 Tn st hf hb inner hlen fun D C' s' H' Z' m io nC ch ci z' k' S' => ?_
 obtain ⟨m, hn⟩ := m
 exact ⟨m, hn, fun h' hs' => ⟨.ref D, H', ci h' hs', rfl, k _ H' Z' z' k' S'⟩⟩
variable {y : Str}
theorem aeg {D : g6} {py alR : Pos} (i : Nat) (sc : wm X scope xs Nc ix) (hc : X.calm = true) (h : GIt X CL b tg iter δ ds δ1) (hb : Q.aW) (inner : DX X CL scope Nc xs.length tg parts ifs elt δc ds p g) (hlen : ds.length <= sizeLine)
   (k : D.nx (δ1.set i (some (.lst ((ds.filter p).map g))))) (hl : i < δ1.length) (hN : X.N.Nodup) (hi : X.N[i]? = some y) (hx : Loc X.env.scope y) (hf' : X.fn y = true \/ X.env.scope.names.lookup y = some .local)
   (O4 : swapsWith Q.aD (some (.Name y py)) alR.line X.env = pure true)
   (hs : Q.au := by intro _; rfl) : TSv X CL b (.Assign [.Name y py] Q.aD alR) δ D := fun H Z σ ts vs E S M pins s I => by
 obtain ⟨wi, pi, hw⟩ := h
 rw [exec_Assign_Name_used _ _ _ _ O4]
 refine aty (wpAny_standAt (aty ?_))
 show wpAny _ X.A (do let _ ← comprehension Q.aD scope X.env _ (newList []) false (eval iter X.env) (some (assign (.Name y py) X.env))) _ _ s
 refine aty (auf (wpAny_comprehension_free (use := some (assign (.Name y py) X.env)) (Q := fun _ s' => SP X pins E .next s') rfl hs (FI sc I) sc.kind sc.names ?_) (fun _ s' hq => at5 (at5 hq)) fun _ _ e => e)
 refine gM (pi pins s σ H _ I (hw H Z σ ts vs (fun J H1 => LK X CL b δ1 σ ts vs Z H ds J H1) S fun J H1 C => C)) fun v s1 h1 => gM h1 fun itv s2 zz => ?_
 obtain ⟨it, fp, tn, J, H1, e, I1, Tn, st, hf, C⟩ := zz
 subst e
 refine Kz (RR := fun acc C => compPost Q.k X.A X.xe (some (assign (.Name y py) X.env)) (fun _ s' => SP X pins E .next s') acc C) sc hc C I1 Tn st hf hb inner hlen fun D' C' s' H' Z' m io nC ch ci z' k' S' => ?_
 obtain ⟨m, hn⟩ := m
 obtain ⟨o, ho, Kp⟩ := io
 have I' : L2.Inv X pins σ H' s' := ci s'.heap (.refl ..)
 have I2 : L2.Inv X (pins ++ [(C', o)]) σ H' s' := I'.GD fun q hq => by
   rcases ate.mp hq with z | z
   . exact I'.pin q (as7 _ z)
   . have e : q = (C', o) := by simpa using z
     subst e
     exact ⟨ho, nC, ch.1, ch.2.1, Kp⟩
 show wpAny _ X.A (assign (.Name y py) X.env (.ref D')) _ _ s'
 have hg : PG X (.Name y py) (Ft i) := Bl hN hi hx hf'
 refine gM (hg _ s' σ H' (.ref D') (.ref D') (fun σ8 H8 => σ8 = σ.set i (some (.ref D')) /\ H8 = H') I2 rfl ⟨rfl, rfl⟩) fun _ s8 zz => ?_
 obtain ⟨σ8, H8, I8, e8, e8'⟩ := zz
 subst e8
 subst e8'
 obtain ⟨hC8, nC8, _⟩ := I8.pin (C', o) (as7 _ (as7 _ Q.r))
 refine ⟨m, hn.at' fun o' e' => by rw [ho] at e'; cases e'; exact hC8, fun h' hs' => ?_⟩
 have I9 : L2.Inv X pins (σ.set i (some (.ref D'))) _ s8 := I8.GD fun q hq => I8.pin q (as7 _ (as9 _ hq))
 have I10 := I9.turned (it := C') (h' := h') (t' := s8.toks) (fun b o hb e => (hs'.2 b hb).trans e) nC8 ch.1.symm.symm (.inr ch.2.2.1) ch.2.2.2.1 ch.2.2.2.2
 exact ⟨_, _, I10, M.nx _ _ _ Z' z' (S'.set hl) k⟩
variable {pos' : Pos}
theorem aiF {D : g6} (gx : Gx X) (n : Ln X i x) (sc : wm X scope xs Nc ix) (h : GIt X CL b tg iter δ ds δ1)
   (hb : Q.aW) (inner : DX X CL scope Nc xs.length tg parts ifs elt δc ds p g) (hlen : ds.length <= sizeLine) (k : dY X CL b fS (δ1.set i (some (.lst ((ds.filter p).map g)))) D) (hl : i < δ1.length)
   (O4 : swapsWith (.ListComp elt [⟨tg, iter, ifs, 0⟩] scope pc) (some (.Name x pos')) pos.line X.env = pure true \/ swapsWith (.ListComp elt [⟨tg, iter, ifs, 0⟩] scope pc) (some (.Name x pos')) pos.line X.env = pure false) (hs : Q.au := by intro _; rfl) :
   dY X CL b (.Assign [.Name x pos'] (.ListComp elt [⟨tg, iter, ifs, 0⟩] scope pc) pos :: fS) δ D := by
 rcases O4 with O4 | O4
 . exact dh (aeg i sc gx.calm h hb inner hlen k hl gx.nd n.hi n.loc n.hf O4 hs)
 . exact dh (RN i (Pn sc gx.calm h hb inner hlen hs) k hl gx.nd n.hi n.loc O4 n.hf)
variable {C : Addr}
theorem aiG (h1 : Nc[i]? = some x) (h2 : scope.names.lookup x = some .local) (hd : Q.s := by decide) (rJ : Q.ao := by decide) : Ln (fU X scope Nc C s H fp) i x :=
 ⟨ji h1 h2 hd rJ, .inl (lookup_relabel_local h2), .inr (lookup_relabel_local h2)⟩
def Ite (K : Q.l) (a : Addr) : It :=
 ⟨fun i H => ∃ xs x, vN K H a xs /\ xs[i]? = some x, fun i H x H' => ∃ T y, H T = none /\ x = .ref T /\ (∀ xs, vN K H a xs -> xs[i]? = some y) /\ H' = upd H T (.tup [.int i, y]), fun i H => ∃ xs, vN K H a xs /\ xs.length <= i⟩
variable {elts : List Expr} {kk : Nat} {pt : Pos}
theorem XU (a e it : Addr) (ZS : e ≠ it) : Turn P w K (.Tuple elts kk pt) (Ite K a) [e, it] e (fun i h => (∃ old, PySem.IsEnum h e it i old) /\ h.IsListIter it a i) where
 mem := by simp
 obj := fun i h st b hb => by
   obtain ⟨⟨old, he⟩, hit⟩ := st
   rcases atl.mp hb with z | z
   . subst z
     exact ⟨_, he, fun v z => by
       have z' : Data.fields _ = Data.cell v := z
       cases z'⟩
   . have z : b = it := by simpa using z
     subst z
     obtain ⟨o, e, c, d⟩ := hit
     exact ⟨o, e, fun v z => by rw [d] at z; cases z⟩
 keep := fun i h h' st k => by
   obtain ⟨⟨old, he⟩, hit⟩ := st
   exact ⟨⟨old, k e Q.r _ he⟩, hit.at fun o q => k it Q.r o q⟩
 item := by
   intro X hP hw hK hc i pins s σ H E I hf st hg
   subst hP hw hK
   obtain ⟨xs, x, hq, hx⟩ := hg
   obtain ⟨its, rv, p, hz⟩ := I.list hq
   obtain ⟨u, hu, ru⟩ := rv.get hx
   obtain ⟨⟨old, he⟩, hit⟩ := st
   have fe := hf e Q.r
   have fi := hf it Q.r
   have hT0 : H s.heap.objs.size = none := I.gS.fresh (atq _)
   have fT := I.Lb (atq s.heap.objs.size) hT0
   refine PySem.wpAny_pyNext_enum_item he hit p.isList (x := u) (by simpa using hu) ZS fun h' ho aoU hT hsz hk => ⟨_, rfl, ?_⟩
   refine PySem.wpAny_letOwnedTupleGo_enum ho fun h2 he2 Ov => ?_
   replace Ov : Heap.SameBut e h' h2 := Ov
   have eT : e < s.heap.objs.size := atA he
   have keep : ∀ b o, b ≠ e -> b ≠ it -> s.heap.get? b = some o -> h2.get? b = some o := fun b o h1 h3 q => (Ov.2 b h1).trans (hk b o h1 h3 q)
   have hT2 : h2.get? s.heap.objs.size = some { cls := .type "tuple", data := .seq #[.int i s.toks, u] } := (Ov.2 _ (Nat.ne_of_gt eT)).trans hT
   have nH : ∀ b o, H b = some o -> b ≠ e /\ b ≠ it /\ b ≠ s.heap.objs.size := fun b o q => ⟨fun z => (by rw [z, fe.1] at q; cases q), fun z => (by rw [z, fi.1] at q; cases q), fun z => (by rw [z, hT0] at q; cases q)⟩
   have I' : L2.Inv X pins σ (upd H s.heap.objs.size (.tup [.int i, x])) { s with heap := h2, toks := s.toks + 1 } := by
     refine I.step (g' := s.gens) (d' := s.drawn) (ch := [e, it, s.heap.objs.size]) (fun b hb => ?_) (fun b o _ _ hc q _ => ?_) (fun b o _ _ hc q _ => ⟨o.slots, ?_⟩) (fun b o hc q n => ?_) (fun b o hc q => ⟨o, ?_⟩) (fun b ys q => ?_) (fun b o u q => ?_) (fun b ps q => ⟨#[], ?_⟩) (fun m hm => ?_) (fun b o q => ?_) I.bare
     . rcases atl.mp hb with z | hb
       . subst z; exact ⟨fe.2.2.2.1, fe.2.1, fe.2.2.2.2.1, fe.2.2.2.2.2⟩
       . rcases atl.mp hb with z | hb
         . subst z; exact ⟨fi.2.2.2.1, fi.2.1, fi.2.2.2.2.1, fi.2.2.2.2.2⟩
         . have z : b = s.heap.objs.size := by simpa using hb
           subst z; exact ⟨fT.2.2.2.1, fT.2.1, fT.2.2.2.2.1, fT.2.2.2.2.2⟩
     . exact keep b o Q.aq Q.aq q
     . exact keep b o Q.aq Q.aq q
     . rw [aP Q.aq]; exact n
     . exact keep b o Q.aq Q.aq q
     . rw [aP (nH b _ q).2.2]; exact q
     . rw [aP (nH b _ q).2.2]; exact q
     . rw [aP (nH b _ q).2.2, q]; simp
     . obtain ⟨o, es, ep, ho, r⟩ := hm
       exact ⟨o, es, ep, keep _ o (auG fe.2.1) (auG fi.2.1) ho, r⟩
     . by_cases hb : b = s.heap.objs.size
       . subst hb
         rw [bR] at q
         cases q
         exact ⟨aub (cS (atf rfl)), [.int i s.toks, u], .cons ⟨s.toks, rfl⟩ (.cons ru .nil), ⟨_, hT2, rfl, _, rfl⟩⟩
       . rw [aP hb] at q
         refine (I.gS b o q).J3 (fun c v hc z => keep c v ?_ ?_ z) (fun c z => by rw [aP (nH c _ z).2.2]; exact z) (fun c ys z => by rw [aP (nH c _ z).2.2]; exact z) fun c ys z => by rw [aP (nH c _ z).2.2]; exact z
         . rcases hc with z | z
           . rw [z]; exact (nH b _ q).1
           . exact (nH c _ z).1
         . rcases hc with z | z
           . rw [z]; exact (nH b _ q).2.1
           . exact (nH c _ z).2.1
   have ei : ((i + 1 : Nat) : Int) = (i : Int) + 1 := by omega
   refine ⟨.ref s.heap.objs.size, _, I', rfl, ⟨_, x, hT0, rfl, fun ys hy => by rw [I.OI hy hq]; exact hx, rfl⟩, ⟨⟨u, by rw [ei]; exact he2⟩, aoU.at fun o q => (Ov.2 it (auG ZS)).trans q⟩, fun b hb => ?_⟩
   have hb' := hf b hb
   obtain ⟨o, J4, _⟩ : ∃ o, s.heap.get? b = some o /\ True := by
     rcases atl.mp hb with z | z
     . subst z; exact ⟨_, he, trivial⟩
     . have z : b = it := by simpa using z
       subst z
       obtain ⟨o, q, _⟩ := hit
       exact ⟨o, q, trivial⟩
   rw [aP (at3 (atA J4))]
   exact hb'.1
 done := by
   intro X hP hw hK hc i pins s σ H E I hf st hg
   subst hP hw hK
   obtain ⟨xs, hq, hx⟩ := hg
   obtain ⟨its, rv, p, hz⟩ := I.list hq
   obtain ⟨⟨old, he⟩, hit⟩ := st
   obtain ⟨f0, f1, f2, f3, f4, f5⟩ := hf it Q.r
   have hl := rv.length
   exact PySem.wpAny_pyNext_enum_end (I.ok.hd hc) he hit p.isList Q.Z fun h' eb => ⟨rfl, I.turned (t' := s.toks) (fun b o hb e => eb b o hb e) f0 f1 f3 f4 f5⟩
 self := fun _ _ _ _ _ st h => by
   obtain ⟨⟨old, he⟩, _⟩ := st
   exact PySem.wpAny_pyIter_enum he h
def alS (K : Q.l) (ta : TA) : TI := fun σ H R => ta σ H fun vs H1 => ∃ a xs, vs = [.ref a] /\ vN K H1 a xs /\ R (Ite K a) H1
theorem aeh {a : Expr} {ta : TA} {p : Pos} (hg : Gl X "enumerate") (hm : X.mg "enumerate" = none) (ha : PA X [a] ta) (hs : starEach [a] X.env = (false, eval a X.env) :: starEach [] X.env) : PI X (.Tuple elts kk pt) (.Call (.Name "enumerate" p) [a] [] pos) (alS X.K ta) := by
 intro pins s σ H R I h
 refine Call_ (DM I hg hm boot_enumerate (auE (gM (ha pos pins s σ H _ I h) fun us s1 zz => ?_) hs rfl))
 obtain ⟨vs, H1, I1, r1, q1⟩ := zz
 obtain ⟨l, xs, e, hq, q⟩ := q1
 subst e
 cases r1 with
 | cons r rr =>
   cases rr
   cases r
   obtain ⟨its, rv, p, hz⟩ := I1.list hq
   refine PySem.call_enumerate_list p.isList fun h' he hit hsz hk => ?_
   have I2 : L2.Inv X pins σ H1 { s1 with heap := h' } := I1.kept (t' := s1.toks) fun b o e => hk b o e
   refine PySem.wpAny_pyIter_enum he ?_
   refine ⟨s1.heap.objs.size + 1, [s1.heap.objs.size + 1, s1.heap.objs.size], _, _, H1, rfl, I2, XU l _ _ (Nat.succ_ne_self _), ⟨⟨_, he⟩, hit⟩, fun b hb => ?_, q⟩
   rcases atl.mp hb with z | z
   . subst z
     exact I1.Lb (Nat.le_succ _) (I1.gS.fresh (Nat.le_succ _))
   . have z : b = s1.heap.objs.size := by simpa using z
     subst z
     exact I1.Lb (atq _) (I1.gS.fresh (atq _))
def HK (ds : List D) : List D := (List.range ds.length).map fun (i : Nat) => .tup [.int i, ds.getD i .non]
theorem DY (ds : List D) : (HK ds).length = ds.length := by simp [HK]
theorem XW {ds : List D} {d : D} (h : ds[i]? = some d) : (HK ds)[i]? = some (.tup [.int i, d]) := by
 have hi : i < ds.length := (atM.mp h).1
 unfold HK
 rw [atE, auC hi]
 show some (D.tup [.int i, ds.getD i .non]) = _
 rw [atg, h]
 rfl
variable {pr : Pos} {ds : List D}
theorem aei (hm : X.mg "enumerate" = none) (h : dH X CL b e δ (.sh (.lst ds)) δ1) (hg : Gl X "enumerate") (hs : Q.aa := by exact cE rfl) : GIt X CL b (.Tuple elts kk pt) (.Call (.Name "enumerate" pr) [e] [] pc) δ (HK ds) δ1 := by
 refine ⟨_, aeh hg hm (dm fh iA hs) hs, fun H Z σ ts vs R S k => h H Z σ ts vs _ S fun v H1 Z1 z1 k1 S1 => ?_⟩
 obtain ⟨fp, gp, _, r, _, _⟩ := S1.rep
 cases r with
 | cons r _ =>
   cases r with
   | sh r =>
     cases r with
     | @lst a us _ hq rr =>
       have hl := rr.length
       refine ⟨a, us, rfl, S1.zh.seq hq, k _ _ ⟨Z1, z1, k1, S1.pop, fun i H2 s hi => ?_, fun i Z2 H2 x H' s1 s2 tp hi hy => ?_, fun H2 s => ?_⟩⟩
       . rw [DY] at hi
         have hi' : i < us.length := by rw [← hl]; exact hi
         exact ⟨us, us[i], s.seq hq, atm hi'⟩
       . rw [DY] at hi
         obtain ⟨T, y, hT, rfl, hx, rfl⟩ := hy
         obtain ⟨d, hd, rd⟩ := rr.adU (hx us ((s1.trans s2).seq hq))
         have gr : LJ Z2 H2 _ _ := LJ.tup (xs := [.int i, y]) s2 tp hT
         exact ⟨_, _, XW hd, gr, .tup (Fq.of bR) (.cons (.int _) (.cons ((rd.mono s1).mono gr.z) .nil))⟩
       . rw [DY]
         exact ⟨us, s.seq hq, by rw [← hl]; exact atq _⟩
def insI (x : Int) : List Int -> List Int
 | [] => [x]
 | y :: l => if x <= y then x :: y :: l else y :: insI x l
def sortI : List Int -> List Int
 | [] => []
 | x :: l => insI x (sortI l)
theorem insI_perm (x : Int) : ∀ l, (insI x l).Perm (x :: l)
 | [] => .refl _
 | y :: l => by
   rw [insI]
   split
   . exact .refl _
   . exact ((insI_perm x l).cons y).trans (.swap x y l)
theorem sortI_perm : ∀ l, (sortI l).Perm l
 | [] => .refl _
 | x :: l => (insI_perm x (sortI l)).trans ((sortI_perm l).cons x)
theorem KC {l : Q.e} {x : Int} : x ∈ sortI l ↔ x ∈ l := (sortI_perm l).mem_iff
theorem xU (l : Q.e) : (sortI l).length = l.length := (sortI_perm l).length_eq
theorem FJ (x : Int) : ∀ {l : Q.e}, l.Pairwise (· <= ·) -> (insI x l).Pairwise (· <= ·)
 | [], _ => List.pairwise_singleton _ _
 | y :: l, h => by
   rw [insI]
   obtain ⟨h1, h2⟩ := auY.mp h
   split
   . rename_i e
     refine auY.mpr ⟨fun z hz => ?_, h⟩
     rcases atl.mp hz with rfl | hz
     . exact e
     . exact Int.le_trans e (h1 z hz)
   . rename_i e
     refine auY.mpr ⟨fun z hz => ?_, FJ x h2⟩
     rcases atl.mp ((insI_perm x l).mem_iff.mp hz) with rfl | hz
     . omega
     . exact h1 z hz
theorem um : ∀ l, (sortI l).Pairwise (· <= ·)
 | [] => .nil
 | x :: l => FJ x (um l)
theorem FL : ∀ {a b : Q.e}, a.Perm b -> a.Pairwise (· <= ·) -> b.Pairwise (· <= ·) -> a = b
 | [], b, p, _, _ => (List.nil_perm.mp p).symm
 | x :: a, [], p, _, _ => absurd p.length_eq Q.r
 | x :: a, y :: b, p, ha, hb => by
   obtain ⟨a1, a2⟩ := auY.mp ha
   obtain ⟨b1, b2⟩ := auY.mp hb
   have e : x = y := by
     have h1 : x ∈ y :: b := p.mem_iff.mp ati
     have h2 : y ∈ x :: a := p.mem_iff.mpr ati
     rcases atl.mp h1 with e | h1
     . exact e
     . rcases atl.mp h2 with e | h2
       . exact e.symm
       . exact Int.le_antisymm (a1 y h2) (b1 x h1)
   subst e
   rw [FL (List.Perm.cons_inv p) a2 b2]
theorem aa9 {l z : Q.e} (p : z.Perm l) (s : z.Pairwise (· <= ·)) : z = sortI l := FL (p.trans (sortI_perm l).symm) s (um l)
theorem BF : ∀ {us : Q.q} {ns : Q.e}, IntsAre us ns -> Vals (ns.map V.int) us
 | _, _, .nil => .nil
 | _, _, .cons n t r => .cons ⟨t, rfl⟩ (BF r)
theorem LN : vA X (.builtin "sorted") (fun xs H Q => ∃ p ns, xs = [.ref p] /\ vN X.K H p (ns.map .int) /\ ns.length < 64 /\ ∀ l, H l = none -> Q (.ref l) (upd H l (.lst ((sortI ns).map .int)))) := by
 intro pins s σ H xs us Q I r h
 obtain ⟨p, ns, rfl, hq, hl, q⟩ := h
 obtain ⟨u, rfl, rx⟩ := vals1 r
 cases rx
 obtain ⟨its, r', pl, hz⟩ := I.list hq
 have hlen := r'.length
 rw [as4] at hlen
 refine sorted_ints pl.isList (intsAre_of r') Q.a fun out ns' a1 a2 a3 => ?_
 obtain ⟨e, he⟩ := sortedAll_at s.heap its out
 have e2 : ns' = sortI ns := aa9 a2 a3
 subst e2
 refine ⟨.ref Q.Y, _, I.laid (t' := s.toks) (fun _ _ => sortedAll_old) (Nat.le_succ _) (show iV X.prog X.w _ _ _ (.lst ((sortI ns).map .int)) from ⟨?_, out.toList, e, BF a1, ?_⟩), rfl, q _ (I.gS.fresh (Nat.le_succ _))⟩
 . rw [as4, xU]
   rw [as4] at hz
   exact hz
 . simpa using he
theorem LQ : bootBuiltins "sorted" = some (.builtin "sorted") := Q.f
theorem XY {l : Q.e} (h : aX K CL Z (l.map D.int) us) : us = l.map V.int := by
 refine aX.ind (P := fun ds us => ∀ l : List Int, ds = l.map D.int -> us = l.map V.int) ?_ ?_ h l rfl
 . intro l e
   cases l with
   | nil => rfl
   | cons => cases e
 . intro d v ds vs r _ i l e
   cases l with
   | nil => cases e
   | cons a l =>
     injection e with e1 e2
     subst e1
     rw [i l e2]
     cases r
     rfl
theorem ints_rep {K : Q.l} {Z : Hp} : ∀ (l : Q.e), aX K CL Z (l.map D.int) (l.map V.int)
 | [] => .nil
 | _ :: l => .cons (.int _) (ints_rep l)
theorem RX {l : Q.e} (hm : X.mg "sorted" = none) (h : eK X CL b e δ (.lst (l.map .int)) δ1) (hl : l.length < 64) (hg : Gl X "sorted") (hs : Q.aa := by exact cE rfl) : dH X CL b (.Call (.Name "sorted" pp) [e] [] pos) δ (.lst (((sortI l).map D.int).map T.sh)) δ1 := fun H Z σ ts vs Q S k =>
 dS (vZ LN hg hm LQ (dm fh iA hs) (he := hs)) (h H Z σ ts vs _ S fun v H1 Z1 z1 k1 S1 r => by
   cases r with
   | @lst a us _ hq rr =>
     have := XY rr
     subst this
     refine ⟨a, l, rfl, hq, hl, fun p hp => ?_⟩
     obtain ⟨c, S2⟩ := (bZ.FD (ints_rep (sortI l)) S1).zu (g0 := []) Q.r hp
     exact k _ _ _ z1 (k1.trans c) S2)
theorem aiH {β : Type} {f : α -> β} {l : List α} {d : β} (h : (l.map f)[j]? = some d) : ∃ x, d = f x /\ l[j]? = some x /\ x ∈ l /\ j < l.length /\ l.drop j = x :: l.drop (j + 1) /\ l.take (j + 1) = l.take j ++ [x] := by
 rw [atE] at h
 cases hx : l[j]? with
 | none => rw [hx] at h; cases h
 | some x =>
   rw [hx] at h
   cases h
   have hj : j < l.length := (atM.mp hx).1
   have e : l[j] = x := (atM.mp hx).2
   exact ⟨x, rfl, rfl, at6 hx, hj, by rw [ave hj, e], by rw [au0, hx]; rfl⟩
def D.at1 : L3.D -> L3.D
 | .tup (a :: _) => a
 | d => d
theorem XZ (f : α -> L3.D) (z : α) (l : List α) : HK (l.map f) = (List.range l.length).map fun (i : Nat) => L3.D.tup [.int i, f (l.getD i z)] := by
 unfold HK
 rw [as4]
 apply auk
 intro i hi
 have hi : i < l.length := atP.mp hi
 have : (l.map f).getD i .non = f (l.getD i z) := by
   rw [atg, atg, atE, atm hi]
   rfl
 rw [this]
theorem Pp {f : α -> L3.D} {l : List α} (z : α) (hm : X.mg "enumerate" = none) (h : dH X CL b e δ (.sh (.lst (l.map f))) δ1) (hg : Gl X "enumerate") (hs : Q.aa := by exact cE rfl) :
   GIt X CL b (.Tuple elts kk pt) (.Call (.Name "enumerate" pr) [e] [] pc) δ ((List.range l.length).map fun (i : Nat) => L3.D.tup [.int i, f (l.getD i z)]) δ1 := by
 have := aei (elts := elts) (kk := kk) (pt := pt) (pr := pr) (pc := pc) hm h hg hs
 rwa [XZ f z l] at this
variable {ds : List L3.D}
def alT (K : Q.l) : R2 := fun x y H Q => ∃ l k xs, x = .ref l /\ y = .int k /\ vN K H l xs /\ -(2 ^ 63) <= k /\ k < 2 ^ 63 /\ xs.length * k.toNat <= sizeLine ∧
 ∀ p, H p = none -> Q (.ref p) (upd H p (.lst (List.replicate k.toNat xs).flatten))
theorem aej : vY X (binaryOp .Mult) (alT X.K) := by
 intro pins s σ H x y v u Q I rx ry h
 obtain ⟨l, k, xs, rfl, rfl, hH, h1, h2, hz, q⟩ := h
 cases rx
 obtain ⟨t, rfl⟩ := ry
 obtain ⟨its, r, pl, _⟩ := I.list hH
 have hl := r.length
 obtain ⟨⟨c1, dd, da1, sl⟩, e, hc, n, hd⟩ := pl.isList
 cases hc; cases hd
 have hlen : its.toArray.size * k.toNat <= sizeLine := by rw [atN, ← hl]; exact hz
 have aoW : ¬ its.toArray.size * k.toNat > (2 ^ 63 - 1) / 8 := by
   have : (sizeLine : Nat) <= (2 ^ 63 - 1) / 8 := by decide
   omega
 have aek : ¬ (!Builtin.List.listFitsIndex k) = true := by
   rw [fitsIndex_both h1 h2]
   exact atv
 have alU : ¬ Builtin.List.listTooLong (its.toArray.size * k.toNat) = true := by
   rw [aaD hlen]
   exact atv
 have aoX : List.foldl (fun x1 x2 => x1 ++ x2) #[] (List.replicate (if its.toArray.isEmpty = true then 0 else k.toNat) its.toArray) = (List.replicate k.toNat its).flatten.toArray := by
   have f0 : ∀ m : Nat, List.foldl (fun x1 x2 => x1 ++ x2) #[] (List.replicate m its.toArray) = (List.replicate m its).flatten.toArray := fun m => by
     have := foldl_rep its m []
     rw [auA] at this
     exact this
   rw [f0]
   cases its with
   | nil => simp
   | cons a r' => rw [as5 Q.r]
 refine wpAny_binaryOp_repeat_ref (T := "list") (U := "int") Q.c ⟨_, e, rfl⟩ (fun s' => typeIs_int s' k t) noFill_list_mul F.fills_int_mul F.slot_int_rmul repeat_list F.slot_int_index.lookup
   (call_meets F.slot_int_rmul (typeIs_int s k t) F.entry_int_rmul (F.args_int_rmul_2 _ _) (lm_int_rmul_list_any k t l its.toArray n dd sl)
     ⟨e, rfl, ⟨_, e, rfl⟩, call_meets F.slot_list_mul ⟨_, e, rfl⟩ F.entry_list_mul (F.args_list_mul_2 _ _) (lm_list_mul_any l its.toArray n dd sl k t aek aoW alU) ⟨e, ?_⟩⟩)
 rw [aoX]
 exact ⟨.ref _, _, I.alq (t' := s.toks) (r.rep k.toNat) (by rw [len_rep, Nat.mul_comm]; exact hz), rfl, q _ I.fresh⟩
theorem aX.rep {K : Q.l} {Z : Hp} {ds : List L3.D} {vs : List V} (r : aX K CL Z ds vs) : ∀ k : Nat, aX K CL Z (List.replicate k ds).flatten (List.replicate k vs).flatten
 | 0 => .nil
 | k + 1 => by
   rw [aut, aut, auM, auM]
   exact aX.app r (aX.rep r k)
theorem ael {k : Int} (h1 : eK X CL b e1 δ (.lst ds) δ1) (h2 : eK X CL b e2 δ1 (.int k) δ2) (i1 : D.cZ ds = true) (k1 : -(2 ^ 63) <= k) (k2 : k < 2 ^ 63) (hz : ds.length * k.toNat <= sizeLine) :
   dH X CL b (.BinOp e1 .Mult e2 pos) δ (.lst ((List.replicate k.toNat ds).flatten.map T.sh)) δ2 := fun H Z σ ts vs Q S kk =>
 dS (aan aej fh fh) (h1 H Z σ ts vs _ S fun v1 H1 Z1 z1 q1 S1 r1 => h2 H1 Z1 σ ts vs _ S1 fun v2 H2 Z2 z2 q2 S2 r2 => by
   have r1' := r1.mono q2
   cases r1' with
   | lst hq1 rr1 =>
     cases r2 with
     | int =>
       refine ⟨_, _, _, rfl, rfl, hq1, k1, k2, by rw [← rr1.length]; exact hz, fun p hp => ?_⟩
       have rc := aX.rep (aX.qc S2.tp i1 rr1) k.toNat
       obtain ⟨c, S4⟩ := (bZ.FD rc S2).zu (g0 := []) (by rw [as4, rc.length]) hp
       exact kk _ _ _ Q.w (q1.trans (q2.trans c)) S4)
theorem Pq {k : Str} (hm : ∃ u, X.mg x = some (.str k u)) (hg : Gl X x) (hd : Q.s := by decide) : dH X CL b Q.C δ (.sh (.str k)) δ := fun H Z σ ts vs Q S kk => by
 obtain ⟨u, hm⟩ := hm
 exact dS (GF (v := .str k) hg hm ⟨u, rfl⟩ hd) (kk _ H Z Q.j Q.j (S.push (.str k)))
theorem aX.ag2 {K : Q.l} {Z : Hp} : ∀ l : List Str, aX K CL Z (l.map .str) (l.map V.str)
 | [] => .nil
 | x :: l => .cons (.str x) (aX.ag2 l)
def GT (X : Cx) (x : Str) (l : Q.h) : Prop := ∃ a, X.mg x = some (.ref a) /\ ∀ H : Hp, Fq X.K H a (l.map V.str)
theorem BG (hm : GT X x l) (hg : Gl X x) (hd : Q.s := by decide) : dH X CL b Q.C δ (.sh (.tup (l.map .str))) δ := fun H Z σ ts vs Q S kk => by
 obtain ⟨a, hm, hs⟩ := hm
 exact dS (GF (v := .ref a) hg hm rfl hd) (kk _ H Z Q.j Q.j (S.push (.tup (hs Z) (aX.ag2 l))))
theorem V7 {od : Option Addr} {its : Array Value} {sl : Array (Option Value)} (h1 : X.mg x = some (.ref a)) (h2 : X.K.lookup a = some ⟨.type "tuple", od, .seq its n, sl⟩) (h3 : its.size <= sizeLine) (h4 : Vals (l.map V.str) its.toList) : GT X x l :=
 ⟨a, h1, fun H => .inr ⟨_, its, n, h2, rfl, rfl, h3, h4⟩⟩
def KD (x y : Str) : Bool := !(Builtin.Str.occurrences y x 0 y.length 1).isEmpty
theorem FN {i j : Str} (h1 : eK X CL b e1 δ (.str i) δ1) (h2 : eK X CL b e2 δ1 (.str j) δ2) (hm : behindInMarks .NotIn e2 = false) : xT X CL b (.Compare e1 [.NotIn] [e2] pos) δ (!KD i j) δ2 /\ dH X CL b (.Compare e1 [.NotIn] [e2] pos) δ (.sh (.bl (!KD i j))) δ2 :=
 Fz Lc h1 h2 rfl rfl (fun _ _ q => ⟨i, j, rfl, rfl, q⟩) hm
def Its (x : Str) : It := ⟨fun i _ => i < x.cps.size, fun i H v H' => H' = H /\ ∃ c, x.cps[i]? = some c /\ v = .str ⟨#[c]⟩, fun i _ => x.cps.size <= i⟩
theorem X3 (x : Str) (t : Tok) (it : Addr) : Turn P w K tg (Its x) [it] it (fun i h => h.IsStrIter it "str_ascii_iterator" x t i) where
 mem := by simp
 obj := fun i h st b hb => by
   have e : b = it := by simpa using hb
   subst e
   obtain ⟨o, e, c, d⟩ := st
   exact ⟨o, e, fun v z => by rw [d] at z; cases z⟩
 keep := fun i h h' st k => by
   obtain ⟨o, e, r⟩ := st
   exact ⟨o, k it Q.r o e, r⟩
 item := by
   intro X hP hw hK hc i pins s σ H E I hf st hg
   subst hP hw hK
   have hg : i < x.cps.size := hg
   obtain ⟨f0, f1, f2, f3, f4, f5⟩ := hf it Q.r
   refine wpAny_pyNext_ascii_item st (c := x.cps[i]) (by simp [hg]) fun h' Vy sb => ?_
   have I1 : Inv X pins σ H { s with heap := h', toks := s.toks + 1 } := I.turned (fun b o hb e => (sb.2 b hb).trans e) f0 f1 f3 f4 f5
   obtain ⟨o, e, c, d⟩ := id Vy
   exact ⟨_, rfl, OO (s := { s with heap := h', toks := s.toks + 1 }) e c d Q.c ⟨.str ⟨#[x.cps[i]]⟩, H, I1, ⟨_, rfl⟩, ⟨rfl, _, by simp [hg], rfl⟩, Vy, fun b hb => (hf b hb).1⟩⟩
 done := by
   intro X hP hw hK hc i pins s σ H E I hf st hg
   subst hP hw hK
   have hg : x.cps.size <= i := hg
   obtain ⟨f0, f1, f2, f3, f4, f5⟩ := hf it Q.r
   exact wpAny_pyNext_ascii_end (I.ok.hd hc) st (by simp [hg]) fun h' eb => ⟨rfl, I.turned (t' := s.toks) (fun b o hb e => eb b o hb e) f0 f1 f3 f4 f5⟩
 self := fun _ _ _ _ _ st h => wpAny_pyIter_striter_ascii st h
theorem X4 (x : Str) (t : Tok) (it : Addr) : Turn P w K tg (Its x) [it] it (fun i h => h.IsStrIter it "str_iterator" x t i) where
 mem := by simp
 obj := fun i h st b hb => by
   have e : b = it := by simpa using hb
   subst e
   obtain ⟨o, e, c, d⟩ := st
   exact ⟨o, e, fun v z => by rw [d] at z; cases z⟩
 keep := fun i h h' st k => by
   obtain ⟨o, e, r⟩ := st
   exact ⟨o, k it Q.r o e, r⟩
 item := by
   intro X hP hw hK hc i pins s σ H E I hf st hg
   subst hP hw hK
   have hg : i < x.cps.size := hg
   obtain ⟨f0, f1, f2, f3, f4, f5⟩ := hf it Q.r
   refine wpAny_pyNext_wide_item st (c := x.cps[i]) (by simp [hg]) fun h' Vy sb => ?_
   have I1 : Inv X pins σ H { s with heap := h', toks := s.toks + 1 } := I.turned (fun b o hb e => (sb.2 b hb).trans e) f0 f1 f3 f4 f5
   obtain ⟨o, e, c, d⟩ := id Vy
   exact ⟨_, rfl, OO (s := { s with heap := h', toks := s.toks + 1 }) e c d Q.c ⟨.str ⟨#[x.cps[i]]⟩, H, I1, ⟨_, rfl⟩, ⟨rfl, _, by simp [hg], rfl⟩, Vy, fun b hb => (hf b hb).1⟩⟩
 done := by
   intro X hP hw hK hc i pins s σ H E I hf st hg
   subst hP hw hK
   have hg : x.cps.size <= i := hg
   obtain ⟨f0, f1, f2, f3, f4, f5⟩ := hf it Q.r
   exact wpAny_pyNext_wide_end (I.ok.hd hc) st (by simp [hg]) fun h' eb => ⟨rfl, I.turned (t' := s.toks) (fun b o hb e => eb b o hb e) f0 f1 f3 f4 f5⟩
 self := fun _ _ _ _ _ st h => wpAny_pyIter_striter_wide st h
def aoZ (tl : TE) : TI := fun σ H R => tl σ H fun v H1 => ∃ x, v = .str x /\ R (Its x) H1
theorem aiI {l : Expr} {tl : TE} (hl : PE X l tl) : PI X tg l (aoZ tl) := by
 intro pins s σ H R I h
 refine gM (hl pins s σ H _ I h) fun v s1 zz => ?_
 obtain ⟨y, H1, I1, r1, q1⟩ := zz
 obtain ⟨x, e, q⟩ := q1
 subst e
 obtain ⟨t, rfl⟩ := r1
 cases ha : x.cps.all (· < 128) with
 | true =>
   refine wpAny_pyIter_ascii ha ?_
   refine ⟨s1.heap.objs.size, [s1.heap.objs.size], _, _, H1, rfl, I1.kept (t' := s1.toks) fun b o e => atu _ e, X3 x t _, ⟨_, at4 _ rfl, rfl, rfl⟩, fun b hb => ?_, q⟩
   have e : b = s1.heap.objs.size := by simpa using hb
   subst e
   exact I1.Lb (atq _) (I1.gS.fresh (atq _))
 | false =>
   refine wpAny_pyIter_wide ha ?_
   refine ⟨s1.heap.objs.size, [s1.heap.objs.size], _, _, H1, rfl, I1.kept (t' := s1.toks) fun b o e => atu _ e, X4 x t _, ⟨_, at4 _ rfl, rfl, rfl⟩, fun b hb => ?_, q⟩
   have e : b = s1.heap.objs.size := by simpa using hb
   subst e
   exact I1.Lb (atq _) (I1.gS.fresh (atq _))
def pI (x : Str) : List L3.D := x.cps.toList.map fun c => .str ⟨#[c]⟩
theorem Pr (l : List Nat) : aX K CL Z (l.map fun c => L3.D.str ⟨#[c]⟩) (l.map fun c => V.str ⟨#[c]⟩) := by
 induction l with
 | nil => exact .nil
 | cons c l ih => exact .cons (.str _) ih
theorem aiJ (h : dH X CL b iter δ (.sh (.str x)) δ1) : TIt X CL b tg iter δ (pI x) δ1 := by
 refine ⟨_, aiI fh, fun H Z σ ts vs R S k => h H Z σ ts vs _ S fun v H1 Z1 z1 k1 S1 => ?_⟩
 obtain ⟨fp, gp, _, r, _, _⟩ := S1.rep
 cases r with
 | cons r _ =>
   cases r with
   | sh r =>
     cases r with
     | str =>
       refine ⟨x, rfl, k _ _ ⟨Z1, _, z1, k1, S1.pop, Pr _, fun i H2 s hi => ?_, fun i H2 y H' s hi hy => ⟨hy.1, ?_⟩, fun H2 s => ?_⟩⟩
       . show i < x.cps.size
         simpa [pI] using hi
       . obtain ⟨c, hc, rfl⟩ := hy.2
         simp [hc]
       . show x.cps.size <= (pI x).length
         simp [pI]
def ao0 : V -> Option Int -> Option Int -> Hp -> VK -> Prop := fun x lo hi H Q => ∃ z, x = .str z /\ z.length <= sizeLine /\ Q (.str (Txt.slice z lo hi)) H
theorem aiK : SlR X ao0 := by
 intro pins s σ H x v vl vu lo hi sl Q I rx hs pl pu h
 obtain ⟨z, rfl, hz, q⟩ := h
 obtain ⟨t, rfl⟩ := rx
 obtain ⟨o, ho, hc, hd⟩ := hs
 have fin : ∀ t' k, EP X pins σ Q (.str (Txt.slice z lo hi) t') { s with toks := k } := fun t' k => ⟨.str _, H, I.tok k, ⟨t', rfl⟩, q⟩
 refine ⟨"str", _, F.slot_str_getitem.lookup, typeIs_str _ _ _, ?_⟩
 cases pl with
 | none =>
   cases pu with
   | none => exact auU (l := none) (u := none) (st := none) ⟨o, ho, hc, hd⟩ rfl (post_val_or_str ⟨ath (au4 z _ _) hz, fin⟩)
   | int j uj => exact auU (l := none) (u := some (j, uj)) (st := none) ⟨o, ho, hc, hd⟩ rfl (post_val_or_str ⟨ath (au4 z _ _) hz, fin⟩)
 | int i ui =>
   cases pu with
   | none => exact auU (l := some (i, ui)) (u := none) (st := none) ⟨o, ho, hc, hd⟩ rfl (post_val_or_str ⟨ath (au4 z _ _) hz, fin⟩)
   | int j uj => exact auU (l := some (i, ui)) (u := some (j, uj)) (st := none) ⟨o, ho, hc, hd⟩ rfl (post_val_or_str ⟨ath (au4 z _ _) hz, fin⟩)
theorem DZ {lo hi : Option Expr} {l h : Option Int} {z : Str} (h1 : eK X CL b e δ (.str z) δ1) (hz : z.length <= sizeLine) (h2 : TOv X CL b lo δ1 l δ2) (h3 : TOv X CL b hi δ2 h δ3) : dH X CL b (.Subscript e (.Slice lo hi none p2) pos) δ (.sh (.str (Txt.slice z l h))) δ3 := fun H Z σ ts vs Q S k => by
 obtain ⟨t2, po2, w2⟩ := h2
 obtain ⟨t3, po3, w3⟩ := h3
 refine dS (OV aiK fh po2 po3) (h1 H Z σ ts vs _ S fun v H1 Z1 z1 k1 S1 r => w2 H1 Z1 σ ts vs _ S1 fun H2 Z2 z2 k2 S2 => w3 H2 Z2 σ ts vs _ S2 fun H3 Z3 z3 k3 S3 => ?_)
 exact ⟨z, r.sc rfl, hz, k _ H3 Z3 (z1.trans (z2.trans z3)) (k1.trans (k2.trans k3)) (S3.push (.str _))⟩
theorem c0 {arg : A -> List L3.D} {Pre : A -> Prop} {res : A -> T} (a : A) (F : Fc X CL x k n arg Pre res) (hg : Gl X x) (ha : arg a = []) (hp : Pre a) (hc : (res a).clean = true) (hn : (arg a).length = n := by rfl)
   (Bo : Q.s := by decide) : dH X CL b (.Call (.Name x pp) [] [] pos) δ (res a) δ := by
 obtain ⟨f, fd, ps, F1, m, kk, bb⟩ := F.ex
 intro H Z σ ts vs Q S k
 refine dS (aaw F1 F.room hg m kk bb .nil OZ Bo) ?_
 refine ⟨H, a, .refl _, fun _ _ q _ => q, by rw [ha]; exact .nil, hn, hp, S.aaM, fun v H' W' fp hh ww wh nw tp rt nd own => ?_⟩
 obtain ⟨Z', z', S'⟩ := S.back hh S.zh ww wh nw tp rt nd own (.inr hc)
 exact k v H' Z' z' hh S'
def aiL : Key -> D
 | .inl i => .int i
 | .inr x => .str x
def LR (b9 : Q.X) (k : Key) : Option D := (b9.find? fun kv => decide (kv.1 = k)).map (·.2)
def HL (b9 : Q.X) (k : Key) (d : D) : List (Key × D) :=
 if (b9.any fun kv => decide (kv.1 = k)) = true then b9.map (fun kv => if kv.1 = k then (kv.1, d) else kv) else b9 ++ [(k, d)]
variable {d : D} {b9 : Q.X}
theorem cU.length {b9 : Q.X} (h : cU K CL Z b9 gs) : b9.length = gs.length :=
 cU.ind (P := fun b9 gs => b9.length = gs.length) rfl (fun _ _ i => congrArg (· + 1) i) h
theorem cU.val {k : Key} : ∀ {b9 : Q.X} {gs : List (Key × V)}, cU K CL Z b9 gs -> (LR b9 k = none /\ zq gs k = none) \/ ∃ d v, LR b9 k = some d /\ zq gs k = some v /\ cC K CL Z d v
 | _, _, .nil => .inl ⟨rfl, rfl⟩
 | _, _, .cons (x := x) (d := d) (v := v) h r => by
   by_cases e : x = k
   . exact .inr ⟨d, v, by simp [LR, e], Bv e, h⟩
   . rcases cU.val (k := k) r with ⟨h1, h2⟩ | ⟨d', v', h1, h2, h3⟩
     . exact .inl ⟨by simpa [LR, e] using h1, by rw [v7 e]; exact h2⟩
     . exact .inr ⟨d', v', by simpa [LR, e] using h1, by rw [v7 e]; exact h2, h3⟩
theorem cU.any {k : Key} : ∀ {b9 : Q.X} {gs : List (Key × V)}, cU K CL Z b9 gs -> (b9.any fun kv => decide (kv.1 = k)) = (gs.any fun kv => decide (kv.1 = k))
 | _, _, .nil => rfl
 | _, _, .cons _ r => by rw [auo, auo, cU.any r]
theorem cU.repl {k : Key} (q : cC K CL Z d v) : ∀ {b9 : Q.X} {gs : List (Key × V)}, cU K CL Z b9 gs -> cU K CL Z (b9.map (fun kv => if kv.1 = k then (kv.1, d) else kv)) (gs.map (fun kv => if kv.1 = k then (kv.1, v) else kv))
 | _, _, .nil => .nil
 | _, _, .cons (x := x) h r => by
   rw [atG, atG]
   by_cases e : x = k
   . rw [atb e, atb e]; exact .cons q (cU.repl q r)
   . rw [as5 e, as5 e]; exact .cons h (cU.repl q r)
theorem cU.snoc {k : Key} (q : cC K CL Z d v) : ∀ {b9 : Q.X} {gs : List (Key × V)}, cU K CL Z b9 gs -> cU K CL Z (b9 ++ [(k, d)]) (gs ++ [(k, v)])
 | _, _, .nil => .cons q .nil
 | _, _, .cons h r => .cons h (cU.snoc q r)
theorem cU.put {k : Key} (q : cC K CL Z d v) (r : cU K CL Z b9 gs) : cU K CL Z (HL b9 k d) (putK gs k v) := by
 unfold HL putK
 rw [r.any]
 split
 . exact r.repl q
 . exact r.snoc q
theorem cC.key {k : Key} (r : cC K CL Z (aiL k) v) : v = kV k := by
 cases k with
 | inl i => exact r.sc rfl
 | inr x => exact r.sc rfl
theorem bZ.aiM {p : Addr} (S : Q.M) (hp : H p = none) : aT H (upd H p (.dK [])) /\ bZ K CL b (upd H p (.dK [])) Z δ σ (.vC [] :: ts) (.ref p :: vs) := by
 obtain ⟨fp, gp, e, r, nd, k⟩ := S.rep
 have zp : Z p = none := S.zh.free hp
 have sh : aT H (upd H p (.dK [])) := aT.upd hp
 have keep : ∀ a ∈ fp ++ gp, a ≠ p := fun a ha => by
   have : ∃ o, H a = some o := by
     rcases ate.mp ha with h | h
     . exact e.there a h
     . exact r.there a h
   obtain ⟨o, q⟩ := this
   exact cM q hp
 refine ⟨sh, ⟨⟨fp, [p] ++ gp, e.mono Q.j (fun a ha => aP (keep a (as9 _ ha))), .cons (.vC bR .nil) (r.mono Q.j fun a ha => aP (keep a (by simp [ha]))), ?_, fun a ha => ?_⟩, S.bh.trans sh, S.zz, S.zh.trans sh, S.new, fun a o q i => ?_, S.tab⟩⟩
 . refine (auD (l₁ := fp) (l₂ := gp) (a := p)).nodup_iff.mpr (aud.mpr ⟨fun h => keep p h rfl, nd⟩)
 . rcases atl.mp ((auD (l₁ := fp) (l₂ := gp) (a := p)).mem_iff.mp ha) with h | h
   . subst h; exact ⟨zp, S.bh.free hp⟩
   . exact k a h
 . by_cases ha : a = p
   . subst ha; rw [bR] at q; cases q; cases i
   . rw [aP ha] at q; exact S.tp a o q i
theorem bZ.aiN (k : Key) (S : bZ K CL b H Z δ σ (.sh d :: ts) (v :: vs)) (hi : δ[i]? = some (some (.vC b9))) :
   ∃ a gs, σ[i]? = some (some (.ref a)) /\ H a = some (.dK gs) /\ gs.length = b9.length /\ bZ K CL b (upd H a (.dK (putK gs k v))) Z (δ.set i (some (.vC (HL b9 k d)))) σ ts vs := by
 obtain ⟨fp, gp, e, r, nd, kk⟩ := S.rep
 obtain ⟨v0, f1, f2, f3, hv, v9, rt, put, _⟩ := e.get hi
 subst v9
 cases rt with
 | @vC a gs _ ha rs =>
   cases r with
   | @cons _ _ _ _ ft gr q1 q2 =>
     cases q1 with
     | sh q1 =>
       have ne : ∀ c ∈ (f1 ++ f3) ++ gr, c ≠ a := fun c hc e => by
         subst e
         have hp : ((f1 ++ ([c] ++ f3)) ++ ([] ++ gr)).Perm (c :: ((f1 ++ f3) ++ gr)) := by
           rw [auA, List.singleton_append]
           exact (auD.append_right _)
         exact (aud.mp (hp.nodup_iff.mp nd)).1 hc
       refine ⟨a, gs, hv, ha, rs.length.symm, ?_⟩
       have r1 : cP K CL (upd H a (.dK (putK gs k v))) Z (.vC (HL b9 k d)) (.ref a) [a] := .vC bR (rs.put q1)
       have e2 := put (H' := upd H a (.dK (putK gs k v))) Q.j (fun c hc => aP (ne c (by
         rcases ate.mp hc with h | h
         . simp [h]
         . simp [h]))) r1
       rw [iW hv] at e2
       exact S.RQ rfl kk Q.r e2 (q2.mono Q.j fun c hc => aP Q.W) nd fun c hc => hc
section
variable {d : L3.D} {D : g6} {ps : Pos} {b9 : List (Key × L3.D)} {k : Key}
theorem aem : dH X CL b (.Dict [] [] pos) δ (.vC []) δ := fun H Z σ ts vs Q S kk => dS aaJ fun p hp => by
 obtain ⟨c, S1⟩ := S.aiM hp
 exact kk _ _ Z Q.j c S1
theorem aiO (k : Key) (hu : X.A.units + 64 < cLine) (n : Vn X i x) (h : dH X CL b e δ (.sh d) δ1) (h2 : eK X CL b e2 δ1 (aiL k) δ1) (h1 : δ1[i]? = some (some (.vC b9))) (hl : b9.length <= 1000000) (kk : dY X CL b fS (δ1.set i (some (.vC (HL b9 k d)))) D)
   (hs : swapsWith e (some (.Subscript (.Name x pp) e2 ps)) pos.line X.env = pure false := by rfl) :
   dY X CL b (.Assign [.Subscript (.Name x pp) e2 ps] e pos :: fS) δ D := dh fun H Z σ ts vs E S M =>
 v8 (adT Q.a (oE n.hi n.hv n.hd n.rJ) fh fh hs) (h H Z σ ts vs _ S fun v H1 Z1 z1 k1 S1 => by
   obtain ⟨v0, e0, _⟩ := S1.look h1
   refine ⟨v0, e0, h2 H1 Z1 σ _ _ _ S1 fun v2 H2 Z2 z2 k2 S2 r2 => ?_⟩
   obtain ⟨a, gs, ea, ha, hg, S3⟩ := S2.aiN k h1
   rw [e0] at ea
   cases ea
   exact ⟨a, _, rfl, by rw [r2.key]; exact aaH.k ha (by rw [hg]; exact auX hl (by rw [aui]; decide)), M.nx _ σ _ Z2 Q.w S3 kk⟩)
theorem abb (rr : cU K CL Z b9 gs) : (zq gs k).isSome = (LR b9 k).isSome := by
 rcases rr.val (k := k) with ⟨h0, h1⟩ | ⟨d', v', h0, h1, _⟩
 . rw [h0, h1]; rfl
 . rw [h0, h1]; rfl
end
variable {w : V} {f : Str} {ZT : List Q.t}
theorem eU.aen {ft : Q.p} (rt : cP K CL H Z t v ft) : ∀ {Pu : List Q.t} {gs : List (Str × V)} {fp : Q.p}, eU K CL H Z (Pu ++ (f, .sh (.val v)) :: ZT) gs fp -> ∃ VZ, eU K CL H Z (Pu ++ (f, t) :: ZT) gs VZ /\ VZ.Perm (fp ++ ft)
 | [], _, _, r => by
   cases r with
   | @cons _ _ v' _ _ f1 gp h r =>
     cases h with
     | sh h =>
       cases h
       exact ⟨ft ++ gp, .cons rt r, atJ⟩
 | (y, u) :: Pu, _, _, r => by
   cases r with
   | @cons _ _ v' _ _ f1 gp h r =>
     obtain ⟨VZ, r', p⟩ := eU.aen rt (Pu := Pu) r
     refine ⟨f1 ++ VZ, .cons h r', ?_⟩
     rw [atc]
     exact p.append_left f1
theorem bZ.aen {Pu : List Q.t} (S : bZ K CL b H Z δ σ (.ins c (Pu ++ (f, .sh (.val v)) :: ZT) :: t :: ts) (w :: v :: vs)) : bZ K CL b H Z δ σ (.ins c (Pu ++ (f, t) :: ZT) :: ts) (w :: vs) := by
 obtain ⟨fp, gp, e, r, nd, k⟩ := S.rep
 cases r with
 | @cons _ _ _ _ g1 g2 r1 r2 =>
   cases r2 with
   | @cons _ _ _ _ g3 g4 r3 r4 =>
     cases r1 with
     | @ins a dx _ gs _ fp1 ha rf =>
       obtain ⟨VZ, rf', p⟩ := eU.aen r3 rf
       have pm : (fp ++ ((a :: VZ) ++ g4)).Perm (fp ++ ((a :: fp1) ++ (g3 ++ g4))) := by
         refine at7 fp ?_
         rw [← atc]
         refine List.Perm.append_right g4 ?_
         rw [atV]
         exact List.Perm.cons a p
       exact ⟨⟨fp, (a :: VZ) ++ g4, e, .cons (.ins ha rf') r4, pm.nodup_iff.mpr nd, fun c hc => k c (pm.mem_iff.mp hc)⟩, S.bh, S.zz, S.zh, S.new, S.tp, S.tab⟩
def PAv (X : Cx) (CL : Q.g) (b : Bx) (es : List Expr) (δ : Q.n) (dv : V -> List D) (t : T) (δ' : Q.n) : Prop :=
 ∀ (H Z : Hp) (σ : L2.St) (ts : List T) (vs : List V) (Q : List V -> Hp -> Prop), bZ X.K CL b H Z δ σ ts vs →
   (∀ us H' Z' v, aT Z Z' -> aT H H' -> bZ X.K CL b H' Z' δ' σ (t :: ts) (v :: vs) -> aX X.K CL H' (dv v) us -> Q us H') -> Lk X es σ H Q
theorem T.HM {f : Str} {v : V} {ZT : List Q.t} (h2 : T.cQ ZT = true) : ∀ {Pu : List Q.t}, T.cQ Pu = true -> T.cQ (Pu ++ (f, .sh (.val v)) :: ZT) = true
 | [], _ => by rw [auA, T.cQ, h2]; rfl
 | (x, t) :: Pu, h => by
   rw [T.cQ, ato] at h
   rw [atV, T.cQ, h.1, T.HM h2 h.2]; rfl
variable {ds : List D} {d : D} {dv : V -> List D}
theorem abd (h : Q.T) (r : BAv X CL b es δ1 ds δ2) (hs : notStar e = true := by rfl) : PAv X CL b (e :: es) δ (fun v => .val v :: ds) t δ2 := fun H Z σ ts vs Q S k =>
 J8 (dm fh VN (cE hs)) (h H Z σ ts vs _ S fun v H1 Z1 z1 k1 S1 => r H1 Z1 σ _ _ _ S1 fun us H2 Z2 z2 k2 S2 r2 => k (v :: us) H2 Z2 v Q.w Q.E S2 (.cons (.val v) r2))
theorem Pw (h : eK X CL b e δ d δ1) (r : PAv X CL b es δ1 dv t δ2) (hs : notStar e = true := by rfl) : PAv X CL b (e :: es) δ (fun v => d :: dv v) t δ2 := fun H Z σ ts vs Q S k =>
 J8 (dm fh VN (cE hs)) (h H Z σ ts vs _ S fun v H1 Z1 z1 k1 S1 r1 => r H1 Z1 σ ts vs _ S1 fun us H2 Z2 v2 z2 k2 S2 r2 => k (v :: us) H2 Z2 v2 Q.w Q.E S2 (.cons (r1.mono k2) r2))
variable {arg : A -> List D} {Pre : A -> Prop}
theorem mkP {res : A -> List Q.t} (a : V -> A) {Pu : List Q.t} (F : Fm X CL x k n arg Pre res) (hg : Gl X x) (h : PAv X CL b (e :: es) δ dv t δ1) (ha : ∀ v, arg (a v) = dv v) (hp : ∀ v, Pre (a v)) (hr : ∀ v, res (a v) = Pu ++ (f, .sh (.val v)) :: ZT) (hc : T.cQ Pu = true) (hc2 : T.cQ ZT = true) (hn : ∀ v, (arg (a v)).length + 1 = n := by exact fun _ => rfl)
   (Bo : Q.s := by decide) (he : Q.R := by exact cE rfl) (hpl : Q.ac := by rfl) :
   dH X CL b Q.aw δ (.ins x (Pu ++ (f, t) :: ZT)) δ1 := fun H Z σ ts vs Q S kk => by
 obtain ⟨f', fd, ps, M, F1, hm, hb⟩ := F.ex
 exact dS (VG M F1 F.room hg hm hb .nil OZ VN Bo he hpl) (h H Z σ ts vs _ S fun us H1 Z1 v z1 k1 S1 r y dx hx hdx ne => by
   rw [atY]
   refine ⟨H1, H1, a v, y, dx, us, rfl, hx, hdx, ne, rfl, .refl _, fun _ _ q _ => q, by rw [ha]; exact r, hn v, hp v, S1.aaM, fun H' W' fp hh ww wh nw tp rt nd own => ⟨rfl, ?_⟩⟩
   obtain ⟨Z', z', S'⟩ := S1.back hh S1.zh ww wh nw tp rt nd own (.inr (by rw [T.clean, hr]; exact T.HM hc2 hc))
   rw [hr] at S'
   exact kk _ H' Z' (z1.trans z') (k1.trans hh) S'.aen)
namespace Rv
theorem X5 : PySem.Slot "reversed" "__init__" "object.__init__" :=
 .of (owner := "object") (n := "__init__") (by rw [typeLookup_type, builtinLookup_eq_fast]; kernel_rfl) Q.d Q.d Q.d
   (by first | exact .inl Q.d | exact .inr Q.d) (by rw [isSubtype_type]; kernel_rfl)
theorem called : TypeCalled "reversed" "reversed.__new__" "object.__init__" :=
 ⟨by decide +kernel, by decide +kernel, ⟨_, _, PySem.F.mro_reversed⟩, PySem.F.made_reversed, by decide +kernel, PySem.F.sub_reversed_self, X5⟩
def obj (t : Addr) (i : Int) : Obj := { cls := .type "reversed", data := .fields #[.ref t, rawInt i] }
def Is (h : Heap) (a t : Addr) (i : Int) : Prop := ∃ o, h.get? a = some o /\ o.cls = .type "reversed" /\ o.data = .fields #[.ref t, rawInt i]
end Rv
variable {ι : Nat -> Nat}
def turned (ι : Nat -> Nat) (i j : Nat) : Nat -> Nat := fun k => if i <= k /\ k < j then ι (i + j - 1 - k) else ι k
theorem mkL (hi : X.N[i]? = some x) (h : X.env.scope.names.lookup x = some .local) (hf : X.fn x = true) (hd : Q.s := by decide) (hc : Q.ao := by decide) : Ln X i x := ⟨⟨hi, .inl h, hd, hc⟩, .inl h, .inl hf⟩
theorem mkC (hi : X.N[i]? = some x) (h : X.env.scope.names.lookup x = some .cell) (hf : X.fn x = true) (hd : Q.s := by decide) (hc : Q.ao := by decide) : Ln X i x := ⟨⟨hi, .inr (.inl h), hd, hc⟩, .inr h, .inl hf⟩
theorem alV {w : World} {f : Addr} {sp : Sp} (G : iy P w K mg base xS k f fd ps sp) (m : mg x = some (.ref f)) (q : PySem.W.keepIn K (.ref f) = true) (b : Binds K fd ps []) :
   ∃ f fd ps, iy P w K mg base xS k f fd ps sp /\ mg x = some (.ref f) /\ PySem.W.keepIn K (.ref f) = true /\ Binds K fd ps [] := ⟨_, _, _, G, m, q, b⟩
variable {px : Pos} {p : L3.D -> Bool} {g : L3.D -> T} {ds : List L3.D}
theorem alW (sc : tE X scope y Nc ix) : wm X scope [y] Nc ix := ⟨sc.kind, sc.Ls, sc.nd, sc.names, (fun x hx => by rw [atD] at hx; subst hx; exact sc.own), sc.frees, sc.hd, sc.ixs⟩
theorem alX (sc : tE X scope y Nc ix) (h : Block X CL scope Nc ifs elt δc ds p g) (h1 : (y == ("__debug__" : Str)) = false) (h2 : (y == ("__classdict__" : Str)) = false) : DX X CL scope Nc [y].length (.Name y px) part1 ifs elt δc ds p g := fun C s0 H0 f0 b' =>
 ⟨aa3 (i := 0) sc.nd (aiG (by rw [sc.hd]; rfl) sc.own h1 h2), fun d hd => ⟨[d], rfl, rfl, (h C s0 H0 f0 b' d hd).1, (h C s0 H0 f0 b' d hd).2⟩⟩
theorem rM (sc : tE X scope y Nc ix) (hc : X.calm = true) (h : TIt X CL b (.Name y px) iter δ ds δ1) (hb : Q.aW) (inner : Block X CL scope Nc ifs elt δc ds p g) (hlen : ds.length <= sizeLine)
   (hs : Q.au := by intro _; rfl) (h1 : (y == ("__debug__" : Str)) = false := by decide) (h2 : (y == ("__classdict__" : Str)) = false := by decide) : dH X CL b (.ListComp elt [⟨.Name y px, iter, ifs, 0⟩] scope pos) δ (.lst ((ds.filter p).map g)) δ1 :=
 Pn (xs := [y]) (alW sc) hc (agY h) hb (alX sc inner h1 h2) hlen hs
theorem HN {D : g6} {gg : L3.D -> T} (g : Gx X) (n : Ln X i x) (sc : tE X scope y Nc ix) (h : TIt X CL b (.Name y px) iter δ ds δ1) (hb : (δc = O5 δ1 ix /\ ∀ d ∈ ds, (gg d).clean = true) \/ δc = O6 δ1 ix) (inner : Block X CL scope Nc ifs elt δc ds p gg)
   (hlen : ds.length <= sizeLine) (k : dY X CL b fS (δ1.set i (some (.lst ((ds.filter p).map gg)))) D) (hl : i < δ1.length)
   (O4 : swapsWith (.ListComp elt [⟨.Name y px, iter, ifs, 0⟩] scope pc) (some (.Name x pos')) pos.line X.env = pure true \/ swapsWith (.ListComp elt [⟨.Name y px, iter, ifs, 0⟩] scope pc) (some (.Name x pos')) pos.line X.env = pure false) (hs : Q.au := by intro _; rfl)
   (h1 : (y == ("__debug__" : Str)) = false := by decide) (h2 : (y == ("__classdict__" : Str)) = false := by decide) : dY X CL b (.Assign [.Name x pos'] (.ListComp elt [⟨.Name y px, iter, ifs, 0⟩] scope pc) pos :: fS) δ D :=
 aiF (xs := [y]) g n (alW sc) (agY h) hb (alX sc inner h1 h2) hlen k hl O4 hs
variable {d : L3.D}
theorem aL (n : Ln X i x) (h : δ[i]? = some (some (.sh d)) := by rfl) : eK X CL b Q.C δ d δ := ai (v_ n.1 h)
structure cT (X : Cx) : Prop where
 g : Gx X
 u : X.A.units + 64 < cLine
abbrev aN (X : Cx) (CL : Q.g) (b : Bx) (st : Stmt) (N : Q.h) (l : List L3.D) (r : T) : Prop := dY X CL b (dW st) (entry N l) { nx := fun _ => r = .sh .non, rt := fun LV _ => LV = r }
abbrev aE : NameKind := .globalImplicit
abbrev aF : NameKind := .local
theorem bB {P : Q.h} {sc : Scope} (h1 : sc.kind = .function := by rfl) (h2 : sc.isCoroutine = false := by rfl) (h3 : sc.isGenerator = false := by rfl) (h4 : N.Nodup := by decide +kernel) (h5 : N.take P.length = P := by rfl) (h6 : ∀ x ∈ P, sc.names.lookup x = some .local \/ sc.names.lookup x = some .cell := by decide +kernel) (h7 : ∀ y ∈ sc.names, y.2 ≠ .free := by decide +kernel) : aZ N P sc := ⟨h1, h2, h3, h4, h5, h6, h7⟩
variable {tb : List (Str × NameKind)}
theorem b4 (c : pQ X.env.scope tb = true) (j : Nat) (hj : tb[j]? = some (x, .local) := by rfl) (hi : X.N[i]? = some x := by rfl) (hf : X.fn x = true := by rfl) (hd : Q.s := by decide) (hc : Q.ao := by decide) : Ln X i x := mkL hi (iB c j hj) hf hd hc
theorem ZU (c : pQ X.env.scope tb = true) (j : Nat) (hj : tb[j]? = some (x, .cell) := by rfl) (hi : X.N[i]? = some x := by rfl) (hf : X.fn x = true := by rfl) (hd : Q.s := by decide) (hc : Q.ao := by decide) : Ln X i x := mkC hi (iB c j hj) hf hd hc
theorem cH (c : pQ X.env.scope tb = true) (j : Nat) (hj : tb[j]? = some (x, .globalImplicit) := by rfl) : Gl X x := iB c j hj
theorem c5 {m : Nat} {arg : A -> List D} {Pre : A -> Prop} {res : A -> T} (F : ∃ f fd ps, iy X.prog X.w X.K X.mg X.base xS k f fd ps (XM X.K CL n arg Pre res) /\ X.mg x = some (.ref f) /\ PySem.W.keepIn X.K (.ref f) = true /\ Binds X.K fd ps []) (r : jH m X.A) (h : k <= m := by decide) : Fc X CL x k n arg Pre res := ⟨F, r.mono h⟩
variable {δ' : Q.n} {σ' : L2.St} {y : Addr}
theorem bZ.alY (S : Q.M) (hi : δ[i]? = some (some (.pin y t))) : σ[i]? = some (some (.ref y)) /\ bZ K CL b H Z (δ.set i (some t)) σ ts vs := by
 obtain ⟨fp, gp, e, r, nd, k⟩ := S.rep
 obtain ⟨v0, f1, f2, f3, hv, v9, rt, put, _⟩ := e.get hi
 subst v9
 cases rt with
 | pin rt =>
   have e2 := put Q.j (fun _ _ => rfl) rt
   rw [iW hv] at e2
   exact ⟨hv, ⟨⟨_, gp, e2, r, nd, k⟩, S.bh, S.zz, S.zh, S.new, S.tp, S.tab⟩⟩
def HP (H : Hp) (gp : Q.p) : Hp := fun c => if c ∈ gp then none else H c
theorem qQ {c : Addr} (h : c ∉ gp) : HP H gp c = H c := as5 h
theorem GJ {c : Addr} (h : c ∈ gp) : HP H gp c = none := atb h
theorem xV {c : Addr} {o : HO} (h : HP H gp c = some o) : c ∉ gp /\ H c = some o := by
 by_cases hc : c ∈ gp
 . rw [GJ hc] at h; cases h
 . rw [qQ hc] at h; exact ⟨hc, h⟩
theorem bZ.cut (S : bZ K CL b H Z δ σ (tl ++ ts) (us ++ vs)) (hl : tl.length = us.length) : ∃ gp, bL K CL H Z tl us gp /\ gp.Nodup /\ bZ K CL b (HP H gp) Z δ σ ts vs := by
 obtain ⟨fp, g, e, r, nd, k⟩ := S.rep
 obtain ⟨g1, g2, rfl, r1, r2⟩ := bL.split hl r
 have hp : (fp ++ (g1 ++ g2)).Perm (g1 ++ (fp ++ g2)) := by
   rw [← atc, ← atc]
   exact atJ.append_right g2
 have V8 := atR.mp (hp.nodup_iff.mp nd)
 have ne : ∀ c ∈ fp ++ g2, c ∉ g1 := fun c hc h => V8.2.2 c h c hc rfl
 have own : ∀ c ∈ g1, Z c = none /\ b.B c = none := fun c hc => k c (as7 _ (as9 _ hc))
 refine ⟨g1, r1, V8.1, ⟨⟨fp, g2, e.mono Q.j (fun c hc => qQ (ne c (as9 _ hc))), r2.mono Q.j (fun c hc => qQ (ne c (as7 _ hc))), V8.2.1, fun c hc => k c (hp.mem_iff.mpr (as7 _ hc))⟩, fun c o q => ?_, S.zz, fun c o q => ?_, S.new, fun c o q im => S.tp c o (xV q).2 im, S.tab⟩⟩
 . rw [qQ (fun h => by rw [(own c h).2] at q; cases q)]; exact S.bh c o q
 . rw [qQ (fun h => by rw [(own c h).1] at q; cases q)]; exact S.zh c o q
theorem bZ.alZ {W' : Hp} (S : Q.M) (hh : aT H H') (ww : aT Z W') (wh : aT W' H') (new : ∀ a o, W' a = some o -> Z a = none -> H a = none)
   (tp : ∀ a o, H' a = some o -> pG o = true -> W' a = some o) (r : bL K CL H' W' tl us fp) (nd : fp.Nodup) (own : ∀ a ∈ fp, W' a = none /\ H a = none) : bZ K CL b H' W' δ σ (tl ++ ts) (us ++ vs) := by
 obtain ⟨f0, g0, e0, r0, nd0, k0⟩ := S.rep
 have old : ∀ a ∈ f0 ++ g0, ∃ o, H a = some o := fun a ha => (ate.mp ha).elim (e0.there a) (r0.there a)
 have keep : ∀ a ∈ f0 ++ g0, H' a = H a := fun a ha => by
   obtain ⟨o, e⟩ := old a ha
   rw [e]; exact hh a o e
 have hp : (f0 ++ (fp ++ g0)).Perm (fp ++ (f0 ++ g0)) := by
   rw [← atc, ← atc]
   exact atJ.append_right g0
 have wn : ∀ a ∈ f0 ++ g0, W' a = none := fun a ha => by
   cases q : W' a with
   | none => rfl
   | some o =>
     obtain ⟨u, e⟩ := old a ha
     rw [new a o q (k0 a ha).1] at e; cases e
 refine ⟨⟨f0, fp ++ g0, e0.mono ww (fun a ha => keep a (as9 _ ha)), bL.app r (r0.mono ww fun a ha => keep a (as7 _ ha)), ?_, fun a ha => ?_⟩, S.bh.trans hh, S.zz.trans ww, wh, fun a o q z => ?_, tp, S.tab⟩
 . refine hp.nodup_iff.mpr (atR.mpr ⟨nd, nd0, fun a ha c hc e => ?_⟩)
   subst e
   obtain ⟨o, q⟩ := old a hc
   rw [(own a ha).2] at q; cases q
 . rcases ate.mp (hp.mem_iff.mp ha) with h | h
   . exact ⟨(own a h).1, RK S.bh (own a h).2⟩
   . exact ⟨wn a h, (k0 a h).2⟩
 . cases q2 : Z a with
   | none => exact RK S.bh (new a o q q2)
   | some u =>
     exact S.new a u q2 z
def aeo : List T -> List T -> Prop
 | [], [] => True
 | .sh d :: l, .sh e :: m => d = e /\ aeo l m
 | .pin x _ :: l, .pin z _ :: m => x = z /\ aeo l m
 | _, _ => False
def Keeps (δ : Q.n) (ol : List T) : Prop := ∀ (j : Nat) (y : Addr) (t : T), ol[j]? = some (T.pin y t) -> δ[j]? = some (some (T.pin y t))
theorem Keeps.tail {o : Option T} {d : T} {ol : List T} (k : Keeps (o :: δ) (d :: ol)) : Keeps δ ol := fun j y t h => k (j + 1) y t h
theorem fQ.outs {W W' : Hp} (ww : aT W W') : ∀ {al ol : List T} {vs : List V} {g0 : Q.p} {δ : Q.n} {σ : L2.St} {fp : Q.p}, aeo al ol -> bL K CL H W al vs g0 -> fQ K CL H' W' δ σ fp -> Keeps δ ol -> ∃ g, bL K CL H' W' ol vs g /\ g.Sublist fp
 | [], [], _, _, _, _, fp, _, .nil, _, _ => ⟨[], .nil, List.nil_sublist _⟩
 | .sh d :: al, .sh e :: ol, _, _, δ, σ, fp, ho, .cons (.sh r) rs, re, k => by
   obtain ⟨h1, h2⟩ := ho
   subst h1
   cases re with
   | nil =>
     obtain ⟨g, q, s⟩ := fQ.outs ww h2 rs (.nil (H := H') (Z := W')) (fun j y t h => by have := k (j + 1) y t h; simp at this)
     exact ⟨[] ++ g, .cons (.sh (r.mono ww)) q, s⟩
   | skip re =>
     obtain ⟨g, q, s⟩ := fQ.outs ww h2 rs re k.tail
     exact ⟨[] ++ g, .cons (.sh (r.mono ww)) q, s⟩
   | cons rt re =>
     obtain ⟨g, q, s⟩ := fQ.outs ww h2 rs re k.tail
     exact ⟨[] ++ g, .cons (.sh (r.mono ww)) q, s.trans (auh _ _)⟩
 | .pin x t0 :: al, .pin z t :: ol, _, _, δ, σ, fp, ho, .cons (.pin r) rs, re, k => by
   obtain ⟨h1, h2⟩ := ho
   subst h1
   have h0 := k 0 x t rfl
   cases re with
   | nil => simp at h0
   | skip re => simp at h0
   | cons rt re =>
     simp at h0
     subst h0
     obtain ⟨g, q, s⟩ := fQ.outs ww h2 rs re k.tail
     cases rt with
     | pin rt => exact ⟨_, .cons (.pin rt) q, atO (atQ _) s⟩
def wo (N : Q.h) (al : List T) : List (Option T) := al.map some ++ List.replicate (N.length - al.length) none
theorem FP : ∀ {al : List T} {vs : List V} {gp : Q.p} (n : Nat), bL K CL H Z al vs gp -> fQ K CL H Z (al.map some ++ List.replicate n none) (vs.map some ++ List.replicate n none) gp
 | _, _, _, n, .nil => oF (ds := []) (vs := []) n .nil
 | _, _, _, n, .cons r t => .cons r (FP n t)
def spM (K : Q.l) (CL : Q.g) (n : Nat) (arg : A -> List T) (Pre : A -> Prop) (res : A -> T) (out : A -> List T) : Sp := fun vs H Q _ =>
 ∃ (W : Hp) (a : A) (gp : Q.p), aT W (HP H gp) /\ (∀ c o, H c = some o -> pG o = true -> W c = some o) /\ bL K CL H W (arg a) vs gp /\ gp.Nodup /\ (arg a).length = n /\ Pre a /\ pT CL W ∧
   ∀ v H' W' fp, aT (HP H gp) H' -> aT W W' -> aT W' H' -> (∀ c o, W' c = some o -> W c = none -> HP H gp c = none) -> (∀ c o, H' c = some o -> pG o = true -> W' c = some o) →
     bL K CL H' W' (res a :: out a) (v :: vs) fp -> fp.Nodup -> (∀ c ∈ fp, W' c = none /\ HP H gp c = none) -> Q v H'
theorem D0 {w : World} {qual : Str} {f : Addr} {arg : A -> List T} {Pre : A -> Prop} {res : A -> T} {out : A -> List T} (F : ow K x qual st f fd) (S : aZ N ps (az st)) (ho : ∀ a, Pre a -> aeo (arg a) (out a))
   (hb : ∀ (lC : Value) (Ar : Around) (outer : List Env) (s : Shared) (H : Hp) (E : XK) (b : Bx) (a : A), jH k Q.aY -> Pre a →
     dY (DR xS P w K mg base N qual (az st) f lC Ar outer s H E).nox CL b (dW st) (wo N (arg a)) { nx := fun δ => res a = .sh .non /\ Keeps δ (out a), rt := fun t δ => t = res a /\ Keeps δ (out a) }) :
   iy P w K mg base xS (k + 1) f fd ps (spM K CL ps.length arg Pre res out) := by
 refine F.ok S (fun vs H Q E h => ?_) (fun lC Ar outer s H vs Q E hr h => ?_)
 . obtain ⟨W, a, gp, _, _, r, _, hl, _⟩ := h
   rw [← r.length]; exact hl
 . obtain ⟨W, a, gp, wh, tp, r, nd, hl, hp, tb, kk⟩ := h
   have wn : ∀ c ∈ gp, W c = none := fun c hc => by
     cases q : W c with
     | none => rfl
     | some o => exact absurd hc (xV (wh c o q)).1
   refine ⟨_, XH, hb lC Ar outer s H E ⟨HP H gp, W⟩ a hr hp H W _ [] [] _ ⟨⟨gp, [], ?_, .nil, by rw [atY]; exact nd, fun c hc => ?_⟩, fun c o q => (xV q).2, .refl _, fun c o q => (xV (wh c o q)).2, fun c o q z => ?_, tp, tb⟩ ⟨fun δ' σ' H' Z' s' S' e => ?_, fun t v H' Z' δ' σ' s' S' e => ?_, fun _ _ _ _ _ _ e => e.elim, fun _ _ _ _ _ _ e => e.elim⟩⟩
   . unfold wo L2.start
     rw [← r.length]
     exact FP _ r
   . rw [atY] at hc
     exact ⟨wn c hc, GJ hc⟩
   . have q' : W c = some o := q
     have z' : W c = none := z
     rw [q'] at z'; cases z'
   . obtain ⟨e1, e2⟩ := e
     obtain ⟨fp, gq, re, r', V8, own⟩ := S'.rep
     obtain ⟨g, q, sb⟩ := fQ.outs S'.zz (ho a hp) r re e2
     have nf := (atR.mp V8).1
     exact kk .non H' Z' ([] ++ g) S'.bh S'.zz S'.zh S'.new S'.tp (.cons (by rw [e1]; exact .sh .non) q) (nf.sublist sb) fun c hc => own c (as9 _ (sb.subset hc))
   . obtain ⟨e1, e2⟩ := e
     subst e1
     obtain ⟨fp, gq, re, r', V8, own⟩ := S'.rep
     obtain ⟨g, q, sb⟩ := fQ.outs S'.zz (ho a hp) r re e2
     cases r' with
     | @cons _ _ _ _ f1 f2 r1 r2 =>
       have sub : (g ++ f1).Sublist (fp ++ (f1 ++ f2)) := atO sb (List.sublist_append_left _ _)
       have pm : (f1 ++ g).Perm (g ++ f1) := atJ
       exact kk v H' Z' (f1 ++ g) S'.bh S'.zz S'.zh S'.new S'.tp (.cons r1 q) (pm.nodup_iff.mpr (V8.sublist sub)) fun c hc => own c (sub.subset (pm.mem_iff.mp hc))
def AtS (σ : L2.St) : List Nat -> List Addr -> Prop
 | [], [] => True
 | i :: is, y :: ys => σ[i]? = some (some (.ref y)) /\ AtS σ is ys
 | _, _ => False
def za : List T -> List Addr -> List T -> Prop
 | [], [], [] => True
 | .sh _ :: ol, ys, ns => za ol ys ns
 | .pin y t :: ol, z :: ys, n :: ns => y = z /\ (n = t \/ n = .pin y t) /\ za ol ys ns
 | _, _, _ => False
def aeq : List (Option T) -> List Nat -> List T -> List (Option T)
 | δ, i :: is, n :: ns => aeq (δ.set i (some n)) is ns
 | δ, _, _ => δ
theorem bZ.aiP : ∀ {ol : List T} {us : List V} {is : List Nat} {ys : Q.p} {ns : List T} {δ : Q.n}, bZ K CL b H Z δ σ (ol ++ ts) (us ++ vs) -> ol.length = us.length -> AtS σ is ys -> za ol ys ns -> (∀ i ∈ is, i < δ.length) -> bZ K CL b H Z (aeq δ is ns) σ ts vs
 | [], [], [], [], [], δ, S, _, _, _, _ => S
 | [], [], _ :: _, [], _, δ, S, _, ha, _, _ => ha.elim
 | [], [], _ :: _, _ :: _, _, δ, S, _, _, hp, _ => by simp [za] at hp
 | .pin _ _ :: _, _ :: _, [], _ :: _, _, δ, S, _, ha, _, _ => ha.elim
 | .pin _ _ :: _, _ :: _, [], [], _, δ, S, _, _, hp, _ => by simp [za] at hp
 | .sh d :: ol, u :: us, is, ys, ns, δ, S, hl, ha, hp, hi => bZ.aiP (ol := ol) (us := us) (ys := ys) S.pop (by simpa using hl) ha (by rw [za] at hp; exact hp) hi
 | .pin y t :: ol, u :: us, i :: is, z :: ys, n :: ns, δ, S, hl, ha, hp, hi => by
   rw [za] at hp
   obtain ⟨rfl, hn, hp⟩ := hp
   obtain ⟨ha0, ha⟩ := ha
   have hu : u = .ref y := by
     obtain ⟨_, _, _, r, _, _⟩ := S.rep
     cases r with
     | cons r _ => cases r; rfl
   subst hu
   have hi0 := hi i ati
   have S1 := S.set hi0
   rw [iW ha0] at S1
   have S2 : bZ K CL b H Z (δ.set i (some n)) σ (ol ++ ts) (us ++ vs) := by
     rcases hn with rfl | rfl
     . have := (S1.alY (auu hi0)).2
       rwa [List.set_set] at this
     . exact S1
   rw [aeq]
   exact bZ.aiP S2 (by simpa using hl) ha hp fun j hj => by rw [List.length_set]; exact hi j (List.mem_cons_of_mem _ hj)
section
variable {D : g6} {is : List Nat} {fx : List Addr -> Prop} {al : List Addr -> List T}
def TEm (X : Cx) (CL : Q.g) (b : Bx) (e : Expr) (δ : Q.n) (t : T) (δ' : Q.n) : Prop :=
 ∀ (H Z : Hp) (σ : L2.St) (ts : List T) (vs : List V) (Q : VK), bZ X.K CL b H Z δ σ ts vs -> (∀ v H' Z', aT Z Z' -> bZ X.K CL b H' Z' δ' σ (t :: ts) (v :: vs) -> Q v H') -> Lj X e σ H Q
theorem abe (h : TEm X CL b e δ t δ1) (k : D.nx δ1) (hs : swapsWith e none pos.line X.env = pure false := by rfl) : TSv X CL b (.Expr e pos) δ D := fun H Z σ ts vs E S M => v8 (Bk fh hs) (h H Z σ ts vs _ S fun v H1 Z1 z1 S1 => M.nx δ1 σ H1 Z1 z1 S1.pop k)
def TMv (X : Cx) (CL : Q.g) (b : Bx) (es : List Expr) (δ : Q.n) (is : List Nat) (fx : List Addr -> Prop) (al : List Addr -> List T) (δ' : Q.n) : Prop :=
 ∀ (H Z : Hp) (σ : L2.St) (ts : List T) (vs : List V) (Q : List V -> Hp -> Prop), bZ X.K CL b H Z δ σ ts vs →
   (∀ ys us H' Z', ys.length = is.length -> AtS σ is ys -> fx ys -> us.length = (al ys).length -> aT Z Z' -> aT H H' -> bZ X.K CL b H' Z' δ' σ ((al ys).reverse ++ ts) (us.reverse ++ vs) -> Q us H') -> Lk X es σ H Q
theorem D3 : TMv X CL b [] δ [] (fun _ => True) (fun _ => []) δ := fun H Z σ ts vs Q S k => J8 iA (k [] [] H Z rfl trivial trivial rfl Q.j Q.j S)
theorem HQ (h1 : dH X CL b e δ (.sh d) δ1) (h2 : TMv X CL b es δ1 is fx al δ2) (hs : Q.R := by exact cE rfl) : TMv X CL b (e :: es) δ is fx (fun ys => .sh d :: al ys) δ2 := fun H Z σ ts vs Q S k =>
 J8 (dm fh VN hs) (h1 H Z σ ts vs _ S fun v H1 Z1 z1 k1 S1 => h2 H1 Z1 σ _ _ _ S1 fun ys us H2 Z2 hy ha hf hl z2 k2 S2 => k ys (v :: us) H2 Z2 hy ha hf (by simp [hl]) Q.w Q.E (by
   rw [aue, aue, atc, atc]
   exact S2))
def T.isRef : T -> Bool
 | .lst _ => true
 | .ins _ _ => true
 | .vC _ => true
 | .dct _ => true
 | _ => false
theorem bZ.aiQ (S : Q.al) (h : t.isRef = true) : ∃ y, v = .ref y /\ bZ K CL b H Z δ σ (.pin y t :: ts) (.ref y :: vs) := by
 obtain ⟨fp, gp, e, r, nd, k⟩ := S.rep
 cases r with
 | cons r rs =>
   cases r with
   | sh r => cases h
   | tup r _ => cases h
   | pin r => cases h
   | lst r q => exact ⟨_, rfl, ⟨⟨fp, _, e, .cons (.pin (.lst r q)) rs, nd, k⟩, S.bh, S.zz, S.zh, S.new, S.tp, S.tab⟩⟩
   | ins r q => exact ⟨_, rfl, ⟨⟨fp, _, e, .cons (.pin (.ins r q)) rs, nd, k⟩, S.bh, S.zz, S.zh, S.new, S.tp, S.tab⟩⟩
   | vC r q => exact ⟨_, rfl, ⟨⟨fp, _, e, .cons (.pin (.vC r q)) rs, nd, k⟩, S.bh, S.zz, S.zh, S.new, S.tp, S.tab⟩⟩
   | dct r q => exact ⟨_, rfl, ⟨⟨fp, _, e, .cons (.pin (.dct r q)) rs, nd, k⟩, S.bh, S.zz, S.zh, S.new, S.tp, S.tab⟩⟩
theorem al1 (n : Vn X i x) (h : δ[i]? = some (some t)) (ho : t.isRef = true) (h2 : TMv X CL b es (δ.set i none) is fx al δ2) (hs : starEach (.Name x pos :: es) X.env = (false, eval Q.C X.env) :: starEach es X.env := by exact cE rfl) :
   TMv X CL b (.Name x pos :: es) δ (i :: is) (fun ys => fx ys.tail) (fun ys => .pin (ys.headD 0) t :: al ys.tail) δ2 := fun H Z σ ts vs Q S k => by
 obtain ⟨v, e, S1⟩ := S.move h
 obtain ⟨y, rfl, S0⟩ := S1.aiQ ho
 exact J8 (dm (oE n.hi n.hv n.hd n.rJ) VN hs) ⟨_, e, h2 H Z σ _ _ _ S0 fun ys us H2 Z2 hy ha hf hl z2 k2 S2 => k (y :: ys) (.ref y :: us) H2 Z2 (by simp [hy]) ⟨e, ha⟩ hf (by simp [hl]) z2 k2 (by
   show bZ _ _ _ _ _ _ _ ((T.pin y t :: al ys).reverse ++ ts) _
   rw [aue, aue, atc, atc]
   exact S2)⟩
theorem Px (n : Vn X i x) (h : δ[i]? = some (some (.pin y t))) (h2 : TMv X CL b es (δ.set i none) is fx al δ2) (hs : starEach (.Name x pos :: es) X.env = (false, eval Q.C X.env) :: starEach es X.env := by exact cE rfl) :
   TMv X CL b (.Name x pos :: es) δ (i :: is) (fun ys => ys.headD 0 = y /\ fx ys.tail) (fun ys => .pin y t :: al ys.tail) δ2 := fun H Z σ ts vs Q S k => by
 obtain ⟨v, e, S1⟩ := S.move h
 have hv : v = .ref y := by
   obtain ⟨_, _, _, r, _, _⟩ := S1.rep
   cases r with
   | cons r _ => cases r; rfl
 subst hv
 exact J8 (dm (oE n.hi n.hv n.hd n.rJ) VN hs) ⟨_, e, h2 H Z σ _ _ _ S1 fun ys us H2 Z2 hy ha hf hl z2 k2 S2 => k (y :: ys) (.ref y :: us) H2 Z2 (by simp [hy]) ⟨e, ha⟩ ⟨rfl, hf⟩ (by simp [hl]) z2 k2 (by
   show bZ _ _ _ _ _ _ _ ((T.pin y t :: al ys).reverse ++ ts) _
   rw [aue, aue, atc, atc]
   exact S2)⟩
theorem abf {f : Addr} {arg : A -> List T} {Pre : A -> Prop} {res : A -> T} {out : A -> List T} (a : List Addr -> A) (ns : List T) (F : iy X.prog X.w X.K X.mg X.base xS k f fd ps (spM X.K CL n arg Pre res out)) (hr : jH k X.A) (hm : X.mg x = some (.ref f)) (hk : PySem.W.keepIn X.K (.ref f) = true) (hb : Binds X.K fd ps [])
   (h : TMv X CL b (e :: es) δ is fx al δ1) (ha : ∀ ys, ys.length = is.length -> fx ys -> arg (a ys) = al ys /\ (arg (a ys)).length = n /\ Pre (a ys) /\ res (a ys) = t /\ za (out (a ys)) ys ns) (hil : ∀ i ∈ is, i < δ1.length) (hg : Gl X x)
   (Bo : Q.s := by decide) (he : Q.R := by exact cE rfl) (hpl : Q.ac := by rfl) :
   TEm X CL b Q.aw δ t (aeq δ1 is ns) := fun H Z σ ts vs Q S kk =>
 dS (VF F hr hg hm hk hb .nil OZ VN Bo he hpl) (h H Z σ ts vs _ S fun ys us H1 Z1 hly hat hf hlu z1 k1 S1 => by
   rw [atY]
   obtain ⟨ha1, ha2, hp, hrs, hpu⟩ := ha ys hly hf
   obtain ⟨g, r, nd, S2⟩ := S1.cut (by simp [hlu])
   obtain ⟨g', r', pm⟩ := r.rev
   have ec : HP H1 g = HP H1 g' := funext fun c => by
     by_cases hc : c ∈ g
     . rw [GJ hc, GJ (pm.mem_iff.mpr hc)]
     . rw [qQ hc, qQ (fun z => hc (pm.mem_iff.mp z))]
   rw [ec] at S2
   rw [← ha1] at r'
   refine ⟨Z1, a ys, g', S2.zh, S1.tp, r', pm.nodup_iff.mpr nd, ha2, hp, S1.aic, fun v H' W' fp hh ww wh nw tp rt V8 own => ?_⟩
   cases rt with
   | @cons _ _ _ _ f1 f2 q1 q2 =>
     have pm2 : (f2 ++ (f1 ++ [])).Perm (f1 ++ f2) := by rw [atY]; exact atJ
     have S3 := S2.alZ hh ww wh nw tp (bL.app q2 (.cons q1 .nil)) (pm2.nodup_iff.mpr V8) fun c hc => own c (pm2.mem_iff.mp hc)
     rw [atc, atc] at S3
     have S4 := S3.aiP q2.length hat hpu hil
     rw [hrs] at S4
     exact kk v H' W' (z1.trans ww) S4)
structure FcM (X : Cx) (CL : Q.g) (x : Str) (k n : Nat) {A : Type} (arg : A -> List T) (Pre : A -> Prop) (res : A -> T) (out : A -> List T) : Prop where
 ex : ∃ f fd ps, iy X.prog X.w X.K X.mg X.base xS k f fd ps (spM X.K CL n arg Pre res out) /\ X.mg x = some (.ref f) /\ PySem.W.keepIn X.K (.ref f) = true /\ Binds X.K fd ps []
 room : jH k X.A
theorem cM1 {arg : A -> List T} {Pre : A -> Prop} {res : A -> T} {out : A -> List T} (a : Addr -> A) (nt : T) (F : FcM X CL x k n arg Pre res out) (hg : Gl X x) (h : TMv X CL b (e :: es) δ [i] fx al δ1) (hp : ∀ y, fx [y] -> Pre (a y)) (aiS : ∀ y, fx [y] -> res (a y) = t) (aiT : ∀ y, fx [y] -> za (out (a y)) [y] [nt])
   (aiU : ∀ y, fx [y] -> arg (a y) = al [y] := by intros; rfl) (hlen : ∀ y, (arg (a y)).length = n := by intros; rfl) (hil : i < δ1.length := by exact atf rfl)
   (Bo : Q.s := by decide) (he : Q.R := by exact cE rfl) (hpl : Q.ac := by rfl) :
   TEm X CL b Q.aw δ t (δ1.set i (some nt)) := by
 obtain ⟨⟨f, fd, ps, G, m, q, bd⟩, r⟩ := F
 exact abf (fun ys => a (ys.headD 0)) [nt] G r m q bd h (fun ys hl hf => match ys, hl, hf with | [y], _, hf => ⟨aiU y hf, hlen y, hp y hf, aiS y hf, aiT y hf⟩) (fun j hj => by cases atD.mp hj; exact hil) hg Bo he hpl
theorem xW (h : TEm X CL b e δ t δ1) (k : dY X CL b fS δ1 D) (hs : swapsWith e none pos.line X.env = pure false := by rfl) : dY X CL b (.Expr e pos :: fS) δ D := dh (abe h k hs)
end
theorem X6 : bootBuiltins "set" = some (.type "set") := Q.f
variable {e3 : Expr}
theorem ag4 {op op' : CmpOp} {f g : Int -> Int -> Bool} {i j k : Int} (ho : vY X (compareOp op) (rI0 fun i j => .bl (f i j))) (J4 : vY X (compareOp op') (rI0 fun i j => .bl (g i j))) (h1 : Q.ae) (h2 : Q.ai) (h3 : eK X CL b e3 δ2 (.int k) δ2) (hm : lastMarks [op, op'] [e2, e3] = false) :
   xT X CL b (.Compare e1 [op, op'] [e2, e3] pos) δ (f i j && g j k) δ2 /\ dH X CL b (.Compare e1 [op, op'] [e2, e3] pos) δ (.sh (.bl (f i j && g j k))) δ2 := by
 constructor
 . intro H Z σ ts vs Q S q
   refine J7 (aas ho J4 fh fh fh hm) (h1 H Z σ ts vs _ S fun v1 H1 Z1 z1 k1 S1 r1 => h2 H1 Z1 σ ts vs _ S1 fun v2 H2 Z2 z2 k2 S2 r2 => ?_)
   rw [r1.sc rfl, r2.sc rfl]
   refine ⟨i, j, rfl, rfl, f i j, rfl, ?_⟩
   cases hf : f i j with
   | false => exact ite_ff ⟨false, rfl, by rw [hf] at q; exact q H2 Z2 Q.w Q.E S2⟩
   | true =>
     refine ite_tt (h3 H2 Z2 σ ts vs _ S2 fun v3 H3 Z3 z3 k3 S3 r3 => ?_)
     rw [r3.sc rfl]
     exact ⟨j, k, rfl, rfl, g j k, rfl, by rw [hf] at q; exact q H3 Z3 ((z1.trans z2).trans z3) ((k1.trans k2).trans k3) S3⟩
 . intro H Z σ ts vs Q S q
   refine dS (aar ho J4 fh fh fh hm) (h1 H Z σ ts vs _ S fun v1 H1 Z1 z1 k1 S1 r1 => h2 H1 Z1 σ ts vs _ S1 fun v2 H2 Z2 z2 k2 S2 r2 => ?_)
   rw [r1.sc rfl, r2.sc rfl]
   refine ⟨i, j, rfl, rfl, f i j, rfl, ?_⟩
   cases hf : f i j with
   | false => exact ite_ff (by rw [hf] at q; exact q _ H2 Z2 Q.w Q.E (S2.push (.bl _)))
   | true =>
     refine ite_tt (h3 H2 Z2 σ ts vs _ S2 fun v3 H3 Z3 z3 k3 S3 r3 => ?_)
     rw [r3.sc rfl]
     exact ⟨j, k, rfl, rfl, by rw [hf] at q; exact q _ H3 Z3 ((z1.trans z2).trans z3) ((k1.trans k2).trans k3) (S3.push (.bl _))⟩
theorem aiV (h : eK X CL b e1 δ .non δ1) : xT X CL b (.Compare e1 [.Is] [.Constant .none kj p2] pos) δ true δ1 /\ dH X CL b (.Compare e1 [.Is] [.Constant .none kj p2] pos) δ (.sh (.bl true)) δ1 := by
 constructor
 . exact fun H Z σ ts vs Q S k => J7 (ahw (Rq fh)) (h H Z σ ts vs _ S fun v H1 Z1 z1 k1 S1 r => by
     cases r
     exact ⟨_, rfl, by simpa using k H1 Z1 z1 k1 S1⟩)
 . exact fun H Z σ ts vs Q S k => dS (Rr (Rq fh)) (h H Z σ ts vs _ S fun v H1 Z1 z1 k1 S1 r => by
     cases r
     exact by simpa using k _ H1 Z1 z1 k1 (S1.push (.bl true)))
def rN (ns : Q.h) (i : Nat) (q : Str) : Bool := decide (q ∈ ns.take i)
def abg (prog : Program) (w : World) (a : Addr) (n : Nat) (h : Heap) : Prop := ∃ S, h.SetOf (strKind prog w) a S n
theorem LW : vA X (.builtin "len") (fun xs H Q => ∃ (p : Addr) (n : Nat), xs = [.ref p] /\ H p = some (.ext (abg X.prog X.w p n)) /\ n <= 1000 /\ Q (.int n) H) := by
 intro pins s σ H xs us Q I r h
 obtain ⟨p, n, rfl, hp, hn, q⟩ := h
 obtain ⟨u, rfl, ru⟩ := vals1 r
 cases ru
 obtain ⟨⟨S, o, es, ep, t, e, ex, ed, _, _, _, hf, en⟩, _, _⟩ := I.gS p _ hp
 exact call_len_set e ex ed hf (by rw [en]; omega) ⟨.int n, H, I.tok _, ⟨s.toks + 1, by rw [en]⟩, q⟩
theorem X7 (h : aX K CL Z (l.map D.str) us) : us = l.map V.str := by
 refine aX.ind (P := fun ds us => ∀ l : List Str, ds = l.map D.str -> us = l.map V.str) ?_ ?_ h l rfl
 . intro l e
   cases l with
   | nil => rfl
   | cons _ _ => cases e
 . intro d ds v vs r _ ih l e
   cases l with
   | nil => cases e
   | cons x l =>
     obtain ⟨e1, e2⟩ := List.cons.inj e
     subst e1
     cases r
     rw [ih l e2]
     rfl
variable {b9 : Q.X}
theorem aiW (k : Key) (hu : X.A.units + 64 < cLine) (h1 : eK X CL b e1 δ (aiL k) δ1) (h2 : eK X CL b e2 δ1 (.vC b9) δ2) (hm : behindInMarks .In e2 = false) :
   dH X CL b (.Compare e1 [.In] [e2] pos) δ (.sh (.bl (LR b9 k).isSome)) δ2 := fun H Z σ ts vs Q S kk =>
 dS (Rr (ah9 Q.a fh fh) hm) (h1 H Z σ ts vs _ S fun v H1 Z1 z1 k1 S1 r1 => h2 H1 Z1 σ ts vs _ S1 fun v2 H2 Z2 z2 k2 S2 r2 => by
   cases r2 with
   | @vC a gs _ ha rr =>
     refine ⟨a, zq gs k, rfl, by rw [r1.key]; exact aaG.k ha, ?_⟩
     rw [abb rr]
     exact kk _ H2 Z2 Q.w Q.E (S2.push (.bl _)))
theorem abh : vY X (binaryOp .FloorDiv) (rI (fun _ j => 0 < j /\ j.natAbs.log2 < 9000) fun i j => .int (i / j)) := opI fun i j _ _ _ _ _ hc q => by
 have h1 : (0 : Int) < j := hc.1
 exact floordiv_int Q.a (by rw [Int.fdiv_eq_ediv_of_nonneg i Q.a]; exact q) (.inl (PyProof.noPylong_of_log2 hc.2))
theorem abi {i j : Int} (h1 : Q.ae) (h2 : Q.ai) (c : 0 < j /\ j.natAbs.log2 < 9000) : dH X CL b (.BinOp e1 .FloorDiv e2 pos) δ (.sh (.int (i / j))) δ2 := wc abh h1 h2 rfl rfl rfl fun _ _ q => ⟨i, j, rfl, rfl, c, q⟩
end L3
namespace L2
open PySem PySem.Spec PyProof.Rows
abbrev uo : List Value := [.type "ValueError", .type "Exception", .type "BaseException", .type "object"]
def jq (fr : List Env) (h h' : Heap) : Prop := ∀ b ∈ vW fr, ∀ o, h.get? b = some o -> ∃ sl, h'.get? b = some { o with slots := sl }
def CX8 (P : Program) (w : World) : ZR := fun outer H s E ev s' => ∃ (e C : Addr) (a0 : Value) (B : Heap) (H' : Hp), ev = .ref e /\ s'.os = s.os /\ AllBare s'.gens /\ Heap.FlyingW B outer e (.ref C) a0 s'.heap /\ xN P w H' B ∧
 (∀ h, B.StaysIn h -> jq outer s.heap h -> Un (vW outer) [] H H' s.heap h) /\ jq outer s.heap s'.heap /\ E (.ref C) none H'
def XE (X : Cx) (W : XK) : Value -> Shared -> Prop := fun ev s' => ∃ (e C : Addr) (pins : Q.o) (σ : St) (H : Hp) (s : Shared), ev = .ref e /\ Inv X pins σ H s /\ W (.ref C) none H /\ s'.os = s.os /\ AllBare s'.gens ∧
 (Heap.MadeExcOf s.heap s'.heap e (.ref C) [] \/ ∃ a0, Heap.HeldW (PySem.W.hideAll s.heap (vW X.stack)) X.stack e (.ref C) a0 X.env.locals s'.heap /\ jq X.stack s.heap s'.heap)
section
variable {X : Cx} {pins : Q.o} {σ : St} {H : Hp} {s : Shared}
theorem jq.up {fr : List Env} {h h1 h2 base : Heap} (a : jq fr h h1) (f : h1.FunFrames base fr) (u : h1.UpToSlots h2) : jq fr h h2 := fun b hb o ho => by
 obtain ⟨sl, e⟩ := a b hb o ho
 obtain ⟨_, o', J4, hd⟩ := f.mem hb
 rw [e] at J4
 cases J4
 obtain ⟨sl2, e2⟩ := u b _ e hd
 exact ⟨sl2, e2⟩
theorem Inv.abj (I : Q.m) : xN X.prog X.w H (PySem.W.hideAll s.heap (vW X.stack)) := fun a o e => by
 refine (I.gS a o e).J3 (fun b u hb q => auB _ q fun hm => ?_) (fun b q => q) (fun b xs q => q)
 have hn := I.La b hm
 rcases hb with rfl | hb
 . rw [e] at hn; cases hn
 . rw [hb] at hn; cases hn
theorem Inv.abk (I : Q.m) : s.heap.FunFrames (PySem.W.hideAll s.heap (vW X.stack)) X.stack := PySem.W.funFrames_hide I.stack fun env he a ha => List.mem_filterMap.mpr ⟨env, he, ha⟩
theorem Inv.abl (I : Q.m) (vX : X.stack = X.env :: X.outer) (Ow : X.env.frame = some X.env.locals) (hex : X.ex = []) (h : Heap) (st : (PySem.W.hideAll s.heap (vW X.stack)).StaysIn h) (fr : jq X.outer X.s₀.heap h) : Un (vW X.outer) [] X.H₀ H X.s₀.heap h := by
 have u := I.base
 rw [hex] at u
 have out : ∀ b o, X.s₀.heap.get? b = some o -> b ∉ vW X.outer -> b ∉ vW X.stack := fun b o hb hn hm => by
   rw [vX] at hm
   unfold vW at hm
   rw [aum, Ow] at hm
   rcases atl.mp hm with z | z
   . have h1 := atA hb
     have h2 := I.ok.above
     rw [← z] at h2
     exact absurd h1 (Nat.not_lt.mpr h2)
   . exact hn z
 refine ⟨fun b o hb hH hf hx => ?_, fun b o hb hH hf hx => fr b hf o hb, u.free, fun b o hb hx => ?_, u.F2, u.lB, u.F3⟩
 . exact st b o (auB _ (u.keep b o hb hH hf hx) (out b o hb hf))
 . obtain ⟨o', J4⟩ := u.there b o hb hx
   by_cases hf : b ∈ vW X.outer
   . obtain ⟨sl, e⟩ := fr b hf o hb
     exact ⟨_, e⟩
   . exact ⟨o', st b o' (auB _ J4 (out b o hb hf))⟩
theorem Inv.Py (I : Q.m) (hex : X.ex = []) : jq X.outer X.s₀.heap s.heap := fun b hb o ho => I.base.slot b o ho (I.ok.frf b hb) hb (by rw [hex]; exact att)
theorem aiX {W : XK} {ev : Value} {s' : Shared} {E' : Q.v} (vX : X.stack = X.env :: X.outer) (Ow : X.env.frame = some X.env.locals) (hex : X.ex = []) (h : XE X W ev s') :
   wpAny Q.k X.A (leaving X.env ev) (fun _ s'' => CX8 X.prog X.w X.outer X.H₀ X.s₀ W ev s'') E' s' := by
 obtain ⟨e, C, pins, σ, H, s, rfl, I, hw, ho, hg, hm⟩ := h
 have hfr : X.A.frames = some (X.env :: X.outer) := by rw [I.ok.frames, vX]
 have abm := I.abk
 have hos : s'.os = X.s₀.os := ho.trans I.os
 rw [vX] at abm
 have sub : ∀ b, b ∈ vW X.outer -> b ∈ vW X.stack := fun b hb => by
   rw [vX]
   unfold vW at hb ⊢
   rw [aum, Ow]
   exact atk _ hb
 rcases hm with hm | ⟨a0, hm, hs⟩
 . refine wpAny_leaves_madeW (base := PySem.W.hideAll s.heap (vW X.stack)) hfr Ow (fun b o q => avf _ q) (by rw [vX]; exact abm) hm fun h' t x1 x2 x3 x4 => ?_
   refine ⟨e, C, .ref t, _, H, rfl, hos, hg, x1, I.abj, I.abl vX Ow hex, ?_, hw⟩
   have f1 : jq X.outer X.s₀.heap s'.heap := fun b hb o hq => by
     obtain ⟨sl, q⟩ := I.Py hex b hb o hq
     exact ⟨sl, hm.keeps _ _ q⟩
   have f2 : s'.heap.FunFrames X.base X.outer := (show s.heap.FunFrames X.base X.outer from I.zo).of_keeps fun b o hb _ => ⟨o, hm.keeps b o hb, rfl⟩
   exact f1.up f2 x4
 . rw [vX] at hm
   unfold leaving
   refine aty (wpAny_noteFrame_againW Ow hm.2.2.2 ?_)
   refine wpAny_landsW hm fun h' hfl hu => ?_
   obtain ⟨k1, k2, ⟨_, _, k3⟩, k4⟩ := hfl
   refine ⟨e, C, a0, _, H, rfl, hos, hg, ⟨k1, k2, k3, k4⟩, ?_, ?_, ?_, hw⟩
   . rw [← vX]; exact I.abj
   . intro h st fr
     rw [← vX] at st
     exact I.abl vX Ow hex h st fr
   . have f1 : jq X.outer X.s₀.heap s'.heap := fun b hb o hq => by
       obtain ⟨sl, q⟩ := I.Py hex b hb o hq
       obtain ⟨sl2, q2⟩ := hs b (sub b hb) _ q
       exact ⟨sl2, q2⟩
     obtain ⟨_, _, f2⟩ := hm.2.2.1
     exact f1.up f2 hu
theorem abn {M : Model} {A : Around} {E : Q.v} {base : Heap} {l : List Env} {env : Env} {e L : Addr} {cls a0 fl : Value} {Q : Unit -> Shared -> Prop} (hf : env.frame = some L)
   (hkb : base.StaysIn s.heap) (hen : base.get? e = none) (hl : s.heap.FunFrames base l) (ht : s.heap.TracedAtW base e cls a0 fl)
   (h : ∀ h', Heap.HeldW base l e cls a0 L h' -> s.heap.UpToSlots h' -> Q () { s with heap := h' }) :
   wpAny M A (do
     if (← field (.ref e) 1) == .none then unsupported "frame.own-activation:exception-without-traceback"
     setFlight (.ref e) env.frame) Q E s := by
 obtain ⟨oe, vs, T, oT, ts, he, aag, hd, h1, hnT, hTe, hT, hdT, h3⟩ := ht
 have al3 : 3 < ts.size := (Array.getElem?_eq_some_iff.mp h3).1
 have aer : ∀ b, b ≠ T -> (s.heap.update T (Obj.mapFields (·.setIfInBounds 3 (rawInt L)))).get? b = s.heap.get? b := fun b hb => Heap.get?_update_other _ _ (auG hb)
 have abo : ∀ b o, s.heap.get? b = some o -> (∀ vs, o.data ≠ .fields vs) -> b ≠ T := fun b o hb hnv q => by
   rw [q, hT] at hb; injection hb with hb; subst hb; exact hnv ts hdT
 refine aty (wpAny_field he hd h1 ?_)
 rw [as5 (show ¬ ((Value.ref T == Value.none) = true) from by simp)]
 unfold setFlight
 refine aty (wpAny_field he hd h1 ?_)
 rw [atb (show (Value.ref T != Value.none) = true from by simp), hf]
 refine wpAny_setField hT hdT al3 (h _ ⟨fun b o hbo => (aer b fun q => by rw [q, hnT] at hbo; cases hbo).trans (hkb b o hbo), hen, hl.of_keeps fun b o hb hnv => ⟨o, (aer b (abo b o hb hnv)).trans hb, rfl⟩, ?_⟩ fun b o hb hnv => ⟨o.slots, (aer b (abo b o hb hnv)).trans hb⟩)
 exact ⟨oe, vs, T, _, _, (aer e (auG hTe)).trans he, aag, hd, h1, hnT, hTe, Heap.get?_update_self _ hT (Obj.isFreed_of_fields (Obj.data_mapFields hdT _)), Obj.data_mapFields hdT _, by simp [al3]⟩
theorem aes {W : XK} (vX : X.stack = X.env :: X.outer) (Ow : X.env.frame = some X.env.locals) : PassesOwn Q.k X.A X.env (XE X W) := fun ev s' h => by
 obtain ⟨e, C, pins, σ, H, s, rfl, I, hw, ho, hg, hm⟩ := h
 have hfr : X.A.frames = some (X.env :: X.outer) := by rw [I.ok.frames, vX]
 have abm := I.abk
 rw [vX] at abm
 have back : ∀ {a0 : Value} {s2 : Shared}, s2.os = s'.os -> s2.gens = s'.gens -> Heap.HeldW (PySem.W.hideAll s.heap (vW X.stack)) X.stack e (.ref C) a0 X.env.locals s2.heap -> jq X.stack s.heap s2.heap -> cameBackBy Q.k X.A X.env (XE X W) (.ref e) s2 := fun {a0 s2} o2 g2 hh fs => by
   obtain ⟨k1, k2, k3, k4⟩ := hh
   refine abn Ow k1 k2 k3 k4 fun h' hh' hu => ?_
   exact ⟨e, C, pins, σ, H, s, rfl, I, hw, o2.trans ho, by show AllBare s2.gens; rw [g2]; exact hg, .inr ⟨a0, hh', fs.up k3 hu⟩⟩
 rcases hm with hm | ⟨a0, hm, hs⟩
 . obtain ⟨t, he, htn, ht⟩ := hm.there
   have fresh : ∀ b, s.heap.get? b = none -> (PySem.W.hideAll s.heap (vW X.stack)).get? b = none := fun b hb => by
     cases hq : (PySem.W.hideAll s.heap (vW X.stack)).get? b with
     | none => rfl
     | some o' => have := avf _ hq; rw [hb] at this; cases this
   have hf2 : s'.heap.FunFrames (PySem.W.hideAll s.heap (vW X.stack)) (X.env :: X.outer) := by
     rw [vX]
     exact abm.of_keeps fun b o hb _ => ⟨o, hm.keeps b o hb, rfl⟩
   unfold notedBy noteFrame
   simp only [Ow]
   refine aty (wpAny_field (x := .none) he rfl rfl ?_)
   rw [as5 Q.c]
   refine wpAny_entryW (base := PySem.W.hideAll s.heap (vW X.stack)) hfr hf2 Ow he (fun b o hb => hm.keeps b o (avf _ hb)) (fresh e hm.new) rfl (show 1 < 6 by decide) rfl fun h' hN => ?_
   obtain ⟨k1, k2, k3, k4⟩ := hN
   rw [← vX] at k2
   refine back rfl rfl ⟨k1, fresh e hm.new, k2, k3⟩ ?_
   have f1 : jq X.stack s.heap s'.heap := fun b hb o hq => ⟨o.slots, hm.keeps _ _ hq⟩
   rw [← vX] at hf2
   exact f1.up hf2 k4
 . unfold notedBy
   exact wpAny_noteFrame_againW Ow hm.2.2.2 (back rfl rfl hm hs)
structure fW (K : Q.l) (C : Addr) : Prop where
 ex : ∃ nm q N bs bm hdct sn sub ab col dd k0 k1 k2 k3 k5, K.lookup C = some (excClassObj nm q C N bs bm hdct sn sub ab col dd k0 k1 k2 k3 k5 "ValueError.__new__") /\ PySem.W.nsOkIn K N = true /\ PySem.W.nsIn K N "__init__" = some none /\ PySem.W.tailIn K uo bm = true
theorem X8 {W : XK} {x : Str} {C : Addr} {np yN pos : Pos} {D : Ends} (al5 : X.calm = true) (hg : Gl X x) (hm : X.mg x = some (.ref C)) (O : fW X.K C) (hw : W (.ref C) none H) (hd : Q.s := by decide) :
   L3.adW (X.wish (XE X W)) (.Raise (some (.Call (.Name x np) [] [] yN)) none pos) D σ H := fun pins s I => by
 have J : Inv X pins σ H s := I.pS
 obtain ⟨nm, q, N, bs, bm, hdct, sn, sub, ab, col, dd, k0, k1, k2, k3, k5, o1, o2, o3, o4⟩ := O.ex
 have tl := PySem.W.tail_of_in J.J1 o4
 refine wpAny_Raise_call_subT (C := C) (nm := nm) (q := q) (N := N) (bs := bs) (bm := bm) (bmB := uo) (k0 := k0) (k1 := k1) (k2 := k2) (k3 := k3) (k5 := k5) (dd := dd) (col := col) (ab := ab) (sub := sub) (sn := sn) (hdct := hdct) PySem.F.excBase_ValueError (mN := s.heap.nsMap N) (tl.hasType (b := true) PySem.F.excBase_ValueError.hasBase) (J.ok.hd al5) rfl (PySem.W.nsMap_none_of_in J.J1 o2 o3) (rK I hg hm ⟨rfl, ?_⟩ hd)
 exact evalArgs_empty ⟨rfl, atx _, J.J1 _ _ o1, .of_isNs (PySem.W.isNs_of_in J.J1 o2), tl, fun h' e hx => ⟨e, C, pins, σ, H, s, rfl, J, hw, rfl, J.bare, .inl hx⟩⟩
structure Lies (X : Cx) (pins : Q.o) (σ : St) (H : Hp) (s : Shared) (H' : Hp) (e C : Addr) (a0 : Value) (B : Heap) (s' : Shared) : Prop where
 inv : Inv X pins σ H s
 os : s'.os = s.os
 bare : AllBare s'.gens
 V9 : Heap.FlyingW B X.stack e (.ref C) a0 s'.heap
 gS : xN X.prog X.w H' B
 un : ∀ h, B.StaysIn h -> jq X.stack s.heap h -> Un (vW X.stack) [] H H' s.heap h
 fr : jq X.stack s.heap s'.heap
variable {H' : Hp} {e C : Addr} {a0 : Value} {B : Heap} {s' : Shared}
theorem Lies.now (L : Q.aA) : Inv X pins σ H' s' := L.inv.akU L.os (L.un s'.heap L.V9.1 L.fr) (L.gS.kept L.V9.1) L.bare fun b z => absurd z att
theorem Lies.move (L : Q.aA) {h' : Heap} {t' : Nat} (hf : Heap.FlyingW B X.stack e (.ref C) a0 h') (u : s'.heap.UpToSlots h') : Lies X pins σ H s H' e C a0 B { s' with heap := h', toks := t' } :=
 ⟨L.inv, L.os, L.bare, hf, L.gS, L.un, L.fr.up L.V9.2.2.1 u⟩
abbrev Cx.hand (X : Cx) (e : Addr) : Cx := { X with A := X.A.mark (some (.ref e)), calm := false }
theorem Inv.hand (I : Q.m) (e : Addr) : Inv (X.hand e) pins σ H s :=
 ⟨⟨I.ok.mod, I.ok.kind, I.ok.glob, I.ok.blt, I.ok.above, I.ok.inj, I.ok.has, I.ok.cab, (fun h => by cases h), I.ok.frames, I.ok.stk, I.ok.exf, I.ok.bs, I.ok.bsz, I.ok.Rp, I.ok.Xl, I.ok.zo, I.ok.frf⟩, I.os, I.bare, I.base, I.loc, I.cell, I.free, I.p8, I.pin, I.gS, I.len⟩
theorem Inv.HR (ok : X.Ok) (I : Inv (X.hand e) pins σ H s) : Inv X pins σ H s := ⟨ok, I.os, I.bare, I.base, I.loc, I.cell, I.free, I.p8, I.pin, I.gS, I.len⟩
theorem al6 {Q : Flow -> Shared -> Prop} {E : Q.v} {hs : List ExceptHandler} (vX : X.stack = X.env :: X.outer) (Ow : X.env.frame = some X.env.locals) (L : Q.aA)
   (k : ∀ s3, Lies X pins σ H s H' e C a0 B s3 -> wpAny Q.k X.A (handleBy (.ref e) X.env hs) Q E s3) :
   wpAny Q.k X.A (noteFrame (.ref e) X.env) (fun _ s₂ => wpAny Q.k X.A (setFlight (.ref e) none) (fun _ s₃ => wpAny Q.k X.A (handleBy (.ref e) X.env hs) Q E s₃) E s₂) E s' := by
 have hfr : X.A.frames = some (X.env :: X.outer) := by rw [L.inv.ok.frames, vX]
 have hfl := L.V9
 rw [vX] at hfl
 refine wpAny_looks_onW hfr Ow hfl fun h4 hh4 u4 => wpAny_landsW hh4 fun h5 hf5 u5 => k _ ?_
 rw [← vX] at hf5
 exact L.move hf5 (u4.trans u5)
theorem ag5 {Q : Flow -> Shared -> Prop} {E : Q.v} {x : Str} {Dd : Addr} {np pos : Pos} {b₀ : Stmt} {suite : List Stmt} {rest : List ExceptHandler} {m : Bool} (L : Q.aA) (hg : Gl X x) (hm : X.mg x = some (.ref Dd))
   (hx : PySem.W.exmOne X.K (.ref C) (.ref Dd) = some m)
   (k : if m then ∀ s4, Lies X pins σ H s H' e C a0 B s4 -> wpAny Q.k (X.hand e).A (execs (b₀ :: suite) X.env) Q (fun _ _ => False) s4 else ∀ s4, Lies X pins σ H s H' e C a0 B s4 -> wpAny Q.k X.A (handleBy (.ref e) X.env rest) Q E s4)
   (hd : Q.s := by decide) :
   wpAny Q.k X.A (handleBy (.ref e) X.env (.ExceptHandler (some (.Name x np)) none (b₀ :: suite) pos :: rest)) Q E s' := by
 have I := L.now
 obtain ⟨ob, hob, hoc⟩ := L.V9.there
 have LT : PySem.W.Looks Q.k s'.heap (typeOf (.ref e)) (.ref C) := by
   rw [← hoc]
   exact (PySem.W.Looks.ld hob).andThen .now
 refine wpAny_handleBy_cons (codeAny_handlers_test (rK (X := X.hand e) (I.hand e) hg hm ?_ hd)) (fun q => by cases q)
 refine (PySem.W.exm_one I.J1 LT hx).here ?_
 cases m with
 | false => exact k s' L
 | true =>
   refine codeAny_handlers_suite (lands_againW L.V9 fun h6 hf6 u6 => ?_)
   exact auf (k _ (L.move hf6 u6)) (fun _ _ z => z) fun _ _ z => z.elim
end
variable {X : Cx}
abbrev Cx.pinned (X : Cx) (p : Q.o) : Cx := { X with pn := X.pn ++ p }
theorem Cx.Ok.pinned (ok : X.Ok) (p : Q.o) : (X.pinned p).Ok := ⟨ok.mod, ok.kind, ok.glob, ok.blt, ok.above, ok.inj, ok.has, ok.cab, ok.hd, ok.frames, ok.stk, ok.exf, ok.bs, ok.bsz, ok.Rp, ok.Xl, ok.zo, ok.frf⟩
variable {s : Shared}
theorem Inv.abp {pins : Q.o} {σ : St} {H : Hp} (I : Q.m) : Inv (X.pinned pins) [] σ H s :=
 ⟨I.ok.pinned pins, I.os, I.bare, I.base, I.loc, I.cell, I.free, I.p8, (fun p hp => I.pin p (by rw [atY] at hp; exact hp)), I.gS, I.len⟩
theorem Inv.RZ {pins p2 : Q.o} {σ : St} {H : Hp} (ok : X.Ok) (I : Inv (X.pinned pins) p2 σ H s) : Inv X pins σ H s :=
 ⟨ok, I.os, I.bare, I.base, I.loc, I.cell, I.free, I.p8, (fun p hp => I.pin p (as9 _ hp)), I.gS, I.len⟩
end L2
namespace L3
open PySem PySem.Spec PyProof.Rows L2
def GK (b : Bx) (E : XK) (C : Addr) : Prop := ∀ H' Z' : Hp, aT b.B H' -> aT b.Z Z' -> aT Z' H' -> (∀ a o, Z' a = some o -> b.Z a = none -> b.B a = none) -> (∀ a o, H' a = some o -> pG o = true -> Z' a = some o) -> E (.ref C) none H'
variable {A : Type}
def spR (K : Q.l) (CL : Q.g) (n : Nat) (arg : A -> List D) (Pre : A -> Prop) (exc : A -> Str) : Sp := fun vs H _ E =>
 ∃ (W : Hp) (a : A), aT W H /\ (∀ c o, H c = some o -> pG o = true -> W c = some o) /\ aX K CL W (arg a) vs /\ (arg a).length = n /\ Pre a /\ pT CL W /\ GK ⟨H, W⟩ E (CL (exc a))
section
variable {X : Cx} {CL : Q.g} {b : Bx} {δ δ1 δ2 : Q.n} {e : Expr} {es : List Expr} {fS : List Stmt} {D : g6} {x c : Str} {i : Nat} {pos pp : Pos} {W : XK}
theorem BH {np yN : Pos} (hc : X.calm = true) (hg : Gl X c) (hm : X.mg c = some (.ref (CL c))) (O : fW X.K (CL c)) (hE : GK b W (CL c)) (hd : (c == ("__debug__" : Str)) = false := by decide) :
   dY (X.wish (XE X W)) CL b (.Raise (some (.Call (.Name c np) [] [] yN)) none pos :: fS) δ D := dh fun H Z σ ts vs E S M =>
 X8 hc hg hm O (hE H Z S.bh S.zz S.zh S.new S.tp) hd
theorem aiY {P : Program} {w : World} {K : Q.l} {mg : Q.B} {base : Heap} {qual : Str} {st : Stmt} {f : Addr} {fd : FuncData} {N ps : Q.h} {k : Nat} {arg : A -> List L3.D} {Pre : A -> Prop} {exc : A -> Str} (F : ow K x qual st f fd) (S : aZ N ps (az st))
   (hb : ∀ (lC : Value) (Ar : Around) (outer : List Env) (s : Shared) (H : Hp) (E : XK) (b : Bx) (a : A), jH k Q.aY -> Pre a -> GK b E (CL (exc a)) →
     dY ((DR (CX8 P w) P w K mg base N qual (az st) f lC Ar outer s H E).wish (XE (DR (CX8 P w) P w K mg base N qual (az st) f lC Ar outer s H E) E)) CL b (dW st) (entry N (arg a)) { nx := fun _ => False, rt := fun _ _ => False }) :
   iy P w K mg base (CX8 P w) (k + 1) f fd ps (spR K CL ps.length arg Pre exc) := by
 obtain ⟨oc, od, kV, doc, pm, an, lC, ct, osl, rfl, lk, rJ⟩ := F.ex
 refine agO lk rJ S (fun vs H Q E h => ?_) fun Ar outer s H vs Q E hr h => ?_
 . obtain ⟨W, a, _, _, r, hl, _⟩ := h
   rw [← r.length]; exact hl
 . obtain ⟨W, a, wh, tp, r, hl, hp, tb, hE⟩ := h
   have h0 : fQ K CL H W (entry N (arg a)) (start N vs) [] := by
     unfold entry L2.start
     rw [← r.length]
     exact oF _ r
   have h1 : ∀ c o, W c = some o -> W c = none -> H c = none := fun c o q z => by rw [q] at z; cases z
   have body := hb lC Ar outer s H E ⟨H, W⟩ a hr hp hE H W (start N vs) [] [] { nx := fun _ _ => False, rt := fun _ _ => False } ⟨⟨[], [], h0, .nil, auz, fun c hc => by cases hc⟩, .refl _, .refl _, wh, h1, tp, tb⟩ ⟨fun _ _ _ _ _ _ z => z.elim, fun _ _ _ _ _ _ _ _ z => z.elim, fun _ _ _ _ _ _ z => z.elim, fun _ _ _ _ _ _ z => z.elim⟩
   refine ⟨RJ _ (dW st), XH, fun pins s1 I => ?_⟩
   refine auf (body pins s1 (I.wish _)) (fun fl s' z => ?_) fun ev s' z => aiX rfl rfl rfl z
   cases fl with
   | next => obtain ⟨_, _, _, q⟩ := z; exact q.elim
   | brk => obtain ⟨_, _, _, q⟩ := z; exact q.elim
   | cont => obtain ⟨_, _, _, q⟩ := z; exact q.elim
   | ret u => obtain ⟨_, _, _, _, _, q⟩ := z; exact q.elim
structure FcR (X : Cx) (CL : Q.g) (x : Str) (k n : Nat) {A : Type} (arg : A -> List L3.D) (Pre : A -> Prop) (exc : A -> Str) : Prop where
 ex : ∃ f fd ps, iy X.prog X.w X.K X.mg X.base (CX8 X.prog X.w) k f fd ps (spR X.K CL n arg Pre exc) /\ X.mg x = some (.ref f) /\ PySem.W.keepIn X.K (.ref f) = true /\ Binds X.K fd ps []
 room : jH k X.A
def HS (X : Cx) (CL : Q.g) (b : Bx) (Z : Hp) (δ1 : Q.n) (ts : List T) (vs : List V) (C : Addr) (ev : Value) (s' : Shared) : Prop :=
 ∃ (e : Addr) (a0 : Value) (B : Heap) (pins : Q.o) (σ : L2.St) (H : Hp) (s : Shared) (H' Z' : Hp), ev = .ref e /\ Lies X pins σ H s H' e C a0 B s' /\ aT Z Z' /\ bZ X.K CL b H' Z' δ1 σ ts vs
def TRv (X : Cx) (CL : Q.g) (b : Bx) (e : Expr) (δ : Q.n) (c : Str) (δ1 : Q.n) : Prop :=
 ∀ (H Z : Hp) (σ : L2.St) (ts : List T) (vs : List V), bZ X.K CL b H Z δ σ ts vs -> Lj (X.wish (HS X CL b Z δ1 ts vs (CL c))) e σ H fun _ _ => False
def TRs (X : Cx) (CL : Q.g) (b : Bx) (st : List Stmt) (δ : Q.n) (c : Str) (δ1 : Q.n) : Prop :=
 ∀ (H Z : Hp) (σ : L2.St) (ts : List T) (vs : List V) (D : Ends), bZ X.K CL b H Z δ σ ts vs -> RJ (X.wish (HS X CL b Z δ1 ts vs (CL c))) st D σ H
theorem X9 {H : Hp} {σ : L2.St} {Q : List V -> Hp -> Prop} {E : Q.v} (hx : X.xe = fun _ _ => False) (h : Lk X es σ H Q) : Lk (X.wish E) es σ H Q := fun pos pins s I =>
 auf (h pos pins s I.pS) (fun us s' ⟨vs, H', I', r, q⟩ => ⟨vs, H', I'.wish E, r, q⟩) fun ev s' z => by rw [hx] at z; exact z.elim
theorem bZ.grown {K : Q.l} {H H' Z W W' : Hp} {σ : L2.St} {ts : List T} {vs : List V} (S : Q.M) (hh : aT H H') (zw : aT Z W) (ww : aT W W') (wh : aT W' H') (new : ∀ a o, W' a = some o -> W a = none -> H a = none)
   (tp : ∀ a o, H' a = some o -> pG o = true -> W' a = some o) : ∃ Z', aT Z Z' /\ bZ K CL b H' Z' δ σ ts vs := by
 obtain ⟨Z', z, S'⟩ := S.back (t := .sh .non) (v := .non) (fp := []) hh zw ww wh new tp (.sh .non) auz (fun a ha => by cases ha) (.inr rfl)
 exact ⟨Z', z, S'.pop⟩
theorem sP {k n : Nat} {arg : A -> List L3.D} {Pre : A -> Prop} {exc : A -> Str} (a : A) (hx : X.xe = fun _ _ => False) (F : FcR X CL x k n arg Pre exc) (hg : Gl X x) (h : BAv X CL b (e :: es) δ (arg a) δ1) (hp : Pre a) (hn : (arg a).length = n := by rfl)
   (Bo : Q.s := by decide) (he : Q.R := by exact cE rfl) (hpl : Q.ac := by rfl) :
   TRv X CL b Q.aw δ (exc a) δ1 := fun H Z σ ts vs S pins s I => by
 obtain ⟨f, fd, ps, F1, hm, hk, hb⟩ := F.ex
 have hA : Lk X (e :: es) σ H fun us H1 => ∃ Z1, aT Z Z1 /\ bZ X.K CL b H1 Z1 δ1 σ ts vs /\ aX X.K CL H1 (arg a) us := h H Z σ ts vs _ S fun us H1 Z1 z1 k1 S1 r => ⟨Z1, z1, S1, r⟩
 refine auF (rK I hg hm ?_ Bo)
 refine PySem.W.callWith_K (h₀ := X.base) I.ok.mod.kin hk (gM (X9 hx hA pos pins s I) fun us s1 ⟨ws, H1, I1, r, Z1, z1, S1, rf⟩ => ⟨I1.J1, ?_⟩) he hpl
 let E0 : XK := fun cv _ H' => cv = .ref (CL (exc a)) /\ ∃ Z', aT Z Z' /\ bZ X.K CL b H' Z' δ1 σ ts vs
 have J2 : spR X.K CL n arg Pre exc ws H1 (fun _ _ => False) E0 := ⟨H1, a, .refl _, fun _ _ q _ => q, rf, hn, hp, S1.aaM, fun H' Z' hh ww wh nw tp => ⟨rfl, by
   obtain ⟨Z2, z2, S2⟩ := S1.grown hh S1.zh ww wh nw tp
   exact ⟨Z2, z1.trans z2, S2⟩⟩⟩
 have hl : us.length = ps.length := by rw [← r.length]; exact F1.len _ _ _ _ J2
 have hbd := hb s1 us I1.J1 (by rw [atY]; exact hl)
 rw [atY] at hbd
 refine wpAny_call (au2 (F1.run X.A X.stack s1 H1 ⟨us, []⟩ us ws (fun _ _ => False) E0 F.room I1.pS.ahZ hbd r J2) fun rr s' hq => ?_)
 cases rr with
 | error ev =>
   obtain ⟨e1, C, a0, B, H', rfl, o1, o2, o3, o4, o5, o6, hC, Z', z', S'⟩ := hq
   cases hC
   exact ⟨e1, a0, B, pins, σ, H1, s1, H', Z', rfl, ⟨I1.pS, o1, o2, o3, o4, o5, o6⟩, z', S'⟩
 | ok fl =>
   cases fl with
   | ret u =>
     obtain ⟨v, H', _, _, _, _, _, q⟩ := hq
     exact q.elim
   | next => exact False.elim hq
   | brk => exact False.elim hq
   | cont => exact False.elim hq
theorem TRv.any {H Z : Hp} {σ : L2.St} {ts : List T} {vs : List V} {Q : VK} (h : TRv X CL b e δ c δ1) (S : bZ X.K CL b H Z δ σ ts vs) : Lj (X.wish (HS X CL b Z δ1 ts vs (CL c))) e σ H Q := fun pins s I =>
 auf (h H Z σ ts vs S pins s I) (fun _ _ ⟨_, _, _, _, q⟩ => q.elim) fun _ _ z => z
theorem Pz {kj : Nat} {p2 : Pos} (h : TRv X CL b e δ c δ1) : TRv X CL b (.Compare e [.Is] [.Constant .none kj p2] pos) δ c δ1 := fun H Z σ ts vs S => dS (Rr (Rq fh)) (h.any S)
theorem PB {pos' : Pos} (nd : X.N.Nodup) (n : Ln X i x) (h : TRv X CL b e δ c δ1) (hs : Q.aK := by rfl) : TRs X CL b (.Assign [.Name x pos'] e pos :: fS) δ c δ1 := fun H Z σ ts vs D S =>
 aaL (Bj psS XH) (v8 (Rt (X := X.wish (HS X CL b Z δ1 ts vs (CL c))) nd n.hi n.loc fh hs n.hf) (h.any S))
theorem HV (h : TRv X CL b e δ c δ1) (hs : swapsWith e none pos.line X.env = pure false := by rfl) : TRs X CL b (.Expr e pos :: fS) δ c δ1 := fun H Z σ ts vs D S => aaL (Bj psS XH) (v8 (Bk (X := X.wish (HS X CL b Z δ1 ts vs (CL c))) fh hs) (h.any S))
theorem Vn.pin {p : Q.o} (h : Vn X i x) : Vn (X.pinned p) i x := ⟨h.hi, h.hv, h.hd, h.rJ⟩
theorem FcR.pin {p : Q.o} {k n : Nat} {arg : A -> List L3.D} {Pre : A -> Prop} {exc : A -> Str} (F : FcR X CL x k n arg Pre exc) : FcR (X.pinned p) CL x k n arg Pre exc := ⟨F.ex, F.room⟩
inductive Yb (X : Cx) (CL : Q.g) (c : Str) : List ExceptHandler -> List Stmt -> Prop
 | hit {x : Str} {Dd : Addr} {np pos : Pos} {b₀ : Stmt} {suite : List Stmt} {rest : List ExceptHandler} : Gl X x -> X.mg x = some (.ref Dd) -> PySem.W.exmOne X.K (.ref (CL c)) (.ref Dd) = some true -> (x == ("__debug__" : Str)) = false -> Yb X CL c (.ExceptHandler (some (.Name x np)) none (b₀ :: suite) pos :: rest) (b₀ :: suite)
 | miss {x : Str} {Dd : Addr} {np pos : Pos} {b₀ : Stmt} {suite st : List Stmt} {rest : List ExceptHandler} : Gl X x -> X.mg x = some (.ref Dd) -> PySem.W.exmOne X.K (.ref (CL c)) (.ref Dd) = some false -> (x == ("__debug__" : Str)) = false -> Yb X CL c rest st -> Yb X CL c (.ExceptHandler (some (.Name x np)) none (b₀ :: suite) pos :: rest) st
theorem Yb.run {Q : Flow -> Shared -> Prop} {E : Q.v} {hs : List ExceptHandler} {st : List Stmt} {pins p : Q.o} {σ : L2.St} {H H' : Hp} {s s' : Shared} {e : Addr} {a0 : Value} {B : Heap} (h : Yb X CL c hs st) (L : Lies (X.pinned p) pins σ H s H' e (CL c) a0 B s')
   (k : ∀ s4, Lies (X.pinned p) pins σ H s H' e (CL c) a0 B s4 -> wpAny Q.k (X.hand e).A (execs st X.env) Q (fun _ _ => False) s4) : wpAny Q.k X.A (handleBy (.ref e) X.env hs) Q E s' := by
 induction h generalizing s' with
 | hit h1 h2 h3 h4 => exact ag5 (X := X.pinned p) (m := true) L h1 h2 h3 k h4
 | miss h1 h2 h3 h4 _ ih => exact ag5 (X := X.pinned p) (m := false) L h1 h2 h3 (fun s4 L4 => ih L4 k) h4
theorem HW {body : List Stmt} {h0 : ExceptHandler} {hs : List ExceptHandler} {st : List Stmt} (vX : X.stack = X.env :: X.outer) (Ow : X.env.frame = some X.env.locals) (hxf : X.xe = fun _ _ => False) (r : ∀ p, TRs (X.pinned p) CL b body δ c δ1) (hh : Yb X CL c (h0 :: hs) st)
   (k : ∀ e, dY (X.hand e) CL b st δ1 { D with nx := fun δ2 => dY X CL b fS δ2 D }) : dY X CL b (.Try body (h0 :: hs) [] [] pos :: fS) δ D := dh fun H Z σ ts vs E S M pins s I => by
 refine wpAny_Try_except (auf (r pins H Z σ ts vs { nx := fun _ _ => False, rt := fun _ _ => False } S [] s (I.abp.wish _)) (fun f s1 z => ?_) fun ev s1 z => ?_)
 . cases f with
   | next => obtain ⟨_, _, _, q⟩ := z; exact q.elim
   | brk => obtain ⟨_, _, _, q⟩ := z; exact q.elim
   | cont => obtain ⟨_, _, _, q⟩ := z; exact q.elim
   | ret u => obtain ⟨_, _, _, _, _, q⟩ := z; exact q.elim
 . obtain ⟨e, a0, B, Ko, σ', H1, s0, H', Z', rfl, L, z', S'⟩ := z
   refine al6 (X := X.pinned pins) vX Ow L fun s3 L3 => hh.run L3 fun s4 L4 => ?_
   have J := (L4.now.RZ I.ok).hand e
   refine auf (k e H' Z' σ' ts vs E S' (M.mono z') pins s4 J) (fun f s5 z => ?_) fun _ _ z => by rw [show (X.hand e).xe = X.xe from rfl, hxf] at z; exact z
   cases f with
   | next => obtain ⟨σ5, H5, I5, q⟩ := z; exact ⟨σ5, H5, I5.HR I.ok, q⟩
   | brk => obtain ⟨σ5, H5, I5, q⟩ := z; exact ⟨σ5, H5, I5.HR I.ok, q⟩
   | cont => obtain ⟨σ5, H5, I5, q⟩ := z; exact ⟨σ5, H5, I5.HR I.ok, q⟩
   | ret u => obtain ⟨v, σ5, H5, I5, rv, q⟩ := z; exact ⟨v, σ5, H5, I5.HR I.ok, rv, q⟩
theorem ai0 {body : List Stmt} {h0 : ExceptHandler} {hs : List ExceptHandler} (hxf : X.xe = fun _ _ => False) (h : dY X CL b body δ { D with nx := fun δ2 => dY X CL b fS δ2 D }) : dY X CL b (.Try body (h0 :: hs) [] [] pos :: fS) δ D := dh fun H Z σ ts vs E S M pins s I => by
 refine wpAny_Try_except (auf (h H Z σ ts vs E S M pins s I) (fun f s1 z => ?_) fun ev s1 z => by rw [hxf] at z; exact z.elim)
 cases f with
 | next => exact wpAny_execs_nil z
 | brk => exact z
 | cont => exact z
 | ret u => exact z
end
end L3
namespace L2
open PySem PySem.Spec PyProof.Rows
structure kK (K : Q.l) (D : Addr) : Prop where
 ga : PySem.W.findIn K (.ref D) "__getattribute__" = some Q.aN
 gn : PySem.W.findIn K (.ref D) "__getattr__" = some none
 hd : PySem.W.hasDictIn K D = true
 fi : PySem.W.findIn K (.ref D) "__class__" = some (some Q.ah)
 sp : PySem.W.specialIn K Q.ah "__get__" = some (some (.builtin "getset_descriptor.__get__"))
 tk : PySem.W.takesIn K Q.ah = some true
 mr : PySem.W.mroIn K D (.type "object") = some true
 mb : PySem.W.mroIn K D (.type "BaseException") = some true
def excAt (e D : Addr) (h : Heap) : Prop := ∃ o, h.get? e = some o /\ o.cls = .ref D
section
variable {prog : Program} {w : World} {A : Around} {E : Q.v} {s : Shared} {K : Q.l} {x D : Addr}
open PySem.W in
theorem abq {M : Model} {nameV : Value} {Q : Unit -> Shared -> Prop} (ty : Looks M s.heap (typeOf (.ref x)) (.ref D)) (f7 : Looks M s.heap (isSubtype (.ref D) (.type "BaseException")) true) (hq : Q () s) : wpAny M A (checkBuiltinCall "BaseException.__getattribute__" ⟨[.ref x, nameV], []⟩) Q E s := by
 obtain ⟨hp, gn, dr, tk, os⟩ := s
 have hk : builtinKind "BaseException.__getattribute__" = some .slot := Q.f
 have J2 : splitId "BaseException.__getattribute__" = some ("BaseException", "__getattribute__") := Q.f
 have ha := F.args_bexc_ga (.ref x) nameV
 simp only [checkBuiltinCall, hk, J2]
 refine aty ?_
 unfold isInstance
 refine aty (ty.at (f7.at ?_))
 repeat (first | wp_step)
 exact hq
open PySem PySem.Calls PyProof.Rows Builtin Builtin.ObjectAttr Builtin.Getset_descriptor PySem.W PySem.Builtin.ObjectAttr in
theorem Yc {Q : Option Value -> Shared -> Prop} (O : kK K D) (X : K.In s.heap) (hx : excAt x D s.heap) (h : Q (some (.ref D)) { s with toks := s.toks + 1 }) : wpAny Q.Q A (getAttr? (.ref x) "__class__") Q E s := by
 obtain ⟨hp, gn, dr, tk, os⟩ := s
 obtain ⟨ox, hx1, hx2⟩ := hx
 have ty : Looks Q.Q hp (typeOf (.ref x)) (.ref D) := hx2 ▸ (Looks.ld hx1).andThen .now
 have f1 := looks_findIn (M := model prog w) X O.ga
 have f2 := looks_findIn (M := model prog w) X O.gn
 have f3 := looks_findIn (M := model prog w) X O.fi
 have f4 := looks_specialIn (M := model prog w) X O.sp
 have f5 := looks_takesIn (M := model prog w) X O.tk
 have f6 := looks_mroIn (M := model prog w) X O.mr
 have f7 := looks_mroIn (M := model prog w) X O.mb
 have fd : Looks Q.Q hp (find (.ref x) (.ref D) "__class__") (.bind (.builtin "getset_descriptor.__get__") Q.ah) :=
   f3.andThen (f4.andThen ((show Looks Q.Q hp (dataDescriptor? (some Q.ah) (some (.builtin "getset_descriptor.__get__"))) (some (.builtin "getset_descriptor.__get__", .builtin "object.__class__")) from f5.andThen .now).andThen (Looks.tag .now)))
 have fb := F.excAttr_ValueError.ga.bind (.ref x)
 have hk : builtinKind "BaseException.__getattribute__" = some .slot := Q.f
 have J2 : splitId "BaseException.__getattribute__" = some ("BaseException", "__getattribute__") := Q.f
 unfold getAttr? getAttrBy? getAttrBy
 refine aty (wpAny_mkText (aty (wpAny_attempt (auL (aty (ty.at (aty (f1.at ?_))))))))
 dsimp only
 rw [as5 (fun q => by rw [ato] at q; exact absurd q.2 Q.d)]
 unfold getAttrByItsOwn hookBefore
 rw [atb (show onTheHeap (.ref D) = true from rfl)]
 refine aty (f2.at ?_)
 refine aty (wpAny_attempt (auL ?_))
 unfold callGetattribute
 rw [as5 Q.c]
 unfold boundAndCalled
 rw [fb]
 refine aty (at5 ?_)
 refine wpAny_call (codeAny_call_builtin F.excAttr_ValueError.ga.plain F.entry_bexc_ga (abq ty f7 ?_))
 unfold Builtin.«object.__getattribute__»
 iterate 10 lk
 refine aty (at5 (a := ("__class__" : Str)) (aty (ty.at (aty (fd.at ?_)))))
 show wpAny _ _ (holding [_] (call _ [_, .ref x, .ref D]) >>= ret) _ _ _
 refine aty (auL (wpAny_call ?_))
 refine codeAny_call_builtin KF.slot_gs.plain KF.entry_gs (KF.slot_gs.check _ _ _ _ _ _ _ _ KF.type_class (KF.args_gs _ _ _) ?_)
 unfold Builtin.«getset_descriptor.__get__» descrGet
 rw [dga_obj]
 refine aty (at5 ?_)
 unfold descrGetter descrCheckInstance descrNameAndClass isInstance
 simp only [KF.owner_class]
 repeat lk
 refine ⟨Code.quiet_builtin _ Q.d, codeAny_builtin KF.entry_class ?_⟩
 unfold Builtin.«object.__class__» shownTypeOf
 repeat lk
 first | exact h | exact handed_on rfl h | exact at5 (handed_on rfl (at5 h))
theorem kK.there (O : kK K D) : ∃ c d cd sl, K.lookup D = some ⟨c, d, .cls cd, sl⟩ := by
 obtain ⟨cd, q, _⟩ := PySem.W.any_some O.hd
 unfold PySem.W.clsIn at q
 split at q
 . rename_i c d cd' sl e; exact ⟨c, d, cd', sl, e⟩
 . cases q
theorem PD (O : kK K D) : PySem.W.KitX K (.ref x) (.ref D) (excAt x D) := by
 obtain ⟨c, d, cd, sl, e⟩ := O.there
 refine ⟨fun _ _ _ ⟨o, h1, h2⟩ => h2 ▸ (PySem.W.Looks.ld h1).andThen .now, fun _ _ kin _ A' Q' E' s' k q => ?_, fun h tp dd its n sl' kin htp => ?_, fun kin p k => Yc O kin p k⟩
 . unfold isType loadHead
   exact aty (wpAny_loadPart (k _ _ (kin _ _ e)) (at5 q))
 . cases hq : (Value.ref D == Value.ref tp) with
   | false => rfl
   | true =>
     cases Value.ref.inj (au7.mp hq)
     have z := (kin _ _ e).symm.trans htp
     cases z
def KG : V -> Bool
 | .ref _ => true
 | .ty _ => true
 | _ => false
def clsOf : V -> Value
 | .ref a => .ref a
 | .ty n => .type n
 | _ => .none
theorem KH {v : V} {u : Value} (hc : KG v = true) (r : RelV v u) : u = clsOf v := by
 cases v <;> first | exact r | cases hc
theorem KJ : ∀ {vs : List V} {us : Q.q}, vs.all KG = true -> Vals vs us -> us = vs.map clsOf
 | _, _, _, .nil => rfl
 | _, _, hc, .cons r t => by
   rw [aun, ato] at hc
   rw [atG, KH hc.1 r, KJ hc.2 t]
theorem Yd {cs : Q.q} {t : Value} (h : ∀ c ∈ cs, PySem.W.kitOne K t c = some false) : PySem.W.kitAny K t cs = some false := by
 induction cs with
 | nil => rfl
 | cons c r ih =>
   unfold PySem.W.kitAny
   rw [h c (ati ..)]
   exact ih fun z hz => h z (atk _ hz)
def ag6 (K : Q.l) (H : Hp) (D : Addr) (y : V) (bb : Bool) : Prop :=
 (KG y = true /\ PySem.W.kitOne K (.ref D) (clsOf y) = some bb) \/ ∃ tp vs, y = .ref tp /\ Fq K H tp vs /\ vs.all KG = true /\ PySem.W.kitAny K (.ref D) (vs.map clsOf) = some bb
variable {X : Cx}
theorem abr : vA X (.builtin "isinstance") (fun xs H Q => ∃ (e D : Addr) (y : V) (bb : Bool), xs = [.ref e, y] /\ H e = some (.ext (excAt e D)) /\ kK X.K D /\ ag6 X.K H D y bb /\ Q (.bl bb) H) := by
 intro pins s σ H xs us Q I r h
 obtain ⟨e, D, y, bb, rfl, he, O, ha, q⟩ := h
 obtain ⟨u, u2, rfl, ru, ru2⟩ := r.two
 cases (show u = Value.ref e from ru)
 have fin : ∀ tk, EP X pins σ Q (.bool bb) { s with toks := tk } := fun tk => ⟨.bl _, H, I.tok tk, rfl, q⟩
 have ex : excAt e D s.heap := (I.gS e _ he).1
 rcases ha with ⟨hc, ha⟩ | ⟨tp, vs, rfl, hs, hc, ha⟩
 . rw [KH hc ru2]
   exact PySem.W.kia_one (PD O) I.J1 ex ha (fun z => nomatch z) fin
 . cases (show u2 = Value.ref tp from ru2)
   obtain ⟨its, rv, ⟨o, g, cl, n, dt⟩, _⟩ := I.tuple hs
   obtain ⟨c0, d0, t0, s0⟩ := o
   dsimp only at cl dt
   subst cl dt
   rw [← KJ hc rv] at ha
   exact PySem.W.kia_tup (PD O) I.J1 ex g ha (fun z => nomatch z) fin
theorem iV.got {P : Program} {H : Hp} {h : Heap} {a : Addr} {o : HO} (x : iV P w H h a o) : ∃ u, h.get? a = some u := by
 cases o with
 | lst xs => obtain ⟨_, _, _, _, z⟩ := x; exact ⟨_, z⟩
 | tup xs => obtain ⟨_, _, _, _, z, _⟩ := x; exact ⟨_, z⟩
 | dK b9 => obtain ⟨_, _, _, _, _, _, _, z, _⟩ := x; exact ⟨_, z⟩
 | dT b9 => obtain ⟨_, _, _, _, _, _, _, z, _⟩ := x; exact ⟨_, z⟩
 | set S n => obtain ⟨_, _, _, _, z, _⟩ := x; exact ⟨_, z⟩
 | ins C dx fs => obtain ⟨_, _, _, z, _⟩ := x; exact ⟨_, z⟩
 | own y => exact x
 | xd fs => obtain ⟨_, ⟨_, _, _, z, _⟩, _⟩ := x; exact ⟨_, z⟩
 | rng lo hi => obtain ⟨_, _, _, z⟩ := x; exact ⟨_, z⟩
 | iU ob u => exact ⟨_, x.1⟩
 | tbl ps => exact ⟨_, x⟩
 | tabs q => obtain ⟨_, z, _⟩ := x; exact ⟨_, z⟩
 | cod q => obtain ⟨_, _, _, z, _⟩ := x; exact ⟨_, z⟩
 | met f y => exact ⟨_, x⟩
 | ext φ => exact x.2.1
variable {pins : Q.o} {σ : St} {H H' : Hp} {s' : Shared} {e C : Addr} {a0 : Value} {B : Heap}
theorem Lies.fresh (L : Q.aA) : s.heap.get? e = none := by
 cases hq : s.heap.get? e with
 | none => rfl
 | some o =>
   have ne : e ∉ vW X.stack := fun hb => by
     obtain ⟨_, o1, h1, d1⟩ := L.V9.2.2.1.mem hb
     obtain ⟨o2, vs, _, _, _, h2, _, d2, _⟩ := L.V9.2.2.2
     rw [h1] at h2
     cases h2
     exact d1 _ d2
   obtain ⟨o', h'⟩ := (L.un (PySem.W.hideAll s'.heap [e]) (fun b u hb => auB _ (L.V9.1 b u hb) fun z => by
     rw [atD] at z
     rw [z, L.V9.2.1] at hb
     cases hb) fun b hb u hu => by
       obtain ⟨sl, z⟩ := L.fr b hb u hu
       exact ⟨sl, auB _ z fun q => ne (by rw [atD] at q; rw [← q]; exact hb)⟩).there e o hq att
   rw [PySem.W.hideAll_none _ (atD.mpr rfl)] at h'
   cases h'
theorem Lies.no (L : Q.aA) : H' e = none := by
 cases hq : H' e with
 | none => rfl
 | some o =>
   obtain ⟨u, z⟩ := (L.gS e o hq).got
   rw [L.V9.2.1] at z
   cases z
theorem Lies.taken (L : Q.aA) (hex : X.ex = []) : Inv X pins σ (upd H' e (.ext (excAt e C))) s' := by
 have I := L.now
 have J := L.inv
 have fr := L.fresh
 have no : ∀ {b : Addr} {o : Obj}, s.heap.get? b = some o -> b ≠ e := fun {b o} q z => by rw [z, fr] at q; cases q
 have up : ∀ {b : Addr}, b ≠ e -> upd H' e (.ext (excAt e C)) b = H' b := fun {b} q => as5 q
 have keep : ∀ {b : Addr} {v : HO}, H' b = some v -> upd H' e (.ext (excAt e C)) b = some v := fun {b v} q => by
   rw [up fun z => by rw [z, L.no] at q; cases q]
   exact q
 obtain ⟨ob, hob, hoc⟩ := L.V9.there
 have first : ∀ {b : Addr} {o : Obj}, X.s₀.heap.get? b = some o -> b ≠ e := fun {b o} q => by
   obtain ⟨o', z⟩ := J.base.there b o q (by rw [hex]; exact att)
   exact no z
 refine ⟨I.ok, I.os, I.bare, ⟨I.base.keep, I.base.slot, fun b o h1 h2 h3 => by rw [up (first h1)]; exact I.base.free b o h1 h2 h3, I.base.there, fun b xs q => keep (I.base.F2 b xs q), fun b o u q => keep (I.base.lB b o u q), fun b ps q => ?_⟩, I.loc, I.cell, ?_, fun x c q => ?_, fun p hp => ?_, fun a o q => ?_, I.len⟩
 . obtain ⟨more, z⟩ := I.base.F3 b ps q
   exact ⟨more, keep z⟩
 . obtain ⟨m, ⟨oL, _, _, hoL, _⟩, _⟩ := J.loc
   rw [up (no hoL)]
   exact I.free
 . obtain ⟨v, z⟩ := J.cell x c q
   obtain ⟨oc, ao5, _⟩ := z
   rw [up (no ao5)]
   exact I.p8 x c q
 . obtain ⟨z1, z2, z3⟩ := I.pin p hp
   refine ⟨z1, ?_, z3⟩
   rw [up (no (J.pin p hp).1)]
   exact z2
 . by_cases ha : a = e
   . subst ha
     rw [show upd H' a (.ext (excAt a C)) a = some (.ext (excAt a C)) from atb rfl] at q
     cases q
     exact ⟨⟨ob, hob, hoc⟩, ⟨ob, hob⟩, fun h1 h2 ⟨o, z1, z2⟩ k => ⟨o, k _ z1, z2⟩⟩
   . rw [up ha] at q
     exact (I.gS a o q).J3 (fun _ _ _ z => z) (fun b z => keep z) (fun b xs z => keep z) fun b u z => keep z
theorem aeu {M : Model} {i : Nat} {x : Str} {ps : Pos} {Q : Unit -> Shared -> Prop} (I : Q.m) (hN : X.N.Nodup) (hi : X.N[i]? = some x) (hk : X.env.kindOf x = some .local)
   (h : ∀ s2, Inv X pins (σ.set i none) H s2 -> Q () s2) : wpAny M A (do bindName X.env x .none; unbindBehindTheSuite X.env x ps) Q E s := by
 obtain ⟨m, hn, hl⟩ := id I.loc
 have aag : (X.env.scope.kind == .class || (X.env.scope.kind == .module && X.env.locals != X.env.globals)) = false := by rw [I.ok.kind]; rfl
 have cn := I.cne
 have below : ∀ {b : Addr} {o : Obj}, X.s₀.heap.get? b = some o -> b ≠ X.env.locals := fun {b o} q => at3 (atZ (atA q) I.ok.above)
 refine wpAny_nameGoes_keeps hk hn aag fun h' v hn' hs => h _ ⟨I.ok, I.os, I.bare, ⟨fun b o q1 q2 q3 q4 => (hs.2 b (below q1)).trans (I.base.keep b o q1 q2 q3 q4), fun b o q1 q2 q3 q4 => ?_, I.base.free, fun b o q1 q2 => ?_, I.base.F2, I.base.lB, I.base.F3⟩, ⟨_, hn', fun j y w q1 q2 q3 => ?_⟩, fun y c q => ?_, I.free, I.p8, fun p hp => ?_, fun a o q => ?_, by simpa using I.len⟩
 . obtain ⟨sl, z⟩ := I.base.slot b o q1 q2 q3 q4
   exact ⟨sl, (hs.2 b (below q1)).trans z⟩
 . obtain ⟨o', z⟩ := I.base.there b o q1 q2
   exact ⟨o', (hs.2 b (below q1)).trans z⟩
 . by_cases hj : j = i
   . subst hj
     have Lv : j < σ.length := by rw [I.len]; exact (atM.mp hi).1
     rw [auu Lv] at q2
     cases q2
   . rw [au6 (auG hj)] at q2
     obtain ⟨u, r, z⟩ := hl j y w q1 q2 q3
     refine ⟨u, r, ?_⟩
     rcases z with ⟨k, z⟩ | ⟨k, c, z1, z2⟩
     . refine .inl ⟨k, ?_⟩
       have : y ≠ x := fun q => hj (Hr hN q1 (q ▸ hi))
       show (if y = x then v else m y) = some u
       rw [as5 this]
       exact z
     . exact .inr ⟨k, c, z1, z2.sameBut hs (cn y c z1)⟩
 . obtain ⟨w, z⟩ := I.cell y c q
   exact ⟨w, z.sameBut hs (cn y c q)⟩
 . obtain ⟨z1, z2, z3, z4⟩ := I.pin p hp
   exact ⟨(hs.2 p.1 z3).trans z1, z2, z3, z4⟩
 . refine (I.gS a o q).J3 (fun c w hc z => (hs.2 c ?_).trans z) (fun _ z => z) fun _ _ z => z
   rintro rfl
   rcases hc with rfl | hc
   . rw [I.free] at q; cases q
   . rw [I.free] at hc; cases hc
theorem ai1 {Q : Flow -> Shared -> Prop} {x n : Str} {i : Nat} {Dd : Addr} {np ps : Pos} {b₀ : Stmt} {suite : List Stmt} {rest : List ExceptHandler} (L : Q.aA) (hex : X.ex = []) (hN : X.N.Nodup) (hi : X.N[i]? = some n)
   (hk : X.env.kindOf n = some .local) (hl : Loc X.env.scope n) (hf : X.fn n = true \/ X.env.scope.names.lookup n = some .local) (hg : Gl X x) (hm : X.mg x = some (.ref Dd)) (hx : PySem.W.exmOne X.K (.ref C) (.ref Dd) = some true)
   (k : ∀ s4, Inv X pins (σ.set i (some (.ref e))) (upd H' e (.ext (excAt e C))) s4 -> wpAny Q.k (X.hand e).A (execs (b₀ :: suite) X.env) (fun f s5 => ∃ p5 σ5 H5, Inv X p5 σ5 H5 s5 /\ ∀ s6, Inv X p5 (σ5.set i none) H5 s6 -> Q f s6) (fun _ _ => False) s4)
   (hd : Q.s := by decide) :
   wpAny Q.k X.A (handleBy (.ref e) X.env (.ExceptHandler (some (.Name x np)) (some n) (b₀ :: suite) ps :: rest)) Q E s' := by
 have I := L.now
 obtain ⟨ob, hob, hoc⟩ := L.V9.there
 have LT : PySem.W.Looks Q.k s'.heap (typeOf (.ref e)) (.ref C) := by
   rw [← hoc]
   exact (PySem.W.Looks.ld hob).andThen .now
 refine wpAny_handleBy_cons (codeAny_handlers_test (rK (X := X.hand e) (I.hand e) hg hm ?_ hd)) (fun q => by cases q)
 refine (PySem.W.exm_one I.J1 LT hx).here ?_
 refine codeAny_handlers_suite_as (lands_againW L.V9 fun h6 hf6 u6 => ?_)
 refine Hs ((L.move (t' := _) hf6 u6).taken hex) hN hi hl (v := .ref e) rfl (fun s7 I7 => ?_) hf
 refine auf (k s7 I7) (fun f s8 z => ?_) fun _ _ z => z.elim
 obtain ⟨_, _, _, I5, q⟩ := z
 exact aeu I5 hN hi hk q
end
theorem aT.off {H H' : Hp} {a : Addr} (h : aT H H') (n : H' a = none) : H a = none := by
 cases q : H a with
 | none => rfl
 | some o => rw [h a o q] at n; cases n
end L2
namespace L3
open PySem PySem.Spec PyProof.Rows L2
section
variable {X : Cx} {CL : Q.g} {b : Bx} {δ δ1 δ2 : Q.n} {e e1 e2 : Expr} {fS : List Stmt} {D : g6} {x c : Str} {i : Nat} {pos pp : Pos} {W : XK}
theorem eY {v : V} {u : Value} (hg : Gl X x) (hm : X.mg x = some u) (r : RelV v u) (hd : Q.s := by decide) : dH X CL b Q.C δ (.sh (.val v)) δ := fun H Z σ ts vs Q S k => dS (GF hg hm r hd) (k _ _ Z Q.j Q.j (S.push (.val v)))
theorem BI {v : V} {u : Value} (hg : Gl X x) (hm : X.mg x = none) (hv : bootBuiltins x = some u) (r : RelV v u) (hn : x ≠ "__name__" := by decide) (hd : Q.s := by decide) : dH X CL b Q.C δ (.sh (.val v)) δ := fun H Z σ ts vs Q S k => dS (adA hg hm hv r hn hd) (k _ _ Z Q.j Q.j (S.push (.val v)))
inductive abt (K : Q.l) (C : Addr) : L3.D -> Bool -> Prop
 | one {v : V} {bb : Bool} : KG v = true -> PySem.W.kitOne K (.ref C) (clsOf v) = some bb -> abt K C (.val v) bb
 | non {vs : List V} : vs.all KG = true -> (∀ v ∈ vs, PySem.W.kitOne K (.ref C) (clsOf v) = some false) -> abt K C (.tup (vs.map .val)) false
theorem PF {K : Q.l} {H : Hp} : ∀ {vs us : List V}, aX K CL H (vs.map .val) us -> us = vs
 | [], _, h => by cases h; rfl
 | v :: vs, _, h => by
   cases h with
   | cons r t => cases r; rw [PF t]
theorem abt.ans {K : Q.l} {C : Addr} {d : L3.D} {bb : Bool} {H : Hp} {y : V} (h : abt K C d bb) (r : cC K CL H d y) : ag6 K H C y bb := by
 cases h with
 | one hc hk => cases r; exact .inl ⟨hc, hk⟩
 | @non vs hc hk =>
   cases r with
   | @tup a us _ hs hr =>
     cases PF hr
     refine .inr ⟨a, vs, rfl, hs, hc, Yd fun z hz => ?_⟩
     obtain ⟨v, hv, rfl⟩ := atj.mp hz
     exact hk v hv
theorem dM {a C : Addr} {d2 : L3.D} {bb : Bool} (hz : b.Z a = some (.ext (excAt a C))) (O : kK X.K C) (hm : X.mg "isinstance" = none) (hg : Gl X "isinstance") (h : BAv X CL b [e1, e2] δ [.val (.ref a), d2] δ1) (hc : abt X.K C d2 bb)
   (hs : starEach [e1, e2] X.env = (false, eval e1 X.env) :: starEach [e2] X.env := by exact cE rfl) (hpl : (backTo pos (starEach [e2] X.env)).any (·.1) = false := by rfl) :
   dH X CL b (.Call (.Name "isinstance" pp) [e1, e2] [] pos) δ (.sh (.bl bb)) δ1 := fun H Z σ ts vs Q S k =>
 dS (vZ abr hg hm boot_isinstance VN (he := hs) (hpl := hpl)) (h H Z σ ts vs _ S fun us H1 Z1 z1 k1 S1 r => by
   cases r with
   | cons r1 r =>
     cases r with
     | cons r2 r =>
       cases r
       cases r1
       exact ⟨a, C, _, bb, rfl, S1.zh _ _ (S1.zz _ _ hz), O, hc.ans r2, k _ H1 Z1 z1 k1 (S1.push (.bl _))⟩)
abbrev Bx.with (b : Bx) (a : Addr) (o : HO) : Bx := ⟨upd b.B a o, upd b.Z a o⟩
theorem jJ {H : Hp} {a : Addr} {o : HO} (h : H a = none) : aT H (upd H a o) := fun c u q => by
 rw [show upd H a o c = H c from as5 fun z => by rw [z, h] at q; cases q]
 exact q
theorem HX {H H' : Hp} {a : Addr} {o : HO} (h : aT H H') : aT (upd H a o) (upd H' a o) := fun c u q => by
 by_cases z : c = a
 . rw [show upd H' a o c = some o from atb z]
   rw [show upd H a o c = some o from atb z] at q
   exact q
 . rw [show upd H' a o c = H' c from as5 z]
   rw [show upd H a o c = H c from as5 z] at q
   exact h c u q
theorem bZ.with {K : Q.l} {H Z : Hp} {σ : L2.St} {ts : List T} {vs : List V} {a : Addr} {o : HO} (S : Q.M) (n : H a = none) (hi : pG o = false) : bZ K CL (b.with a o) (upd H a o) (upd Z a o) δ σ ts vs := by
 obtain ⟨fp, gp, e, r, nd, k⟩ := S.rep
 have nz := S.zh.off n
 have ne : ∀ c u, H c = some u -> c ≠ a := fun c u q z => by rw [z, n] at q; cases q
 have up : ∀ {J : Hp} {c : Addr}, c ≠ a -> upd J a o c = J c := fun {J c} z => as5 z
 have nf : ∀ c ∈ fp ++ gp, c ≠ a := fun c hc => by
   rcases ate.mp hc with z | z
   . obtain ⟨u, q⟩ := e.there c z; exact ne c u q
   . obtain ⟨u, q⟩ := r.there c z; exact ne c u q
 refine ⟨⟨fp, gp, e.mono (jJ nz) fun c hc => up (nf c (as9 _ hc)), r.mono (jJ nz) fun c hc => up (nf c (as7 _ hc)), nd, fun c hc => ?_⟩, HX S.bh, HX S.zz, HX S.zh, fun c u q1 q2 => ?_, fun c u q1 q2 => ?_, S.tab.mono (jJ (S.zz.off nz))⟩
 . exact ⟨(up (nf c hc)).trans (k c hc).1, (up (nf c hc)).trans (k c hc).2⟩
 . have z : c ≠ a := fun z => by rw [show (b.with a o).Z c = some o from atb z] at q2; cases q2
   rw [up z] at q1
   rw [show (b.with a o).Z c = b.Z c from up z] at q2
   exact (up z).trans (S.new c u q1 q2)
 . by_cases z : c = a
   . rw [show upd H a o c = some o from atb z] at q1
     cases q1
     rw [hi] at q2; cases q2
   . rw [up z] at q1 ⊢
     exact S.tp c u q1 q2
theorem bZ.without {K : Q.l} {H Z : Hp} {σ : L2.St} {ts : List T} {vs : List V} {a : Addr} {o : HO} (S : bZ K CL (b.with a o) H Z δ σ ts vs) (nb : b.B a = none) (nz : b.Z a = none) (tb : pT CL b.Z) : bZ K CL b H Z δ σ ts vs := by
 obtain ⟨fp, gp, e, r, nd, k⟩ := S.rep
 refine ⟨⟨fp, gp, e, r, nd, fun c hc => ⟨(k c hc).1, (jJ nb).off (k c hc).2⟩⟩, (jJ nb).trans S.bh, (jJ nz).trans S.zz, S.zh, fun c u q1 q2 => ?_, S.tp, tb⟩
 by_cases z : c = a
 . rw [z]; exact nb
 . exact (jJ nb).off (S.new c u q1 (by rw [show (b.with a o).Z c = b.Z c from as5 z]; exact q2))
theorem Meets.with {K : Q.l} {Z : Hp} {ts : List T} {vs : List V} {a : Addr} {o : HO} {E : Ends} (M : Meets K CL b Z ts vs D E) (n : Z a = none) (nb : b.B a = none) (nz : b.Z a = none) (tb : pT CL b.Z) : Meets K CL (b.with a o) (upd Z a o) ts vs D E :=
 ⟨fun _ _ _ _ q S => M.nx _ _ _ _ ((jJ n).trans q) (S.without nb nz tb), fun _ _ _ _ _ _ q S => M.rt _ _ _ _ _ _ ((jJ n).trans q) (S.without nb nz tb), fun _ _ _ _ q S => M.bk _ _ _ _ ((jJ n).trans q) (S.without nb nz tb), fun _ _ _ _ q S => M.ct _ _ _ _ ((jJ n).trans q) (S.without nb nz tb)⟩
theorem fQ.unset {K : Q.l} {H Z : Hp} {σ : L2.St} {fp : Q.p} (e : fQ K CL H Z δ σ fp) : ∀ {j : Nat}, (δ[j]? = some none \/ ∃ d, δ[j]? = some (some (.sh d))) -> fQ K CL H Z (δ.set j none) (σ.set j none) fp := by
 induction e with
 | nil => exact fun _ => .nil
 | skip q ih =>
   intro j hj
   cases j with
   | zero => exact .skip q
   | succ j => exact .skip (ih hj)
 | @cons t v δ' σ' f1 f2 rt re ih =>
   intro j hj
   cases j with
   | zero =>
     rcases hj with q | ⟨d, q⟩
     . cases q
     . cases q
       cases rt
       exact .skip re
   | succ j => exact .cons rt (ih hj)
theorem bZ.unset {K : Q.l} {H Z : Hp} {σ : L2.St} {ts : List T} {vs : List V} {j : Nat} (S : Q.M) (hj : δ[j]? = some none \/ ∃ d, δ[j]? = some (some (.sh d))) : bZ K CL b H Z (δ.set j none) (σ.set j none) ts vs := by
 obtain ⟨fp, gp, e, r, nd, k⟩ := S.rep
 exact ⟨⟨fp, gp, e.unset hj, r, nd, k⟩, S.bh, S.zz, S.zh, S.new, S.tp, S.tab⟩
theorem HY {body : List Stmt} {n : Str} {Dd : Addr} {np hp : Pos} {b₀ : Stmt} {suite : List Stmt} {rest : List ExceptHandler} (vX : X.stack = X.env :: X.outer) (Ow : X.env.frame = some X.env.locals) (hxf : X.xe = fun _ _ => False) (hex : X.ex = []) (nd : X.N.Nodup) (nl : Ln X i n) (hk : X.env.kindOf n = some .local)
   (r : ∀ p, TRs (X.pinned p) CL b body δ c δ1) (hg : Gl X x) (hm : X.mg x = some (.ref Dd)) (hx : PySem.W.exmOne X.K (.ref (CL c)) (.ref Dd) = some true) (hi : i < δ1.length)
   (k : ∀ (a : Addr) (b' : Bx), b'.Z a = some (.ext (excAt a (CL c))) -> dY (X.hand a) CL b' (b₀ :: suite) (δ1.set i (some (.sh (.val (.ref a))))) { nx := fun δ2 => (δ2[i]? = some none \/ ∃ d, δ2[i]? = some (some (.sh d))) /\ dY X CL b' fS (δ2.set i none) D, rt := fun _ _ => False })
   (hd : Q.s := by decide) :
   dY X CL b (.Try body (.ExceptHandler (some (.Name x np)) (some n) (b₀ :: suite) hp :: rest) [] [] pos :: fS) δ D := fun H Z σ ts vs E S M => aaL (Bj psS XH) fun pins s I => by
 refine wpAny_Try_except (auf (r pins H Z σ ts vs { nx := fun _ _ => False, rt := fun _ _ => False } S [] s (I.abp.wish _)) (fun f s1 z => ?_) fun ev s1 z => ?_)
 . cases f with
   | next => obtain ⟨_, _, _, q⟩ := z; exact q.elim
   | brk => obtain ⟨_, _, _, q⟩ := z; exact q.elim
   | cont => obtain ⟨_, _, _, q⟩ := z; exact q.elim
   | ret u => obtain ⟨_, _, _, _, _, q⟩ := z; exact q.elim
 . obtain ⟨e, a0, B, Ko, σ', H1, s0, H', Z', rfl, L, z', S'⟩ := z
   refine al6 (X := X.pinned pins) vX Ow L fun s3 L3 => ?_
   have hn := L3.no
   have nZ := S'.zh.off hn
   have nbB := S'.bh.off hn
   have nbZ := S'.zz.off nZ
   have S2 := ((S'.with (o := .ext (excAt e (CL c))) hn rfl).push (v := .ref e) (d := .val (.ref e)) (.val _)).set hi
   have M2 := (M.mono z').with (o := .ext (excAt e (CL c))) nZ nbB nbZ S'.tab
   refine ai1 (X := X.pinned pins) L3 hex nd nl.hi hk nl.loc nl.hf hg hm hx (fun s4 I4 => ?_) hd
   have J := (I4.RZ I.ok).hand e
   have done : ∀ (σ5 : L2.St) (H5 : Hp), (∃ δ5 Z5, aT (upd Z' e (.ext (excAt e (CL c)))) Z5 /\ bZ X.K CL (b.with e (.ext (excAt e (CL c)))) H5 Z5 δ5 σ5 ts vs /\ (δ5[i]? = some none \/ ∃ d, δ5[i]? = some (some (.sh d))) /\ dY X CL (b.with e (.ext (excAt e (CL c)))) fS (δ5.set i none) D) →
       RJ X fS E (σ5.set i none) H5 := fun σ5 H5 ⟨δ5, Z5, q1, q2, q3, q4⟩ => q4 H5 Z5 _ ts vs E (q2.unset q3) (M2.mono q1)
   have run := k e (b.with e (.ext (excAt e (CL c)))) (atb rfl) _ _ _ ts vs { nx := fun σ5 H5 => RJ X fS E (σ5.set i none) H5, rt := fun _ _ => False } S2 ⟨fun δ5 σ5 H5 Z5 q1 q2 q3 => done σ5 H5 ⟨δ5, Z5, q1, q2, q3.1, q3.2⟩, fun _ _ _ _ _ _ _ _ z => z.elim, fun _ _ _ _ _ _ z => z.elim, fun _ _ _ _ _ _ z => z.elim⟩ pins s4 J
   refine auf run (fun f s5 z => ?_) fun _ _ z => by rw [show (X.hand e).xe = X.xe from rfl, hxf] at z; exact z
   cases f with
   | next =>
     obtain ⟨σ5, H5, I5, q⟩ := z
     exact ⟨[], σ5, H5, (I5.HR I.ok).abp, fun s6 I6 => ⟨_, _, I6.RZ I.ok, q⟩⟩
   | brk => obtain ⟨_, _, _, q⟩ := z; exact q.elim
   | cont => obtain ⟨_, _, _, q⟩ := z; exact q.elim
   | ret u => obtain ⟨_, _, _, _, _, q⟩ := z; exact q.elim
theorem Vn.hand {a : Addr} (h : Vn X i x) : Vn (X.hand a) i x := ⟨h.hi, h.hv, h.hd, h.rJ⟩
theorem Ln.hand {a : Addr} (h : Ln X i x) : Ln (X.hand a) i x := ⟨⟨h.hi, h.hv, h.hd, h.rJ⟩, h.loc, h.hf⟩
theorem sQ {t : T} {pos' : Pos} (nd : X.N.Nodup) (n : Ln X i x) (h : Q.T) (k : dY X CL b fS (δ1.set i (some t)) D) (hl : i < δ1.length := by exact atf rfl) (hs : Q.aK := by rfl) :
   dY X CL b (.Assign [.Name x pos'] e pos :: fS) δ D := dh (RN i h k hl nd n.hi n.loc hs n.hf)
theorem iX : bootBuiltins "ValueError" = some (.type "ValueError") := Q.f
end
variable {prog : Program} {w : World} {A : Around} {E : Q.v} {s : Shared}
def cD (ns : Q.h) : Nat -> Nat
 | 0 => 0
 | i + 1 => cD ns i + (if rN ns i (ns.getD i Str.empty) = true then 0 else 1)
theorem Wa (ns : Q.h) : ∀ i, cD ns i <= i
 | 0 => atq _
 | i + 1 => by have := Wa ns i; unfold cD; split <;> omega
variable {a : Addr} {ns : Q.h}
theorem Ye {R : Result -> Shared -> Prop} {I : Addr} {items : Array Value} (hh : A.in1.handled = none) (ZS : a ≠ I) {S : Addr} (hS1 : S ≠ I) (hS2 : S ≠ a) (hn : items.size = ns.length) (hb : ns.length + 1 < scanBound)
   (hv : ∀ (i : Nat) (v : Value), items[i]? = some v -> ∃ x t, ns[i]? = some x /\ v = Value.str x t) :
   ∀ (k i : Nat) (h : Heap) (tk : Nat), i + k = ns.length -> h.IsListIter I a i -> h.IsList a items -> h.SetOf (strKind prog w) S (rN ns i) (cD ns i) →
     (∀ h' tk', (∀ b o, b ≠ S -> b ≠ I -> h.get? b = some o -> h'.get? b = some o) -> h'.SetOf (strKind prog w) S (rN ns ns.length) (cD ns ns.length) -> R (.ok (.ret .none)) { s with heap := h', toks := tk' }) →
     codeAny Q.Q A (.builtin "set.update.loop" ⟨[.ref S, .ref I], []⟩) R { s with heap := h, toks := tk } := by
 have W := Walks.list (prog := prog) (w := w) (A := A.in1) hh I a ZS items
 have ag7 : ∀ {h h' : Heap} {f : Str -> Bool} {n : Nat}, (∀ b o, b ∉ [I] -> h.get? b = some o -> h'.get? b = some o) -> h.SetOf (strKind prog w) S f n -> h'.SetOf (strKind prog w) S f n := fun hk ⟨o, es, ep, t, ho, r⟩ => ⟨o, es, ep, t, hk S o (by simp [hS1]) ho, r⟩
 intro k
 induction k with
 | zero =>
   intro i h tk hi hit hl hs hR
   have ei : i = items.size := by omega
   refine codeAny_builtin F.entry_set_update_loop ?_
   rw [Around.under_plainId avn _]
   refine aty (m := pyNext (.ref I)) (W.done { s with heap := h, toks := tk } _ _ ⟨ei ▸ hit, hl⟩ fun h' tk' hk => ?_)
   refine at5 (hR h' tk' (fun b o _ b2 e => hk b o (by simp [b2]) e) (ag7 hk ?_))
   rw [← hn, ← ei]
   rw [ei] at hs ⊢
   exact hs
 | succ k ih =>
   intro i h tk hi hit hl hs hR
   refine codeAny_builtin F.entry_set_update_loop ?_
   rw [Around.under_plainId avn _]
   refine aty (m := pyNext (.ref I)) (W.item i { s with heap := h, toks := tk } _ _ Q.a ⟨hit, hl⟩ fun v h1 t1 hv1 st1 hk => ?_)
   obtain ⟨x, t, hx, rfl⟩ := hv i v hv1
   have hs1 := ag7 hk hs
   have hxi : i < ns.length := by omega
   have hxe : ns[i] = x := (atM.mp hx).2
   have hle := Wa ns i
   have hgd : ns.getD i Str.empty = x := by rw [atg, hx]; rfl
   refine aty (m := holding [Value.str x t] (setAdd S (.str x t))) (auL ?_)
   unfold setAdd
   refine auL (aty ((strKind prog w).pyHash (k := x) (strKind_is _ _ _ _) ?_))
   refine wpAny_setAddHashed_of (knd := strKind prog w) (strKind_is _ _ _ _) rfl hs1 Q.a fun h2 sb Ov => ?_
   have hs3 : h2.SetOf (strKind prog w) S (rN ns (i + 1)) (cD ns (i + 1)) := by
     have ec : cD ns (i + 1) = (if rN ns i x = true then cD ns i else cD ns i + 1) := by
       show cD ns i + (if rN ns i (ns.getD i Str.empty) = true then 0 else 1) = _
       rw [hgd]
       split <;> rfl
     have e : (fun k' => rN ns i k' || decide (k' = x)) = rN ns (i + 1) := by
       funext q
       unfold rN
       rw [au0, hx, ← Bool.decide_or]
       exact decide_eq_decide.mpr Q.r
     rw [← e, ec]
     exact Ov
   have k12 : ∀ b o, b ≠ S -> h1.get? b = some o -> h2.get? b = some o := fun b o hb e => (sb.2 b hb).trans e
   refine at5 ⟨plainId_quiet avn _, ih (i + 1) h2 _ Q.a (st1.1.at fun o e => k12 I o (auG hS1) e) (st1.2.at fun o e => k12 a o (auG hS2) e) hs3 fun h' tk' hk2 hs' => ?_⟩
   exact hR h' tk' (fun b o b1 b2 e => hk2 b o b1 b2 (k12 b o b1 (hk b o (by simp [b2]) e))) hs'
theorem LX {items : Array Value} {Q : Q.v} (hh : A.handled = none) (hl : s.heap.IsList a items) (hn : items.size = ns.length) (hb : ns.length + 1 < scanBound)
   (hv : ∀ (i : Nat) (v : Value), items[i]? = some v -> ∃ x t, ns[i]? = some x /\ v = Value.str x t)
   (hQ : ∀ h' tk, h'.SetOf (strKind prog w) s.heap.objs.size (rN ns ns.length) (cD ns ns.length) -> (∀ b o, s.heap.get? b = some o -> h'.get? b = some o) -> Q (.ref s.heap.objs.size) { s with heap := h', toks := tk }) :
   wpAny Q.Q A (call (.type "set") [.ref a]) Q E s := by
 obtain ⟨c, tl, q1⟩ := auQ.mro
 have q2 := auQ.made; have q3 := auQ.sub; have q4 := auQ.notType; have q5 := auQ.canCreate; have q6 := F.typeCall_set_1 (.ref a)
 refine wpAny_call (codeAny_of_tree (show wpAny _ _ (callAny (.type "set") _) _ _ _ from at5 ⟨Code.quiet_builtin _ Q.d, codeAny_builtin F.entry_type_call ?_⟩))
 rw [Around.under_plain (weight_type_call_type "set" [.ref a] []) rfl]
 repeat (any_goals (first | assumption | wp_step))
 refine au2 (code_set_new_1 (.ref a) (E := E) (Q₁ := fun z s₁ => ∃ led : Bool, z = .ref s.heap.objs.size /\ s₁ = { s with heap := s.heap.push { cls := .type "set", dict := none, data := .set #[] 0 (.fresh 0 0 led) } }) fun led => ⟨led, rfl, rfl⟩) fun r s1 hr => ?_
 cases r with
 | error e => exact hr
 | ok fl =>
   cases fl with
   | ret z =>
     obtain ⟨led, rfl, rfl⟩ := hr
     have hS : (s.heap.push { cls := .type "set", dict := none, data := .set #[] 0 (.fresh 0 0 led) }).get? s.heap.objs.size = some { cls := .type "set", dict := none, data := .set #[] 0 (.fresh 0 0 led) } := at4 _ rfl
     have hT : Shared.TypeIs { s with heap := s.heap.push { cls := .type "set", dict := none, data := .set #[] 0 (.fresh 0 0 led) } } (.ref s.heap.objs.size) "set" := ⟨_, hS, rfl⟩
     have q7 := auQ.init.lookup; have q8 := auQ.init.bind (.ref s.heap.objs.size)
     repeat (any_goals (first | assumption | wp_step))
     refine au2 (codeAny_call_builtin (R := wants (fun r s2 => r = .none /\ ∃ h' tk, s2 = { s with heap := h', toks := tk } /\ h'.SetOf (strKind prog w) s.heap.objs.size (rN ns ns.length) (cD ns ns.length) /\ ∀ b o, s.heap.get? b = some o -> h'.get? b = some o) E) auQ.init.plain F.entry_set_init (check_set_init_1 hT ?body)) fun r2 s2 hr2 => ?back
     case back =>
       cases r2 with
       | error e => exact hr2
       | ok fl =>
         cases fl with
         | ret z =>
           obtain ⟨rfl, h', tk, rfl, hS', hk'⟩ := hr2
           repeat (any_goals (first | assumption | wp_step))
           exact hQ _ _ hS' hk'
         | _ => exact hr2.elim
     case body =>
       have h0 := hl
       obtain ⟨⟨oc, od, ob, os⟩, hol, hcl, nl, hdl⟩ := hl
       cases hcl
       cases hdl
       have ao8 : (s.heap.push { cls := .type "set", dict := none, data := .set #[] 0 (.fresh 0 0 led) }).get? a = some { cls := .type "list", dict := od, data := .seq items nl, slots := os } := atu _ hol
       have hl1 : (s.heap.push { cls := .type "set", dict := none, data := .set #[] 0 (.fresh 0 0 led) }).IsList a items := ⟨_, ao8, rfl, nl, rfl⟩
       have p1 := F.sub_list_set; have p2 := F.sub_list_frozenset
       have p3 : (Value.type "list" == Value.type "dict") = false := by decide
       have ha : a < s.heap.objs.size := atA hol
       have hz : (s.heap.push { cls := .type "set", dict := none, data := .set #[] 0 (.fresh 0 0 led) }).objs.size = s.heap.objs.size + 1 := Heap.size_push ..
       unfold Builtin.«set.__init__» noKeywords Builtin.Frozenset.updateFrom
       generalize hPI : pyIter = PI
       wp_walk
       subst hPI
       refine wpAny_pyIter_list hl1 (aty (wpAny_runValue ?_))
       refine Ye (A := A.in1.in1) (S := s.heap.objs.size) (by simp [hh]) (by rw [hz]; exact at3 (Nat.lt_succ_of_lt ha)) (by rw [hz]; exact at3 (au8 _)) (Nat.ne_of_gt ha) hn hb hv ns.length 0 _ _ (Nat.zero_add _) ⟨_, at4 _ rfl, rfl, rfl⟩ (hl1.push _) ?_ fun h' tk' hk hS' => ?_
       . have hg : ((s.heap.push { cls := .type "set", dict := none, data := .set #[] 0 (.fresh 0 0 led) }).push { cls := .type "list_iterator", data := .fields #[.ref a, .int 0 0] }).get? s.heap.objs.size = some { cls := .type "set", dict := none, data := .set #[] 0 (.fresh 0 0 led) } := atu _ hS
         exact SetOf_congr ((setObjOf_fresh (knd := strKind prog w) led).setOf hg (by unfold scanBound; omega)) (fun q => by unfold rN; simp) rfl
       . refine at5 (at5 ⟨rfl, h', tk', rfl, hS', fun b o e => hk b o (at3 (atA e)) ?_ (atu _ (atu _ e))⟩)
         rw [hz]
         exact at3 (Nat.lt_succ_of_lt (atA e))
   | _ => exact hr.elim
variable {X : Cx}
theorem R0 (hc : X.calm = true) : vA X (.type "set") (fun xs H Q => ∃ (p : Addr) (ns : Q.h), xs = [.ref p] /\ vN X.K H p (ns.map V.str) /\ ns.length <= 1000 /\ ∀ l, H l = none -> Q (.ref l) (upd H l (.ext (abg X.prog X.w l (cD ns ns.length))))) := by
 intro pins s σ H xs us Q I r h
 obtain ⟨p, ns, rfl, hp, hn, q⟩ := h
 obtain ⟨u, rfl, ru⟩ := vals1 r
 cases ru
 obtain ⟨its, rv, pl, hz⟩ := I.list hp
 have hl : its.length = ns.length := by rw [← rv.length, as4]
 have hv : ∀ {ns : Q.h} {us : Q.q}, Vals (ns.map V.str) us -> ∀ (i : Nat) (v : Value), us[i]? = some v -> ∃ x t, ns[i]? = some x /\ v = Value.str x t := by
   intro ns
   induction ns with
   | nil => intro us h i v e; cases h; cases i <;> cases e
   | cons y ns ih =>
     intro us h i v e
     cases h with
     | cons r rr =>
       obtain ⟨t, rfl⟩ := r
       cases i with
       | zero => cases e; exact ⟨y, t, rfl, rfl⟩
       | succ i => exact ih rr i v e
 refine LX (ns := ns) (I.ok.hd hc) pl.isList (by rw [List.size_toArray, hl]) (by unfold scanBound; omega) (fun i v e => hv rv i v (by simpa using e)) fun h' tk hS ek => ?_
 have hS2 : abg X.prog X.w s.heap.objs.size (cD ns ns.length) h' := ⟨_, hS⟩
 refine ⟨.ref s.heap.objs.size, _, I.laid (t' := tk) (o := .ext (abg X.prog X.w s.heap.objs.size (cD ns ns.length))) ek (atq _) ⟨hS2, ?_, ?_⟩, rfl, q _ (I.gS.fresh (atq _))⟩
 . obtain ⟨_, o, _, _, _, e, _⟩ := hS2
   exact ⟨o, e⟩
 . rintro h1 h2 ⟨S, o, es, ep, t, e, rest⟩ k
   exact ⟨S, o, es, ep, t, k o e, rest⟩
variable {CL : Q.g} {b : Bx} {δ δ1 : Q.n} {e : Expr} {pos pp pq pr : Pos}
theorem R1 (g : Gx X) (hm : X.mg "len" = none) (hmr : X.mg "set" = none) (h : eK X CL b e δ (.lst (ns.map D.str)) δ1) (hn : ns.length <= 1000) (hg : Gl X "len") (hgr : Gl X "set") (hs : Q.aa := by exact cE rfl) :
   dH X CL b (.Call (.Name "len" pp) [.Call (.Name "set" pq) [e] [] pr] [] pos) δ (.sh (.int (cD ns ns.length : Nat))) δ1 := fun H Z σ ts vs Q S k =>
 dS (vZ LW hg hm PySem.boot_len (dm (qD (R0 g.calm) hgr hmr X6 (dm fh iA hs) (he := hs)) iA (cE rfl)) (he := cE rfl)) (h H Z σ ts vs _ S fun v H1 Z1 z1 k1 S1 r => by
   cases r with
   | lst hq rr =>
   have eu := X7 rr
   refine ⟨_, ns, rfl, by rw [← eu]; exact hq, hn, fun r hr => ⟨r, cD ns ns.length, rfl, bR, ath (Wa ns ns.length) hn, ?_⟩⟩
   have same : aT H1 (upd H1 r (.ext (abg X.prog X.w r (cD ns ns.length)))) := aT.upd hr
   obtain ⟨Z', z', S2⟩ := S1.back (t := .sh (.int (cD ns ns.length : Nat))) (v := .int (cD ns ns.length : Nat)) (fp := []) (W := Z1) (W' := Z1) same Q.j Q.j (S1.zh.trans same) (fun a o q z => by rw [q] at z; cases z) (fun a o q im => by
     by_cases ha : a = r
     . subst ha; rw [bR] at q; cases q; cases im
     . rw [aP ha] at q; exact S1.tp a o q im) (.sh (.int _)) auz (fun a ha => by cases ha) (.inl rfl)
   exact k _ _ _ (z1.trans z') (k1.trans same) S2)
theorem Wb {ns : Q.h} : ∀ i, i <= ns.length -> (cD ns i = i ↔ (ns.take i).Nodup)
 | 0, _ => by rw [List.take_zero]; exact ⟨fun _ => auz, fun _ => rfl⟩
 | i + 1, hi => by
   have ih := Wb (ns := ns) i Q.a
   have hle := Wa ns i
   have hx : ns[i]? = some (ns.getD i Str.empty) := by rw [atg, atm Q.a]; rfl
   rw [au0, hx, Option.toList_some, atR, ← ih]
   show cD ns i + (if rN ns i (ns.getD i Str.empty) = true then 0 else 1) = i + 1 ↔ _
   unfold rN
   by_cases z : ns.getD i Str.empty ∈ ns.take i
   . rw [atb (ata z)]
     refine ⟨fun q => by omega, fun q => absurd rfl (q.2.2 _ z _ (atD.mpr rfl))⟩
   . rw [as5 (fun q => z (as6 q))]
     refine ⟨fun q => ⟨by omega, aud.mpr ⟨att, auz⟩, fun a ha c hc e => z ?_⟩, fun q => by omega⟩
     rw [← atD.mp hc, ← e]
     exact ha
theorem ai4 : cD ns ns.length = ns.length ↔ ns.Nodup := by
 have := Wb (ns := ns) ns.length (atq _)
 rwa [List.take_length] at this
variable {i : Nat} {x : Str}
theorem Ln.pin {p : Q.o} (h : Ln X i x) : Ln (X.pinned p) i x := ⟨⟨h.hi, h.hv, h.hd, h.rJ⟩, h.loc, h.hf⟩
inductive LY where
 | ix (j : Nat) | fld (f : Str)
def T.core : T -> T
 | .pin _ t => t
 | t => t
def T.R3 : T -> T -> T
 | .pin y _, u => .pin y u
 | _, u => u
def T.kid : LY -> T -> Option T
 | .ix j, .lst ts => ts[j]?
 | .ix j, .tup ts => ts[j]?
 | .fld f, .ins _ fs => fs.lookup f
 | _, _ => none
def T.abu : LY -> T -> T -> T
 | .ix j, .lst ts, u => .lst (ts.set j u)
 | .ix j, .tup ts, u => .tup (ts.set j u)
 | .fld f, .ins c fs, u => .ins c (BD f u fs)
 | _, t, _ => t
def T.zA : List LY -> T -> Option T
 | [], t => some t.core
 | s :: p, t => (t.core.kid s).bind (T.zA p)
def T.F6 : List LY -> T -> T -> T
 | [], u, t => t.R3 u
 | s :: p, u, t => match t.core.kid s with
   | some k => t.R3 (t.core.abu s (T.F6 p u k))
   | none => t
def At1 (H : Hp) (v : V) : LY -> V -> Prop
 | .ix j, w => ∃ a us, v = .ref a /\ (H a = some (.lst us) \/ H a = some (.tup us)) /\ us[j]? = some w
 | .fld f, w => ∃ a C dx gs, v = .ref a /\ H a = some (.ins C dx gs) /\ gs.lookup f = some w
def KL (H : Hp) : V -> List LY -> V -> Prop
 | v, [], w => v = w
 | v, s :: p, w => ∃ u, At1 H v s u /\ KL H u p w
variable {H H' : Hp} {v : V}
theorem At1.mono (e : aT H H') {w : V} {s : LY} (h : At1 H v s w) : At1 H' v s w := by
 cases s with
 | ix j => obtain ⟨a, us, h1, h2, h3⟩ := h; exact ⟨a, us, h1, h2.imp (e _ _) (e _ _), h3⟩
 | fld f => obtain ⟨a, C, dx, gs, h1, h2, h3⟩ := h; exact ⟨a, C, dx, gs, h1, e _ _ h2, h3⟩
theorem At1.inj {w w' : V} {s : LY} (h : At1 H v s w) (q : At1 H v s w') : w = w' := by
 cases s with
 | ix j =>
   obtain ⟨a, us, h1, h2, h3⟩ := h
   obtain ⟨a', us', q1, q2, q3⟩ := q
   subst h1
   cases q1
   have e : us = us' := by
     rcases h2 with h2 | h2 <;> rcases q2 with q2 | q2 <;> rw [h2] at q2 <;> cases q2 <;> rfl
   subst e
   rw [h3] at q3
   exact atX q3
 | fld f =>
   obtain ⟨a, C, dx, gs, h1, h2, h3⟩ := h
   obtain ⟨a', C', dx', gs', q1, q2, q3⟩ := q
   subst h1
   cases q1
   rw [h2] at q2
   cases q2
   rw [h3] at q3
   exact atX q3
theorem KL.mono {H H' : Hp} (e : aT H H') : ∀ {p : List LY} {v w : V}, KL H v p w -> KL H' v p w
 | [], _, _, h => h
 | _ :: _, _, _, ⟨u, h, q⟩ => ⟨u, h.mono e, KL.mono e q⟩
theorem KL.inj {H : Hp} : ∀ {p : List LY} {v w w' : V}, KL H v p w -> KL H v p w' -> w = w'
 | [], _, _, _, h, q => h.symm.trans q
 | _ :: _, _, _, _, ⟨_, h1, h2⟩, ⟨_, q1, q2⟩ => by
   have := h1.inj q1
   subst this
   exact KL.inj h2 q2
theorem KL.snoc {H : Hp} {s : LY} : ∀ {p : List LY} {v w z : V}, KL H v p w -> At1 H w s z -> KL H v (p ++ [s]) z
 | [], _, _, z, h, q => by
   have h' : _ = _ := h
   subst h'
   exact ⟨z, q, rfl⟩
 | _ :: _, _, _, _, ⟨u, h1, h2⟩, q => ⟨u, h1, KL.snoc h2 q⟩
variable {K : Q.l} {Z Z' : Hp} {σ : L2.St} {ts tl : List T} {vs us : List V} {t u t0 : T} {v0 w : V} {fp : Q.p} {p : List LY}
theorem cP.abv (h : cP K CL H Z t v fp) : cP K CL H Z t.core v fp /\ ∀ {H' Z' : Hp} {u : T} {g : Q.p}, cP K CL H' Z' u v g -> cP K CL H' Z' (t.R3 u) v g := by
 cases h with
 | pin r => exact ⟨r, fun q => .pin q⟩
 | sh r => exact ⟨.sh r, fun q => q⟩
 | tup r q => exact ⟨.tup r q, fun q => q⟩
 | lst r q => exact ⟨.lst r q, fun q => q⟩
 | ins r q => exact ⟨.ins r q, fun q => q⟩
 | vC r q => exact ⟨.vC r q, fun q => q⟩
 | dct r q => exact ⟨.dct r q, fun q => q⟩
theorem eU.at {f : Str} : ∀ (fs : List Q.t) {gs : List (Str × V)} {fp : Q.p}, eU K CL H Z fs gs fp -> fs.lookup f = some t -> ∃ w f1 f2 f3, gs.lookup f = some w /\ fp = f1 ++ (f2 ++ f3) /\ cP K CL H Z t w f2 ∧
   ∀ {H' : Hp} {t' : T} {g : Q.p}, (∀ a ∈ f1 ++ f3, H' a = H a) -> cP K CL H' Z t' w g -> eU K CL H' Z (BD f t' fs) gs Q.ab := by
 intro fs
 induction fs with
 | nil => intro gs fp h e; cases e
 | cons p fs ih =>
   obtain ⟨x, t0⟩ := p
   intro gs fp h e
   cases h with
   | @cons _ _ v _ vs f0 g0 r rs =>
     rw [atW] at e
     cases hx : f == x with
     | true =>
       rw [hx] at e
       cases e
       have hxe : x = f := (au7.mp hx).symm
       refine ⟨v, [], f0, g0, by rw [atW, hx], rfl, r, fun {H' t' g} kk r' => ?_⟩
       rw [BD, atb hxe]
       exact eU.cons (fp := g) (gp := g0) r' (rs.mono Q.j fun a ha => kk a (by simpa using ha))
     | false =>
       rw [hx] at e
       obtain ⟨w, f1, f2, f3, h1, h2, h3, h4⟩ := ih rs e
       subst h2
       refine ⟨w, f0 ++ f1, f2, f3, by rw [atW, hx]; exact h1, by rw [atc], h3, fun {H' t' g} kk r' => ?_⟩
       rw [BD, as5 (fun z => by rw [z, auP] at hx; cases hx), atc]
       exact .cons (r.mono Q.j fun a ha => kk a (by simp [ha])) (h4 (fun a ha => kk a (by rw [atc]; exact as7 _ ha)) r')
theorem cP.kid {s : LY} {k : T} (zh : aT Z H) (h : cP K CL H Z t v fp) (hk : t.kid s = some k) : ∃ w f1 f2 f3, At1 H v s w /\ fp = f1 ++ (f2 ++ f3) /\ cP K CL H Z k w f2 ∧
   ∀ {H' : Hp} {k' : T} {g : Q.p}, (∀ c ∈ f1 ++ f3, H' c = H c) -> cP K CL H' Z k' w g -> cP K CL H' Z (t.abu s k') v Q.ab := by
 cases s with
 | ix j =>
   cases h with
   | @lst a us ts g ha rs =>
     obtain ⟨w, f1, f2, f3, h1, h2, h3, h4⟩ := rs.at (j := j) (t := k) hk
     subst h2
     refine ⟨w, a :: f1, f2, f3, ⟨a, us, rfl, .inl ha, h1⟩, rfl, h3, fun {H' k' g} kk r' => ?_⟩
     have q := h4 (fun c hc => kk c (atk _ hc)) r'
     rw [iW h1] at q
     exact .lst ((kk a ati).trans ha) q
   | @tup a us ts g ha rs =>
     obtain ⟨w, f1, f2, f3, h1, h2, h3, h4⟩ := rs.at (j := j) (t := k) hk
     subst h2
     refine ⟨w, f1, f2, f3, ⟨a, us, rfl, .inr (zh _ _ ha), h1⟩, rfl, h3, fun {H' k' g} kk r' => ?_⟩
     have q := h4 kk r'
     rw [iW h1] at q
     exact .tup ha q
   | _ => cases hk
 | fld f =>
   cases h with
   | @ins a dx c gs fs g ha rs =>
     obtain ⟨w, f1, f2, f3, h1, h2, h3, h4⟩ := eU.at fs rs (f := f) (t := k) hk
     subst h2
     refine ⟨w, a :: f1, f2, f3, ⟨a, _, dx, gs, rfl, ha, h1⟩, rfl, h3, fun {H' k' g} kk r' => ?_⟩
     exact .ins ((kk a ati).trans ha) (h4 (fun c hc => kk c (atk _ hc)) r')
   | _ => cases hk
theorem cP.focus (zh : aT Z H) : ∀ (p : List LY) {t u : T} {v : V} {fp : Q.p}, cP K CL H Z t v fp -> T.zA p t = some u -> ∃ w f1 f2 f3, KL H v p w /\ fp = f1 ++ (f2 ++ f3) /\ cP K CL H Z u w f2 ∧
   ∀ {H' : Hp} {u' : T} {g : Q.p}, (∀ c ∈ f1 ++ f3, H' c = H c) -> cP K CL H' Z u' w g -> cP K CL H' Z (T.F6 p u' t) v Q.ab
 | [], t, u, v, fp, h, e => by
   obtain ⟨h1, h2⟩ := h.abv
   cases e
   exact ⟨v, [], fp, [], rfl, by simp, h1, fun {H' u' g} _ r => by rw [auA, atY]; exact h2 r⟩
 | s :: p, t, u, v, fp, h, e => by
   obtain ⟨h1, h2⟩ := h.abv
   rw [T.zA] at e
   cases hk : t.core.kid s with
   | none => rw [hk] at e; cases e
   | some k =>
     rw [hk] at e
     obtain ⟨w1, a1, a2, a3, q1, q2, q3, q4⟩ := h1.kid zh hk
     obtain ⟨w, f1, f2, f3, r1, r2, r3, r4⟩ := cP.focus zh p q3 e
     subst q2 r2
     refine ⟨w, a1 ++ f1, f2, f3 ++ a3, ⟨w1, q1, r1⟩, by simp only [atc], r3, fun {H' u' g} kk r' => ?_⟩
     rw [T.F6, hk]
     have q := h2 (q4 (k' := T.F6 p u' k) (fun c hc => kk c (by
       rcases ate.mp hc with h | h
       . simp [h]
       . simp [h])) (r4 (fun c hc => kk c (by
       rcases ate.mp hc with h | h
       . simp [h]
       . simp [h])) r'))
     simpa only [List.append_assoc] using q
theorem bZ.R4 (S : Q.M) (ev : σ[i]? = some (some v0)) (hi : δ[i]? = some (some t0)) (hp : T.zA p t0 = some u) (Ka : KL H v0 p w) : ∃ f2 gp, cP K CL H Z u w f2 /\ bL K CL H Z ts vs gp /\ (f2 ++ gp).Nodup ∧
   ∀ {a : Addr} {o : HO} {u' : T} {tl' : List T} {us' : List V} {g VX : Q.p}, w = .ref a -> a ∈ f2 -> pG o = false -> cP K CL (upd H a o) Z u' w g -> bL K CL (upd H a o) Z tl' us' VX -> (g ++ VX).Nodup -> (∀ c ∈ g ++ VX, c ∈ f2 ++ gp) →
     bZ K CL b (upd H a o) Z (δ.set i (some (T.F6 p u' t0))) σ tl' us' := by
 obtain ⟨fp, gp, e, r, nd, k⟩ := S.rep
 obtain ⟨v1, e1, e2, e3, hv, v9, rt, put, _⟩ := e.get hi
 rw [ev] at hv
 cases hv
 obtain ⟨w', f1, f2, f3, at', hf, ru, put2⟩ := rt.focus S.zh p hp
 have hw := at'.inj Ka
 subst hw
 subst hf
 subst v9
 have hpm : ((e1 ++ ((f1 ++ (f2 ++ f3)) ++ e3)) ++ gp).Perm ((e1 ++ (f1 ++ (f3 ++ e3))) ++ (f2 ++ gp)) := auS.mpr fun c => by
   simp only [au1]; omega
 have nd0 := hpm.nodup_iff.mp nd
 have V8 := atR.mp nd0
 refine ⟨f2, gp, ru, r, V8.2.1, fun {a o u' tl' us' g VX} hwa ha hm hu ht hnd aaO => ?_⟩
 have hup : ∀ c ∈ e1 ++ (f1 ++ (f3 ++ e3)), upd H a o c = H c := fun c hc => aP fun z => V8.2.2 c hc a (as9 _ ha) z
 have q1 := put2 (H' := upd H a o) (fun c hc => hup c (by
   rcases ate.mp hc with h | h
   . simp [h]
   . simp [h])) hu
 have q2 := put (H' := upd H a o) Q.j (fun c hc => hup c (by
   rcases ate.mp hc with h | h
   . simp [h]
   . simp [h])) q1
 rw [iW ev] at q2
 have ama : ((e1 ++ (Q.ab ++ e3)) ++ VX).Perm ((e1 ++ (f1 ++ (f3 ++ e3))) ++ (g ++ VX)) := auS.mpr fun c => by
   simp only [au1]; omega
 refine S.RQ hm k (by simp [ha]) q2 ht (ama.nodup_iff.mpr (atR.mpr ⟨V8.1, hnd, fun c hc d hd => V8.2.2 c hc d (aaO d hd)⟩)) fun c hc => ?_
 refine hpm.mem_iff.mpr ?_
 rcases ate.mp (ama.mem_iff.mp hc) with h | h
 . exact as9 _ h
 . exact as7 _ (aaO c h)
theorem bZ.aew (S : Q.M) (ev : σ[i]? = some (some v0)) (hi : δ[i]? = some (some t0)) (hp : T.zA p t0 = some u) : ∃ w f2, KL H v0 p w /\ cP K CL H Z u w f2 := by
 obtain ⟨fp, gp, e, r, nd, k⟩ := S.rep
 obtain ⟨v1, e1, e2, e3, hv, v9, rt, put, _⟩ := e.get hi
 rw [ev] at hv
 cases hv
 obtain ⟨w', f1, f2, f3, at', hf, ru, put2⟩ := rt.focus S.zh p hp
 exact ⟨w', f2, at', ru⟩
theorem bZ.aex (S : Q.al) (ev : σ[i]? = some (some v0)) (hi : δ[i]? = some (some t0)) (hp : T.zA p t0 = some (.lst tl)) (Ka : KL H v0 p w) :
   ∃ a us, w = .ref a /\ H a = some (.lst us) /\ us.length = tl.length /\ bZ K CL b (upd H a (.lst (us ++ [v]))) Z (δ.set i (some (T.F6 p (.lst (tl ++ [t])) t0))) σ ts vs := by
 obtain ⟨f2, gp, ru, rr, nd, go⟩ := S.R4 ev hi hp Ka
 cases ru with
 | @lst a us _ g ha rs =>
   cases rr with
   | @cons _ _ _ _ ft gr q1 q2 =>
     have ne : ∀ c ∈ g ++ (ft ++ gr), c ≠ a := fun c hc z => by subst z; exact (aud.mp nd).1 hc
     have pm : ((a :: (g ++ (ft ++ []))) ++ gr).Perm ((a :: g) ++ (ft ++ gr)) := auS.mpr fun c => by simp only [au1, List.count_cons, List.count_nil]; omega
     exact ⟨a, us, rfl, ha, rs.length.symm, go rfl ati rfl (.lst bR (bL.app (rs.mono Q.j fun c hc => aP Q.W) (.cons (q1.mono Q.j fun c hc => aP Q.W) .nil)))
       (q2.mono Q.j fun c hc => aP Q.W) (pm.nodup_iff.mpr nd) fun c hc => pm.mem_iff.mp hc⟩
variable {j : Nat}
theorem bZ.ai6 (S : Q.al) (ev : σ[i]? = some (some v0)) (hi : δ[i]? = some (some t0)) (hp : T.zA p t0 = some (.lst tl)) (Ka : KL H v0 p w) (hj : j < tl.length) :
   ∃ a us, w = .ref a /\ H a = some (.lst us) /\ us.length = tl.length /\ bZ K CL b (upd H a (.lst (us.set j v))) Z (δ.set i (some (T.F6 p (.lst (tl.set j t)) t0))) σ ts vs := by
 obtain ⟨f2, gp, ru, rr, nd, go⟩ := S.R4 ev hi hp Ka
 cases ru with
 | @lst a us _ g ha rs =>
   cases rr with
   | @cons _ _ _ _ ft gr q1 q2 =>
     obtain ⟨w0, g1, g2, g3, h1, h2, h3, h4⟩ := rs.at (atm hj)
     subst h2
     have ne : ∀ c ∈ (g1 ++ (g2 ++ g3)) ++ (ft ++ gr), c ≠ a := fun c hc z => by subst z; exact (aud.mp nd).1 hc
     have sb : ((a :: (g1 ++ g3)) ++ (ft ++ gr)).Sublist ((a :: (g1 ++ (g2 ++ g3))) ++ (ft ++ gr)) := by
       simp only [atV, atc]
       exact List.Sublist.cons₂ _ (atO (atQ _) (auh _ _))
     have pm : ((a :: (g1 ++ (ft ++ g3))) ++ gr).Perm ((a :: (g1 ++ g3)) ++ (ft ++ gr)) := auS.mpr fun c => by simp only [au1, List.count_cons]; omega
     exact ⟨a, us, rfl, ha, rs.length.symm, go rfl ati rfl (.lst bR (h4 (fun c hc => aP (ne c (by
         rcases ate.mp hc with h | h
         . simp [h]
         . simp [h]))) (q1.mono Q.j fun c hc => aP Q.W)))
       (q2.mono Q.j fun c hc => aP Q.W) (pm.nodup_iff.mpr (nd.sublist sb)) fun c hc => sb.subset (pm.mem_iff.mp hc)⟩
section
variable {e0 e2 : Expr} {t1 : T} {Rk : List T} {d : L3.D} {D : g6} {pa pb ps : Pos} {fS : List Stmt}
def TPv (X : Cx) (CL : Q.g) (b : Bx) (e : Expr) (δ : Q.n) (i : Nat) (p : List LY) : Prop :=
 ∀ (H Z : Hp) (σ : L2.St) (ts : List T) (vs : List V) (Q : VK), bZ X.K CL b H Z δ σ ts vs -> (∀ v0 v H' Z', aT Z Z' -> aT H H' -> bZ X.K CL b H' Z' δ σ ts vs -> σ[i]? = some (some v0) -> KL H' v0 p v -> Q v H') -> Lj X e σ H Q
theorem aW (n : Vn X i x) (h : δ[i]? = some (some t)) : TPv X CL b Q.C δ i [] := fun H Z σ ts vs Q S k => by
 obtain ⟨v, hv, _⟩ := S.look h
 exact dS (oE n.hi n.hv n.hd n.rJ) ⟨v, hv, k v v H Z Q.j Q.j S hv rfl⟩
theorem ck {z : Int} (h : TPv X CL b e δ i p) (hi : δ[i]? = some (some t)) (hg : T.zA p t = some (.lst tl)) (h2 : eK X CL b e2 δ (.int z) δ) (hk : xQ tl.length z = some j) (hp : Bq e2 := by exact fun _ _ => rfl) :
   TPv X CL b (.Subscript e e2 pos) δ i (p ++ [.ix j]) := fun H Z σ ts vs Q S k =>
 dS (OX VJ fh fh hp) (h H Z σ ts vs _ S fun v0 v H' Z' z1 s1 S' ev Ka => h2 H' Z' σ ts vs _ S' fun v2 H2 Z2 z2 s2 S2 r2 => by
   have at2 := Ka.mono s2
   obtain ⟨w, f2, at', r⟩ := S2.aew ev hi hg
   have := at'.inj at2
   subst this
   cases r with
   | @lst a us _ g ha rs =>
     have hj : j < tl.length := (Bp hk).2.1
     obtain ⟨w, _, _, _, hw, _, _, _⟩ := rs.at (atm hj)
     refine ⟨a, us, z, w, rfl, r2.sc rfl, vN.of ha, ?_, k v0 w H2 Z2 Q.w (s1.trans s2) S2 ev (at2.snoc ⟨a, us, rfl, .inl ha, hw⟩)⟩
     unfold yW
     rw [← rs.length, hk]
     exact hw)
theorem c7 (h : TPv X CL b e δ i p) (hi : δ[i]? = some (some t)) (hg : T.zA p t = some u) (hd : u.iU = d) : eK X CL b e δ d δ := fun H Z σ ts vs Q S k =>
 h H Z σ ts vs _ S fun v0 v H' Z' z s S' ev Ka => by
   obtain ⟨w, f2, at', r⟩ := S'.aew ev hi hg
   have := at'.inj Ka
   subst this
   subst hd
   exact k _ H' Z' z s S' (r.iU S'.zh fun _ _ => rfl)
theorem wu (hE : TPv X CL b e0 δ i p) (h0 : δ[i]? = some (some t0)) (Yg : T.zA p t0 = some (.lst Rk)) (h : Q.T) (h1 : δ1[i]? = some (some t1)) (ZV : T.zA p t1 = some (.lst tl)) (hl : tl.length <= 1000000) (k : dY X CL b fS (δ1.set i (some (T.F6 p (.lst (tl ++ [t])) t1))) D)
   (Bt : attributeBase e0 "append" X.env (eval e0 X.env) = eval e0 X.env := by rfl)
   (Li : Q.bf := by rfl)
   (hline : (pa.endLine == pb.line) = true := by rfl) (hs : Q.aa := by exact cE rfl) (O4 : swapsWith (.Call (.Attribute e0 "append" pa) [e] [] pb) none pos.line X.env = pure false := by rfl) :
   dY X CL b (.Expr (.Call (.Attribute e0 "append" pa) [e] [] pb) pos :: fS) δ D := dh fun H Z σ ts vs E S M =>
 v8 (Bk (aaC avm PySem.F.slot_list_append PySem.F.type_list_append DT fh (dm fh iA hs) Bt Li hline hs rfl) O4) (hE H Z σ ts vs _ S fun v0 v H0 Z0 z0 s0 S0 ev Ka => by
   obtain ⟨w, f2, at', r⟩ := S0.aew ev h0 Yg
   have := at'.inj Ka
   subst this
   refine ⟨?_, h H0 Z0 σ ts vs _ S0 fun v2 H1 Z1 z1 k1 S1 => ?_⟩
   . cases r with
     | lst ha _ => exact .inl ⟨rfl, _, vN.of ha⟩
   . obtain ⟨a, us, ea, ha, hu, S2⟩ := S1.aex ev h1 ZV (Ka.mono k1)
     exact ⟨a, us, v2, ea, rfl, ha, by rw [hu]; exact auX hl (by rw [aui]; decide), M.nx _ σ _ Z1 (z0.trans z1) S2 k⟩)
theorem c6 {z : Int} (h : Q.T) (hE : TPv X CL b e0 δ1 i p) (h2 : eK X CL b e2 δ1 (.int z) δ1) (h1 : δ1[i]? = some (some t1)) (ZV : T.zA p t1 = some (.lst tl)) (hk : xQ tl.length z = some j) (kk : dY X CL b fS (δ1.set i (some (T.F6 p (.lst (tl.set j t)) t1))) D)
   (ha : ∀ v, assign (.Subscript e0 e2 ps) X.env v = (do
     let ov ← holding [v] (eval e0 X.env)
     let iv ← holding [v, ov] (eval e2 X.env)
     standAt ps
     holding [v, ov, iv] (setItem ov iv v)
     release [v, ov, iv] []) := by intro _; rfl)
   (hs : swapsWithSole [.Subscript e0 e2 ps] e pos.line X.env = pure false := by rfl) (hw : swappedStores [.Subscript e0 e2 ps] e X.env = pure none := by rfl) (ha1 : (assignEach [.Subscript e0 e2 ps] X.env).map (·.2) = [assign (.Subscript e0 e2 ps) X.env] := by rfl) :
   dY X CL b (.Assign [.Subscript e0 e2 ps] e pos :: fS) δ D := by
 refine dh fun H Z σ ts vs E S M => v8 (aak fh (aaj fh fh set_list ha) hs hw ha1) (h H Z σ ts vs _ S fun v H1 Z1 z1 k1 S1 => ?_)
 have hj : j < tl.length := (Bp hk).2.1
 refine hE H1 Z1 σ _ _ _ S1 fun v0 w H2 Z2 z2 k2 S2 ev Ka => h2 H2 Z2 σ _ _ _ S2 fun v2 H3 Z3 z3 k3 S3 r3 => ?_
 obtain ⟨a, us, ea, XI, hu, S4⟩ := S3.ai6 ev h1 ZV (Ka.mono k3) hj
 exact ⟨a, us, z, j, ea, r3.sc rfl, XI, by rw [hu]; exact hk, M.nx _ σ _ Z3 (z1.trans (z2.trans z3)) S4 kk⟩
end
theorem D4 {p : T} {ds : List D} : Keeps (some p :: δ) (p :: ds.map T.sh) := fun j y t h => by
 cases j with
 | zero => cases h; rfl
 | succ j =>
   have h' : (ds.map T.sh)[j]? = some (T.pin y t) := h
   rw [atE] at h'
   cases e : ds[j]? with
   | none => rw [e] at h'; cases h'
   | some d => rw [e] at h'; cases h'
def ai7 {α : Type} : Nat -> (List α -> Prop) -> Prop
 | 0, P => P []
 | n + 1, P => ∀ a, ai7 n fun r => P (a :: r)
variable {α : Type}
theorem qR {n : Nat} {P : List α -> Prop} (h : ai7 n P) : ∀ us : List α, us.length = n -> P us := by
 intro us hl
 induction us generalizing n P with
 | nil => subst hl; exact h
 | cons a r ih => subst hl; exact ih (P := fun r => P (a :: r)) (h a) rfl
abbrev kP (K : Q.l) (x : Str) (f : Addr) : Prop := PySem.W.nsIn K mainGlobals x = some (some (.ref f))
theorem ai8 (P : Program) (w : World) (mg : Q.B) (base : Heap) {K : Q.l} {h : Heap} (CL : Q.g) (XX : K.In h) (G : h.Ns mainGlobals mg) {x qual : Str} {st : Stmt} {f : Addr} {fd : FuncData} {N ps : Q.h} (k : Nat) {A : Type} (arg : A -> List D) (Pre : A -> Prop) (res : A -> T) (F : ow K x qual st f fd) (S : aZ N ps (az st)) (m : kP K x f)
   (hb : ∀ (lC : Value) (Ar : Around) (outer : List Env) (s : Shared) (H : Hp) (E : XK) (b : Bx) (a : A), jH k Q.aY -> cT (DR xS P w K mg base N qual (az st) f lC Ar outer s H E).nox -> Pre a →
     dY (DR xS P w K mg base N qual (az st) f lC Ar outer s H E).nox CL b (dW st) (entry N (arg a)) { nx := fun _ => res a = .sh .non, rt := fun t _ => t = res a })
   (q : ∀ (kV doc pm : Value) (an : Option Addr) (lC ct : Value), ai7 ps.length fun us => bindArgs (W.fnOf x qual (Bu st) (dW st) (az st) Value.none kV doc pm an lC ct) { pos := us } = pure (ps.zip us) := by (repeat intro _); rfl) :
   ∃ f fd ps', iy P w K mg base xS (k + 1) f fd ps' (XM K CL ps.length arg Pre res) /\ mg x = some (.ref f) /\ PySem.W.keepIn K (.ref f) = true /\ Binds K fd ps' [] := ⟨f, fd, ps, Lq F S fun a b c d e f g h r p => hb a b c d e f g h r ⟨⟨S.nd, rfl, .never⟩, r.units⟩ p, atB XX G m, F.kp, F.binds fun a b c d e f => qR (q a b c d e f)⟩
variable {es : List Expr}
theorem cMp {A : Type} {k n : Nat} {y : Addr} {al : List Addr -> List T} {arg : A -> List T} {Pre : A -> Prop} {res : A -> T} {out : A -> List T} (a : A) (nt : T) (F : FcM X CL x k n arg Pre res out) (hg : Gl X x) (h : TMv X CL b (e :: es) δ [i] (fun ys => ys.headD 0 = y /\ True) al δ1) (hp : Pre a) (aiS : res a = t) (aiT : za (out a) [y] [nt])
   (aiU : arg a = al [y] := by rfl) (hlen : (arg a).length = n := by rfl) (hil : i < δ1.length := by exact atf rfl)
   (Bo : Q.s := by decide) (he : Q.R := by exact cE rfl) (hpl : Q.ac := by rfl) :
   TEm X CL b Q.aw δ t (δ1.set i (some nt)) :=
 cM1 (fun _ => a) nt F hg h (fun _ _ => hp) (fun _ _ => aiS) (fun z hz => (show z = y from hz.1) ▸ aiT) (fun z hz => (show z = y from hz.1) ▸ aiU) (fun _ => hlen) hil Bo he hpl
def dw (k : Nat) (x : α) (l : List α) : List α := l.take k ++ x :: l.drop k
theorem oH {β : Type} (f : α -> β) (k : Nat) (x : α) (l : List α) : dw k (f x) (l.map f) = (dw k x l).map f := by
 unfold dw
 rw [auJ, atG, ava, List.map_drop]
theorem qE (k : Nat) (x : α) (l : List α) : (dw k x l).length = l.length + 1 := by
 unfold dw
 rw [ats, at8, at9, List.length_drop]
 omega
theorem j9 {k : Nat} {x y : α} {l : List α} : y ∈ dw k x l ↔ y = x \/ y ∈ l := by
 unfold dw
 rw [ate, atl]
 constructor
 . rintro (h | h | h)
   . exact .inr (auN h)
   . exact .inl h
   . exact .inr (List.mem_of_mem_drop h)
 . rintro (h | h)
   . exact .inr (.inl h)
   . rw [← List.take_append_drop k l, ate] at h
     exact h.imp id .inr
def apa : V -> List V -> Hp -> VK -> Prop := fun x vs H Q => ∃ l xs y k, x = .ref l /\ vs = [.int (k : Nat), y] /\ H l = some (.lst xs) /\ k <= xs.length /\ xs.length < sizeLine /\ Q .non (upd H l (.lst (dw k y xs)))
theorem ai9 : MtM X "list.insert" apa := by
 intro pins s σ H x vs v us Q I rx rv h
 obtain ⟨l, xs, y, k, rfl, rfl, hH, hk, hz, q⟩ := h
 cases rx
 obtain ⟨u1, u, rfl, ru1, ru⟩ := rv.two
 obtain ⟨t, rfl⟩ := ru1
 obtain ⟨z, its, n, r, hl, e⟩ := I.alr hH
 have aek : ¬(!Builtin.List.listFitsIndex (k : Int)) = true := by
   unfold Builtin.List.listFitsIndex
   rw [ata (show -(2 ^ 63 : Int) <= (k : Int) by omega), ata (show (k : Int) < 2 ^ 63 from Int.lt_of_le_of_lt (show (k : Int) <= ((sizeLine : Nat) : Int) by omega) (by rw [aui]; decide))]
   decide
 have hk2 : k <= its.length := by rw [← r.length]; exact hk
 have hsz : its.toArray.size <= sizeLine := by rw [atN]; omega
 obtain ⟨z, hz2⟩ : ∃ z : Int, z = (k : Int) := ⟨_, rfl⟩
 rw [← hz2] at aek ⊢
 refine call_meets PySem.F.slot_list_insert ⟨_, e, rfl⟩ PySem.F.entry_list_insert (PySem.F.args_list_insert_3 _ _ _) (PySem.AutoListH.list_insert_list_int_val_1 l its.toArray n z t u aek hsz) ⟨e, ?_⟩
 subst hz2
 refine ⟨.non, _, I.alp (its' := dw k u its) hH e ?_ ?_ ?_, rfl, q⟩
 . have e1 : ¬ ((k : Int) < 0) := by omega
   simp only [as5 e1, atH, atN, Nat.min_eq_left hk2]
   apply Array.ext'
   simp [dw]
   exact List.take_of_length_le (by rw [List.length_drop]; omega)
 . unfold dw
   exact (r.take k).append (.cons ru (r.drop k))
 . rw [qE]; omega
theorem bZ.aez {k : Nat} (S : Q.al) (ev : σ[i]? = some (some v0)) (hi : δ[i]? = some (some t0)) (hp : T.zA p t0 = some (.lst tl)) (Ka : KL H v0 p w) :
   ∃ a us, w = .ref a /\ H a = some (.lst us) /\ us.length = tl.length /\ bZ K CL b (upd H a (.lst (dw k v us))) Z (δ.set i (some (T.F6 p (.lst (dw k t tl)) t0))) σ ts vs := by
 obtain ⟨f2, gp, ru, rr, nd, go⟩ := S.R4 ev hi hp Ka
 cases ru with
 | @lst a us _ g ha rs =>
   cases rr with
   | @cons _ _ _ _ ft gr q1 q2 =>
     have hl := rs.length
     rw [← List.take_append_drop k tl, ← List.take_append_drop k us] at rs
     obtain ⟨g1, g2, rfl, r1, r2⟩ := bL.split (by rw [at9, at9, hl]) rs
     have ne : ∀ c ∈ (g1 ++ g2) ++ (ft ++ gr), c ≠ a := fun c hc z => by subst z; exact (aud.mp nd).1 hc
     have pm : ((a :: (g1 ++ (ft ++ g2))) ++ gr).Perm ((a :: (g1 ++ g2)) ++ (ft ++ gr)) := auS.mpr fun c => by simp only [au1, List.count_cons]; omega
     exact ⟨a, us, rfl, ha, hl.symm, go rfl ati rfl (.lst bR (bL.app (r1.mono Q.j fun c hc => aP Q.W) (.cons (q1.mono Q.j fun c hc => aP Q.W) (r2.mono Q.j fun c hc => aP Q.W))))
       (q2.mono Q.j fun c hc => aP Q.W) (pm.nodup_iff.mpr nd) fun c hc => pm.mem_iff.mp hc⟩
theorem bZ.aja {y0 : Addr} {k : T} (S : Q.M) (hi : δ[i]? = some (some (.pin y0 (.lst tl)))) (hj : tl[j]? = some k) : ∃ v0 w, σ[i]? = some (some v0) /\ At1 H v0 (.ix j) w /\ (∃ f2, cP K CL H Z k w f2) ∧
   ∀ {k' : T}, (∀ f2, cP K CL H Z k w f2 -> cP K CL H Z k' w f2) -> bZ K CL b H Z (δ.set i (some (.pin y0 (.lst (tl.set j k'))))) σ ts vs := by
 obtain ⟨fp, gp, e, r, nd, kk⟩ := S.rep
 obtain ⟨v1, e1, e2, e3, hv, v9, rt, put, _⟩ := e.get hi
 subst v9
 cases rt with
 | pin rt =>
   obtain ⟨w, f1, f2, f3, at1, hf, rk, put2⟩ := rt.kid S.zh (s := .ix j) (k := k) hj
   subst hf
   refine ⟨_, w, hv, at1, ⟨f2, rk⟩, fun {k'} g => ?_⟩
   have q2 := put Q.j (fun _ _ => rfl) (.pin (put2 (k' := k') (fun _ _ => rfl) (g f2 rk)))
   rw [iW hv] at q2
   exact ⟨⟨_, gp, q2, r, nd, kk⟩, S.bh, S.zz, S.zh, S.new, S.tp, S.tab⟩
section
variable {e0 e2 : Expr} {t1 : T} {Rk tl2 : List T} {D : g6} {pa pb pos' : Pos} {m : Nat} {fS : List Stmt} {y y0 : Addr}
theorem R5 {z : Int} (k : Nat) (hE : TPv X CL b e0 δ i p) (h0 : δ[i]? = some (some t0)) (Yg : T.zA p t0 = some (.lst Rk)) (h2 : eK X CL b e2 δ (.int z) δ) (h : Q.T) (h1 : δ1[i]? = some (some t1)) (ZV : T.zA p t1 = some (.lst tl)) (hz : z = (k : Int)) (hk : k <= tl.length) (hl : tl.length <= 1000000) (kk : dY X CL b fS (δ1.set i (some (T.F6 p (.lst (dw k t tl)) t1))) D)
   (Bt : attributeBase e0 "insert" X.env (eval e0 X.env) = eval e0 X.env := by rfl)
   (Li : ((backTo pb (starEach [e2, e] X.env)).all (fun x => !x.1) && (backToKw pb (keywordEach [] X.env)).all (fun x => x.1.isSome) && decide ([e2, e].length + ([] : List Keyword).length + (if ([] : List Keyword).isEmpty then 0 else 1) < 30)) = true := by rfl)
   (hline : (pa.endLine == pb.line) = true := by rfl) (hs : Q.aa := by exact cE rfl) (Ov : starEach [e2, e] X.env = (false, eval e2 X.env) :: starEach [e] X.env := by exact cE rfl)
   (hpl : (backTo pb (starEach [e] X.env)).any (·.1) = false := by rfl) (O4 : swapsWith (.Call (.Attribute e0 "insert" pa) [e2, e] [] pb) none pos.line X.env = pure false := by rfl) :
   dY X CL b (.Expr (.Call (.Attribute e0 "insert" pa) [e2, e] [] pb) pos :: fS) δ D := dh fun H Z σ ts vs E S M =>
 v8 (Bk (aaC avm PySem.F.slot_list_insert PySem.F.type_list_insert ai9 fh (dm fh (dm fh iA hs) Ov) Bt Li hline Ov hpl) O4) (hE H Z σ ts vs _ S fun v0 v H0 Z0 z0 s0 S0 ev Ka => by
   obtain ⟨w, f2, at', r⟩ := S0.aew ev h0 Yg
   have := at'.inj Ka
   subst this
   refine ⟨?_, h2 H0 Z0 σ ts vs _ S0 fun v2 H1 Z1 z1 k1 S1 r1 => h H1 Z1 σ ts vs _ S1 fun v3 H2 Z2 z2 k2 S2 => ?_⟩
   . cases r with
     | lst ha _ => exact .inl ⟨rfl, _, vN.of ha⟩
   . obtain ⟨a, us, ea, ha, hu, S3⟩ := S2.aez (k := k) ev h1 ZV ((Ka.mono k1).mono k2)
     have hv2 : v2 = .int z := r1.sc rfl
     exact ⟨a, us, v3, k, ea, by rw [hv2, hz], ha, by rw [hu]; exact hk, by rw [hu]; exact auX hl (by rw [aui]; decide), M.nx _ σ _ Z2 (z0.trans Q.w) S3 kk⟩)
theorem Wc (g : Gx X) (n : Ln X m x) (hE : TPv X CL b e δ i [.ix j]) (hi : δ[i]? = some (some (.pin y0 (.lst tl)))) (hj : tl[j]? = some (.lst tl2)) (hm : m < δ.length)
   (k : ∀ y, dY X CL b fS ((δ.set i (some (.pin y0 (.lst (tl.set j (.pin y (.lst tl2))))))).set m (some (.sh (.val (.ref y))))) D) (hs : Q.aK := by rfl) :
   dY X CL b (.Assign [.Name x pos'] e pos :: fS) δ D := dh fun H Z σ ts vs E S M =>
 v8 (Rt g.nd n.hi n.loc fh hs n.hf) (hE H Z σ ts vs _ S fun v0 v H' Z' z s S' ev Ka => by
   obtain ⟨v1, w, hv, at1, ⟨f2, rk⟩, go⟩ := S'.aja hi hj
   rw [ev] at hv
   cases hv
   obtain ⟨u, a1, a2⟩ := Ka
   have a2 : u = v := a2
   have := at1.inj a1
   subst this a2
   cases rk with
   | @lst a us _ g ha rs =>
     have S1 := go (k' := .pin a (.lst tl2)) (fun f2 r => .pin r)
     have S2 := S1.push (d := .val (.ref a)) (.val _)
     exact M.nx _ _ H' Z' z (S2.set (i := m) (by rw [atz]; exact hm)) (k a))
theorem g7 (n : Vn X m x) (hm : δ[m]? = some (some (.sh (.val (.ref y))))) (hi : δ[i]? = some (some (.pin y0 (.lst tl)))) (hj : tl[j]? = some (.pin y u)) : TPv X CL b Q.C δ i [.ix j] := fun H Z σ ts vs Q S k => by
 obtain ⟨v, hv, r⟩ := S.look hm
 obtain ⟨v1, w, hv1, at1, ⟨f2, rk⟩, _⟩ := S.aja hi hj
 rw [T.iU] at r
 cases r
 cases rk with
 | pin rk => exact dS (oE n.hi n.hv n.hd n.rJ) ⟨_, hv, k v1 _ H Z Q.j Q.j S hv1 ⟨_, at1, rfl⟩⟩
theorem KN (j : Nat) (hi : δ[i]? = some (some (.pin y0 (.lst tl)))) (hj : tl[j]? = some (.pin y u)) (k : dY X CL b fS (δ.set i (some (.pin y0 (.lst (tl.set j u))))) D) : dY X CL b fS δ D := fun H Z σ ts vs E S M => by
 obtain ⟨v1, w, hv1, at1, ⟨f2, rk⟩, go⟩ := S.aja hi hj
 exact k H Z σ ts vs E (go (k' := u) fun f2 r => by
   cases r with
   | pin r => exact r) M
end
end L3
namespace Law
open PySem L2 L3
def top (i : Nat) : Stmt := PySem.Challenge.pw_moodtree_k17_the_first_refusal_is_told.main.body.getD i (.Pass ⟨0, 0, 0, 0⟩)
def D5 : Nat -> List Int -> Int -> List Int
 | 0, _, _ => []
 | n + 1, es, k => if k = -1 then [] else k :: D5 n es (es.getD k.toNat 0)
def oB (es : Q.e) (m : Int) : List Int := D5 (es.length + 1) es (es.getD m.toNat 0)
def D6 (es : Q.e) : Prop := ∀ k : Nat, k < es.length -> -1 <= es.getD k 0 /\ es.getD k 0 < k
variable {es : Q.e}
theorem D6.at (h : D6 es) {k : Int} (h0 : 0 <= k) (h1 : k < es.length) : -1 <= es.getD k.toNat 0 /\ es.getD k.toNat 0 < k := by
 have := h k.toNat Q.a
 omega
def fJ (ks : Q.h) (es ss : Q.e) : L3.D := .ins "Tree" [("kinds", .lst (ks.map .str)), ("elders", .lst (es.map .int)), ("starts", .lst (ss.map .int))]
variable {ks : Q.h} {ss : Q.e}
theorem zB : List.lookup ("kinds" : Str) [(("kinds" : Str), L3.D.lst (ks.map .str)), ("elders", .lst (es.map .int)), ("starts", .lst (ss.map .int))] = some (.lst (ks.map .str)) := qe
theorem fC : List.lookup ("elders" : Str) [(("kinds" : Str), L3.D.lst (ks.map .str)), ("elders", .lst (es.map .int)), ("starts", .lst (ss.map .int))] = some (.lst (es.map .int)) := by
 rw [fN Q.d, qe]
theorem FQ : List.lookup ("starts" : Str) [(("kinds" : Str), L3.D.lst (ks.map .str)), ("elders", .lst (es.map .int)), ("starts", .lst (ss.map .int))] = some (.lst (ss.map .int)) := by
 rw [fN Q.d, fN Q.d, qe]
theorem bH (ds : List L3.D) : T.iU (.lst (ds.map T.sh)) = .lst ds := by rw [T.iU, rL]
theorem lD (l : Q.e) : (T.lst ((l.map L3.D.int).map T.sh)).clean = true := by rw [tF]; exact FH _
theorem zC (l : Q.h) : (T.lst ((l.map L3.D.str).map T.sh)).clean = true := by
 rw [tF]
 induction l with
 | nil => rfl
 | cons x l ih => exact ih
def BJ (ks : Q.h) (es ss : Q.e) : List Q.t := [("kinds", .lst ((ks.map .str).map T.sh)), ("elders", .lst ((es.map .int).map T.sh)), ("starts", .lst ((ss.map .int).map T.sh))]
theorem Yh (ks : Q.h) (es ss : Q.e) : T.iU (.ins "Tree" (BJ ks es ss)) = fJ ks es ss := by
 unfold BJ
 rw [T.iU, T.yO, T.yO, T.yO, T.yO, bH, bH, bH]
 rfl
theorem FT (ks : Q.h) (es ss : Q.e) : T.cQ (BJ ks es ss) = true := by
 unfold BJ
 rw [T.cQ, T.cQ, T.cQ, T.cQ, zC, lD, lD]
 rfl
theorem uq {es : Q.e} (h : D6 es) : ∀ (n : Nat) {k x : Int}, -1 <= k -> k < es.length -> x ∈ D5 n es k -> 0 <= x /\ x <= k
 | 0, k, x, _, _, hx => by rw [D5] at hx; cases hx
 | n + 1, k, x, h0, h1, hx => by
   rw [D5] at hx
   split at hx
   . cases hx
   . rename_i hk
     have ha := h.at (k := k) Q.a h1
     rcases atl.mp hx with rfl | hx
     . omega
     . have := uq h n Q.a Q.a hx
       omega
theorem HZ {es : Q.e} (h : D6 es) : ∀ (a b : Nat) {k : Int}, -1 <= k -> k < es.length -> k < a -> k < b -> D5 a es k = D5 b es k
 | 0, 0, _, _, _, _, _ => rfl
 | 0, b + 1, k, h0, _, ha, _ => by
   rw [D5, D5, atb Q.a]
 | a + 1, 0, k, h0, _, _, hb => by
   rw [D5, D5, atb Q.a]
 | a + 1, b + 1, k, h0, h1, ha, hb => by
   rw [D5, D5]
   split
   . rfl
   . have hk := h.at (k := k) Q.a h1
     rw [HZ h a b hk.1 Q.a Q.a Q.a]
variable {m : Int}
theorem LZ (h : D6 es) (h0 : 0 <= m) (h1 : m < es.length) : oB es m = if es.getD m.toNat 0 = -1 then [] else es.getD m.toNat 0 :: oB es (es.getD m.toNat 0) := by
 have hm := h.at h0 h1
 unfold oB
 rw [D5]
 split
 . rfl
 . rename_i hk
   have hk2 := h.at (k := es.getD m.toNat 0) Q.a Q.a
   rw [HZ h es.length (es.length + 1) hk2.1 Q.a Q.a Q.a]
variable {x : Int}
theorem GL (h : D6 es) (h0 : 0 <= m) (h1 : m < es.length) (hx : x ∈ oB es m) : 0 <= x /\ x < m /\ x < es.length := by
 have hm := h.at h0 h1
 have := uq h _ hm.1 Q.a hx
 omega
def tH (es : Q.e) : Prop := D6 es /\ ∀ k : Nat, k + 1 < es.length -> es.getD (k + 1) 0 = k \/ es.getD (k + 1) 0 ∈ oB es k
theorem Wd {es : Q.e} {x : Int} (h : D6 es) : ∀ (n : Nat) {k : Int}, -1 <= k -> k < es.length -> D5 n (es ++ [x]) k = D5 n es k
 | 0, _, _, _ => rfl
 | n + 1, k, h0, h1 => by
   rw [D5, D5]
   split
   . rfl
   . have hk := h.at (k := k) Q.a h1
     have e : (es ++ [x]).getD k.toNat 0 = es.getD k.toNat 0 := by
       rw [atg, avd Q.a, ← atg]
     rw [e, Wd h n hk.1 Q.a]
variable {k : Nat}
theorem Ic (h : k < es.length) : (es ++ [x]).getD k 0 = es.getD k 0 := by
 rw [atg, avd h, ← atg]
theorem L0 (h : D6 es) (h0 : 0 <= m) (h1 : m < es.length) : oB (es ++ [x]) m = oB es m := by
 have hm := h.at h0 h1
 unfold oB
 rw [Ic Q.a, Wd h _ hm.1 Q.a, HZ h _ (es.length + 1) hm.1 Q.a (by rw [ats]; omega) Q.a]
theorem D6.snoc (h : D6 es) (h0 : -1 <= x) (h1 : x < es.length) : D6 (es ++ [x]) := fun k hk => by
 rw [ats] at hk
 simp only [at8, List.length_nil] at hk
 by_cases e : k < es.length
 . rw [Ic e]
   exact h k e
 . have : k = es.length := by omega
   subst this
   rw [atg, auv (atq _)]
   simp
   omega
theorem tH.snoc (h : tH es) (hk : k + 1 = es.length) (hx : x = k \/ x ∈ oB es k) : tH (es ++ [x]) := by
 have hx' : -1 <= x /\ x < es.length := by
   rcases hx with e | e
   . omega
   . have := GL h.1 (m := (k : Int)) Q.a Q.a e
     omega
 refine ⟨h.1.snoc hx'.1 hx'.2, fun j hj => ?_⟩
 rw [ats] at hj
 simp only [at8, List.length_nil] at hj
 rw [L0 h.1 Q.a Q.a]
 by_cases e : j + 1 < es.length
 . rw [Ic e]
   exact h.2 j e
 . have : j = k := by omega
   subst this
   have e2 : (es ++ [x]).getD (j + 1) 0 = x := by
     rw [atg, auv Q.a, hk, avh]
     rfl
   rw [e2]
   exact hx
theorem L1 : ∀ (n : Nat) (es : Q.e) (k : Int), (D5 n es k).length <= n
 | 0, _, _ => atq _
 | n + 1, es, k => by
   rw [D5]
   split
   . exact atx _
   . exact Nat.succ_le_succ (L1 n es _)
def d8 (bs nm : List L3.D) (tr : L3.D) (is os ws : List L3.D) : L3.D := .ins "Chart" [("boxes", .lst bs), ("names", .lst nm), ("tree", tr), ("ins", .lst is), ("outs", .lst os), ("ways", .lst ws)]
variable {bs nm is os ws : List L3.D} {tr : L3.D}
theorem rO : List.lookup ("boxes" : Str) [(("boxes" : Str), L3.D.lst bs), ("names", .lst nm), ("tree", tr), ("ins", .lst is), ("outs", .lst os), ("ways", .lst ws)] = some (.lst bs) := qe
theorem iz : List.lookup ("names" : Str) [(("boxes" : Str), L3.D.lst bs), ("names", .lst nm), ("tree", tr), ("ins", .lst is), ("outs", .lst os), ("ways", .lst ws)] = some (.lst nm) := by
 rw [fN Q.d, qe]
theorem Ie : List.lookup ("tree" : Str) [(("boxes" : Str), L3.D.lst bs), ("names", .lst nm), ("tree", tr), ("ins", .lst is), ("outs", .lst os), ("ways", .lst ws)] = some tr := by
 rw [fN Q.d, fN Q.d, qe]
theorem KP : List.lookup ("ins" : Str) [(("boxes" : Str), L3.D.lst bs), ("names", .lst nm), ("tree", tr), ("ins", .lst is), ("outs", .lst os), ("ways", .lst ws)] = some (.lst is) := by
 rw [fN Q.d, fN Q.d, fN Q.d, qe]
theorem Ig : List.lookup ("outs" : Str) [(("boxes" : Str), L3.D.lst bs), ("names", .lst nm), ("tree", tr), ("ins", .lst is), ("outs", .lst os), ("ways", .lst ws)] = some (.lst os) := by
 rw [fN Q.d, fN Q.d, fN Q.d, fN Q.d, qe]
theorem Ih : List.lookup ("ways" : Str) [(("boxes" : Str), L3.D.lst bs), ("names", .lst nm), ("tree", tr), ("ins", .lst is), ("outs", .lst os), ("ways", .lst ws)] = some (.lst ws) := by
 rw [fN Q.d, fN Q.d, fN Q.d, fN Q.d, fN Q.d, qe]
def D7 (bs nm : List L3.D) : List Q.t := [("boxes", .lst (bs.map T.sh)), ("names", .lst (nm.map T.sh))]
def D8 (is os ws : List L3.D) : List Q.t := [("ins", .lst (is.map T.sh)), ("outs", .lst (os.map T.sh)), ("ways", .lst (ws.map T.sh))]
def wA (bs nm : List L3.D) (t : T) (is os ws : List L3.D) : List Q.t := D7 bs nm ++ (("tree" : Str), t) :: D8 is os ws
theorem R6 (bs nm : List L3.D) (t : T) (is os ws : List L3.D) : T.iU (.ins "Chart" (wA bs nm t is os ws)) = d8 bs nm t.iU is os ws := by
 unfold wA D7 D8
 rw [atV, atV, auA, T.iU, T.yO, T.yO, T.yO, T.yO, T.yO, T.yO, T.yO, bH, bH, bH, bH, bH]
 rfl
theorem cj {ds : List L3.D} (h : D.cZ ds = true) : (T.lst (ds.map T.sh)).clean = true := by
 rw [tF]
 induction ds with
 | nil => rfl
 | cons d ds ih =>
   rw [D.cZ, ato] at h
   rw [atG, T.eX, ih h.2, T.clean, h.1]; rfl
theorem L5 (h1 : D.cZ bs = true) (h2 : D.cZ nm = true) : T.cQ (D7 bs nm) = true := by
 unfold D7
 rw [T.cQ, T.cQ, T.cQ, cj h1, cj h2]; rfl
theorem L6 (h1 : D.cZ is = true) (h2 : D.cZ os = true) (h3 : D.cZ ws = true) : T.cQ (D8 is os ws) = true := by
 unfold D8
 rw [T.cQ, T.cQ, T.cQ, T.cQ, cj h1, cj h2, cj h3]; rfl
def cB (ns : Q.e) (k : Int) : Int := if k < ns.length then ns.getD k.toNat 0 else 0
def apb : List Nat := (List.range 26).map (· + 97) ++ (List.range 10).map (· + 48)
def apc (k : Int) : Str := ⟨#[apb.getD k.toNat 0]⟩
def amc (m : Int) : Int := (m * 48271 + 11) % 2147483647
def R7 (p : Int × Str) : Nat -> Int × Str
 | 0 => p
 | n + 1 => (amc (R7 p n).1, (R7 p n).2 ++ apc (amc (R7 p n).1 % 36))
theorem pJ (l : Q.e) : qO 60 (.lst (l.map .int)) := .lst fun d hd => by
 obtain ⟨i, _, rfl⟩ := atj.mp hd
 exact .int _ _
def yP (es : Q.e) (m : Int) : List Int := ((List.range es.length).filter (fun (i : Nat) => decide (es.getD i 0 = m))).map (fun (i : Nat) => (i : Int))
theorem aeA (es : Q.e) (m : Int) : (yP es m).length <= es.length := by
 unfold yP
 rw [as4]
 exact ath (List.length_filter_le _ _) Q.r
theorem Wf (h : x ∈ yP es m) : 0 <= x /\ x < es.length /\ es.getD x.toNat 0 = m := by
 unfold yP at h
 obtain ⟨i, hi, rfl⟩ := atj.mp h
 obtain ⟨h1, h2⟩ := auV.mp hi
 have h1 := atP.mp h1
 have h2 := as6 h2
 exact ⟨by omega, by omega, by rw [atH]; exact h2⟩
theorem aeB (h0 : 0 <= x) (h1 : x < es.length) (h2 : es.getD x.toNat 0 = m) : x ∈ yP es m := by
 unfold yP
 refine List.mem_map.mpr ⟨x.toNat, List.mem_filter.mpr ⟨List.mem_range.mpr Q.a, by simpa using h2⟩, by omega⟩
def BK : List Str := ["all", "and", "box", "call", "do", "far", "if", "in", "leaf", "near", "on", "one", "open", "out", "put", "say", "shut", "then", "to"]
def isLt (c : Nat) : Bool := decide (97 <= c) && decide (c <= 122)
def ur (c : Nat) : Bool := decide (48 <= c) && decide (c <= 57)
theorem Ii (c : Nat) : KD ⟨#[c]⟩ "abcdefghijklmnopqrstuvwxyz" = isLt c := by
 unfold KD
 rw [PySem.StrLaws.found_one]
 have e : ("abcdefghijklmnopqrstuvwxyz" : Str).cps.toList = (List.range 26).map (· + 97) := Q.f
 rw [e]
 apply auW.mpr
 simp only [isLt, aur, ato, atj, atP]
 constructor
 . rintro ⟨a, h, rfl⟩
   omega
 . intro h
   exact ⟨c - 97, by omega, by omega⟩
theorem Wg (c : Nat) : KD ⟨#[c]⟩ "abcdefghijklmnopqrstuvwxyz0123456789" = (isLt c || ur c) := by
 unfold KD
 rw [PySem.StrLaws.found_one]
 have e : ("abcdefghijklmnopqrstuvwxyz0123456789" : Str).cps.toList = (List.range 26).map (· + 97) ++ (List.range 10).map (· + 48) := Q.f
 rw [e]
 apply auW.mpr
 simp only [isLt, ur, aur, ato, Bool.or_eq_true, ate, atj, atP]
 constructor
 . rintro (⟨a, h, rfl⟩ | ⟨a, h, rfl⟩) <;> omega
 . intro h
   rcases h with h | h
   . exact .inl ⟨c - 97, by omega, by omega⟩
   . exact .inr ⟨c - 48, by omega, by omega⟩
def dO (x : Str) : Bool := decide (1 <= x.length) && (decide (x.length <= 12) && (!decide (x ∈ BK) && (isLt (x.cps.toList.getD 0 0) && x.cps.toList.all (fun c => isLt c || ur c))))
theorem aeC {x : Str} (h : x.length = 0) : x = "" := by
 obtain ⟨⟨l⟩⟩ := x
 have : l.length = 0 := h
 have e : l = [] := List.eq_nil_of_length_eq_zero this
 subst e
 rfl
variable {j : Nat}
theorem R8 {x : Str} {d : L3.D} (h : (pI x)[j]? = some d) : ∃ c, d = .str ⟨#[c]⟩ /\ x.cps.toList[j]? = some c := by
 unfold pI at h
 rw [atE] at h
 obtain ⟨c, hc, rfl⟩ := auc.mp h
 exact ⟨c, rfl, hc⟩
def rP (i : Int) (n : Nat) : Bool := decide (0 <= i) && decide (i < (n : Int))
def Rm (i : Int) : Bool := decide (-(10 ^ (30 : Int).toNat) < i) && decide (i < 10 ^ (30 : Int).toNat)
def D9 (n : Nat) (a c : Int) : Bool := (decide (a = -1) || rP a n) && Rm c
inductive ZW
 | R9 (x : Str) (m : Int)
 | num (mk : Str) (a1 c1 a2 c2 : Int)
def xX : ZW -> L3.D
 | .R9 x m => .tup [.str x, .int m]
 | .num mk a1 c1 a2 c2 => .tup [.str mk, .tup [.int a1, .int c1], .tup [.int a2, .int c2]]
def ZX (n m : Nat) : ZW -> Bool
 | .R9 _ k => rP k n
 | .num mk a1 c1 a2 c2 => decide (mk ∈ (["<", "<=", "=", "!="] : List Str)) && (D9 m a1 c1 && D9 m a2 c2)
def Sb : ZW -> Prop
 | .R9 x _ => x ∈ (["open", "shut"] : List Str)
 | .num mk _ _ _ _ => ¬ mk ∈ (["open", "shut"] : List Str)
theorem tK : ∀ al : List ZW, D.qc (.tup (al.map xX)) = true := fun al => bS (fun q => by cases q <;> rfl) al
def apd : L3.D -> L3.D
 | .tup [_, _, _, d, _, _] => d
 | d => d
inductive Ea
 | put (i a c : Int)
 | say (x : Str) (a c : Int)
 | call (x : Str)
def L7 : Ea -> L3.D
 | .put i a c => .tup [.str "put", .int i, .tup [.int a, .int c]]
 | .say x a c => .tup [.str "say", .str x, .tup [.int a, .int c]]
 | .call x => .tup [.str "call", .str x]
def ddL : Ea -> Prop
 | .put _ _ _ => True
 | .say x _ _ => x.length <= 1000
 | .call x => x.length <= 1000
structure PJ where
 src : Int
 sign : Str
 al : List ZW
 dl : List Ea
 tgt : Int
 mode : Str
def Yi (w : PJ) : L3.D := .tup [.int w.src, .str w.sign, .tup (w.al.map xX), .tup (w.dl.map L7), .int w.tgt, .str w.mode]
def Kc (l : Q.e) (s : Int) : List Int := if s ∈ l then l else l ++ [s]
def ZY (l : Q.e) : List (Key × L3.D) := l.map fun s => ((Sum.inl s : Key), L3.D.bl true)
theorem Wh (l : Q.e) (s : Int) : ((ZY l).any fun kv => decide (kv.1 = Sum.inl s)) = decide (s ∈ l) := by
 unfold ZY
 induction l with
 | nil => rfl
 | cons y l ih =>
   rw [atG, auo, ih]
   by_cases h : y = s
   . subst h; simp
   . have h' : ¬ s = y := fun e => h e.symm
     have h2 : ¬ (Sum.inl y : Key) = Sum.inl s := fun e => h (Sum.inl.inj e)
     simp [h', h2]
theorem aeD (l : Q.e) (s : Int) : HL (ZY l) (.inl s) (.bl true) = ZY (Kc l s) := by
 unfold HL
 rw [Wh]
 unfold Kc
 by_cases h : s ∈ l
 . rw [atb (ata h), atb h]
   unfold ZY
   rw [atF]
   refine auk fun y _ => ?_
   show (if (Sum.inl y : Key) = Sum.inl s then ((Sum.inl y : Key), L3.D.bl true) else ((Sum.inl y : Key), L3.D.bl true)) = _
   split <;> rfl
 . rw [if_neg (by simpa using h), if_neg h]
   unfold ZY
   rw [auJ]; rfl
def adds (l : Q.e) : List Int := l.foldl Kc []
theorem Yj (l : Q.e) (x : Int) : adds (l ++ [x]) = Kc (adds l) x := by unfold adds; rw [List.foldl_append]; rfl
theorem Eb : ∀ (l acc : Q.e), (l.foldl Kc acc).length <= acc.length + l.length /\ ∀ x, x ∈ l.foldl Kc acc ↔ x ∈ acc \/ x ∈ l
 | [], acc => ⟨atq _, fun x => by simp⟩
 | y :: l, acc => by
   obtain ⟨h1, h2⟩ := Eb l (Kc acc y)
   rw [List.foldl_cons]
   refine ⟨?_, fun x => (h2 x).trans ?_⟩
   . have : (Kc acc y).length <= acc.length + 1 := by unfold Kc; split <;> simp
     rw [at8]; omega
   . unfold Kc
     by_cases hy : y ∈ acc
     . rw [atb hy, atl]
       constructor
       . rintro (z | z)
         . exact .inl z
         . exact .inr (.inr z)
       . rintro (z | rfl | z)
         . exact .inl z
         . exact .inl hy
         . exact .inr z
     . rw [as5 hy, ate, atD, atl, or_assoc]
theorem aeE (l : Q.e) (s : Int) : (LR (ZY l) (.inl s)).isSome = decide (s ∈ l) := by
 rw [← Wh]
 unfold LR
 rw [Option.isSome_map]
 generalize ZY l = k
 induction k with
 | nil => rfl
 | cons y k ih =>
   rw [auI, auo]
   cases h : decide (y.1 = Sum.inl s) with
   | true => rfl
   | false => rw [Bool.false_or]; exact ih
structure abw (ks : Q.h) (es ss : Q.e) : Prop where
 pre : tH es
 n1 : 1 <= es.length
 n2 : es.length <= 900
 deep : ∀ m : Int, 0 <= m -> m < es.length -> (oB es m).length <= 12
 kl : ks.length = es.length
 sl : ss.length = es.length
 kinds : ∀ m : Nat, m < es.length -> ks.getD m Str.empty ∈ (["leaf", "one", "all"] : List Str) /\ decide (ks.getD m Str.empty = "leaf") = !decide ((m : Int) ∈ es)
 starts : ∀ m : Nat, m < es.length -> (ks.getD m Str.empty ≠ "one" /\ ss.getD m 0 = -1) \/ (ks.getD m Str.empty = "one" /\ rP (ss.getD m 0) es.length = true /\ es.getD (ss.getD m 0).toNat 0 = m)
def ddI (n : Nat) : Ea -> Bool
 | .put i a c => rP i n && D9 n a c
 | .say x a c => dO x && D9 n a c
 | .call x => dO x
def PJ.Ok (n m : Nat) (w : PJ) : Prop := rP w.src n = true /\ (w.sign.length <= 1000 /\ dO w.sign = true) /\ w.mode ∈ (["new", "near", "far"] : List Str) /\ ((w.tgt = -1 /\ w.mode = "new") \/ (w.tgt ≠ -1 /\ rP w.tgt n = true)) /\ ∀ q ∈ w.al, Sb q /\ ZX n m q = true
def kL (q : Str × Int) : L3.D := .tup [.str q.1, .int q.2]
variable {b : Bool}
theorem nbT (h : (!b) = false) : b = true := by cases b <;> first | rfl | cases h
theorem nbF (h : (!b) = false) : ¬ b = false := by rw [nbT h]; decide
theorem ZZ (h : (!b) = true) : b = false := by cases b <;> first | rfl | cases h
variable {α : Type}
theorem ape {p : α -> Bool} {l : List α} (h : ∀ (j : Nat) (x : α), l[j]? = some x -> p x = true) : l.all p = true := atL.mpr fun x hx => by
 obtain ⟨j, hj, e⟩ := List.getElem_of_mem hx
 exact h j x (by rw [atm hj, e])
theorem F7 {p : α -> Bool} {l : List α} {x : α} (h : x ∈ l) (hx : p x = false) : l.all p = false := List.all_eq_false.mpr ⟨x, h, by rw [hx]; decide⟩
def yQ (p : α -> Bool) (l : List α) (j : Nat) : Prop := ∀ (q : Nat) (x : α), q < j -> l[q]? = some x -> p x = true
theorem yQ.zero {p : α -> Bool} {l : List α} : yQ p l 0 := fun q x h => absurd h (Nat.not_lt_zero q)
theorem yQ.next {p : α -> Bool} {l : List α} {x : α} (h : yQ p l j) (hx : l[j]? = some x) (hp : p x = true) : yQ p l (j + 1) := fun q y hq hy => by
 by_cases e : q = j
 . subst e
   rw [hx] at hy
   cases hy
   exact hp
 . exact h q y Q.a hy
theorem yQ.all {p : α -> Bool} {l : List α} (h : yQ p l l.length) : l.all p = true := ape fun j x hj => h j x (atM.mp hj).1 hj
inductive pV
 | put (i a c : Int)
 | say (w x : Str) (a c : Int)
 | call (x : Str)
def F8 : pV -> L3.D
 | .put i a c => .tup [.str "put", .int i, .tup [.int a, .int c]]
 | .say w x a c => .tup [.str w, .str x, .tup [.int a, .int c]]
 | .call x => .tup [.str "call", .str x]
def Kd : pV -> Prop
 | .put _ _ _ => True
 | .say w x _ _ => (w ≠ "put" /\ w ≠ "call") /\ x.length <= 1000
 | .call x => x.length <= 1000
def Yk (n : Nat) : pV -> Bool
 | .put i a c => rP i n && D9 n a c
 | .say w x a c => decide (w = "say") && (dO x && D9 n a c)
 | .call x => dO x
theorem pA (q : pV) : (F8 q).qc = true := by cases q <;> rfl
def bX (l : List pV) : L3.D := .tup (l.map F8)
theorem iY (l : List pV) : (bX l).qc = true := bS pA l
structure pR where
 src : Int
 sign : Str
 al : List ZW
 dl : List pV
 tgt : Int
 mode : Str
def jK (w : pR) : L3.D := .tup [.int w.src, .str w.sign, .tup (w.al.map xX), bX w.dl, .int w.tgt, .str w.mode]
def uv : List Str := ["new", "near", "far"]
def Sd (n m : Nat) (w : pR) : Bool := rP w.src n && (dO w.sign && (decide (w.mode ∈ uv) && ((if w.tgt = -1 then decide (w.mode = "new") else rP w.tgt n) && w.al.all (ZX n m))))
def pR.ok (w : pR) : Prop := w.sign.length <= 1000 /\ ∀ q ∈ w.al, Sb q
def Ij (n m : Nat) : Int -> List pR -> Bool
 | _, [] => true
 | l, w :: ws => !decide (w.src < l) && (Sd n m w && Ij n m w.src ws)
def lF (l : Q.h) : Bool := l.all dO && decide l.Nodup
def pK (l : Q.D) : Bool := l.all (fun q => Rm q.2) && lF (l.map (·.1))
def oz (nl bl : Nat) (is os : List (List pV)) (ws : List pR) : Bool := decide (is.length = nl) && (decide (os.length = nl) && (is ++ os ++ ws.map (·.dl)).all fun l => l.all (Yk bl))
def Ec : List Str := ["leaf", "one", "all"]
def kdO (ks : Q.h) (es : Q.e) (m : Nat) : Bool := decide (ks.getD m Str.empty ∈ Ec) && (decide (ks.getD m Str.empty = "leaf") == !decide ((m : Int) ∈ es))
def Se (ks : Q.h) (es : Q.e) : Bool := (List.range ks.length).all (kdO ks es)
def Z6 (ks : Q.h) (es ss : Q.e) (m : Nat) : Bool := if ks.getD m Str.empty = "one" then rP (ss.getD m 0) es.length && decide (es.getD (ss.getD m 0).toNat 0 = (m : Int)) else decide (ss.getD m 0 = -1)
def PK (ks : Q.h) (es ss : Q.e) : Bool := (List.range ss.length).all (Z6 ks es ss)
def GN (es : Q.e) : Nat -> Bool
 | 0 => decide (es.getD 0 0 = -1)
 | j + 1 => GN es j && (decide (es.getD (j + 1) 0 ∈ (j : Int) :: oB es (j : Int)) && decide ((oB es ((j : Int) + 1)).length <= 12))
def BL (ks : Q.h) (es ss : Q.e) (nl : Nat) : Bool := decide (0 < ks.length) && (decide (es.length = ks.length) && (decide (ss.length = ks.length) && (decide (nl = ks.length) && (GN es (es.length - 1) && (Se ks es && PK ks es ss)))))
def Sf (es : Q.e) (m : Int) : Prop := ∀ k : Nat, k < es.length -> (k : Int) <= m -> -1 <= es.getD k 0 /\ es.getD k 0 < (k : Int)
theorem Sf.at {k : Int} (h : Sf es m) (k0 : 0 <= k) (k1 : k < es.length) (km : k <= m) : -1 <= es.getD k.toNat 0 /\ es.getD k.toNat 0 < k := by
 have := h k.toNat Q.a Q.a
 omega
theorem Sf.uq (h : Sf es m) : ∀ (n : Nat) {k : Int}, -1 <= k -> k < es.length -> k <= m -> ∀ x ∈ D5 n es k, 0 <= x /\ x <= k
 | 0, _, _, _, _, x, hx => by rw [D5] at hx; cases hx
 | n + 1, k, k0, k1, km, x, hx => by
   rw [D5] at hx
   by_cases e : k = -1
   . rw [atb e] at hx; cases hx
   . rw [as5 e] at hx
     have ha := h.at (k := k) Q.a k1 km
     rcases atl.mp hx with rfl | hx
     . omega
     . have := h.uq n ha.1 Q.a Q.a x hx
       omega
theorem Ik {es : Q.e} : ∀ {j : Nat}, j < es.length -> GN es j = true -> Sf es (j : Int)
 | 0, hj, h => fun k hk hm => by
   have e : es.getD 0 0 = -1 := as6 h
   have : k = 0 := by omega
   subst this
   omega
 | j + 1, hj, h => fun k hk hm => by
   rw [GN, ato, ato] at h
   have ih := Ik (j := j) Q.a h.1
   by_cases e : k = j + 1
   . subst e
     have hin := as6 h.2.1
     rcases atl.mp hin with z | z
     . omega
     . have ha := ih.at (k := (j : Int)) Q.a Q.a Q.a
       have := ih.uq (es.length + 1) ha.1 Q.a Q.a _ z
       omega
   . exact ih k hk Q.a
theorem BO {es : Q.e} : ∀ {i j : Nat}, i <= j -> GN es i = false -> GN es j = false
 | i, 0, h, e => by
   have : i = 0 := by omega
   subst this
   exact e
 | i, j + 1, h, e => by
   by_cases q : i = j + 1
   . subst q; exact e
   . rw [GN, BO (i := i) (j := j) Q.a e]
     rfl
def iE (bs : Q.D) (nm ks : Q.h) (es ss : Q.e) (is os : List (List pV)) (ws : List pR) : Int :=
 if BL ks es ss nm.length = false then 0 else if lF nm = false then 1 else if pK bs = false then 2 else if oz nm.length bs.length is os ws = false then 3 else if Ij nm.length bs.length 0 ws = false then 4 else -1
def Il (k : Int) : Str := if k = 0 then "BadTree" else if k = 1 then "BadName" else if k = 2 then "BadBox" else if k = 3 then "BadDeed" else "BadWay"
structure BP (bs : Q.D) (nm ks : Q.h) (is os : List (List pV)) (ws : List pR) : Prop where
 k1 : ks.length <= 900
 n1 : ∀ x ∈ nm, x.length <= 1000
 n2 : nm.length <= 1000
 b1 : ∀ q ∈ bs, q.1.length <= 1000
 b2 : bs.length <= 1000
 i1 : is.length <= 300
 o1 : os.length <= 300
 w1 : ws.length <= 100
 d1 : ∀ l ∈ is ++ os ++ ws.map (·.dl), ∀ q ∈ l, Kd q
 w2 : ∀ w ∈ ws, w.ok
def prV (bs : Q.D) (nm ks : Q.h) (es ss : Q.e) (is os : List (List pV)) (ws : List pR) : L3.D := .lst [.lst (bs.map kL), .lst (nm.map .str), .lst (ks.map .str), .lst (es.map .int), .lst (ss.map .int), .lst (is.map bX), .lst (os.map bX), .lst (ws.map jK)]
structure Pt where
 bs : List (Str × Int)
 nm : List Str
 ks : List Str
 es : List Int
 ss : List Int
 is : List (List pV)
 os : List (List pV)
 ws : List pR
def Rn (p : Pt) : List T := [.lst ((p.bs.map kL).map T.sh), .lst ((p.nm.map .str).map T.sh), .lst ((p.ks.map .str).map T.sh), .lst ((p.es.map .int).map T.sh), .lst ((p.ss.map .int).map T.sh), .lst ((p.is.map bX).map T.sh), .lst ((p.os.map bX).map T.sh), .lst ((p.ws.map jK).map T.sh)]
def uw (p : Pt) : T := .lst (Rn p)
def Pt.ref (p : Pt) : Int := iE p.bs p.nm p.ks p.es p.ss p.is p.os p.ws
def Ke (x : Str) : List Str := ["", "to", "Far", "9a", "a-b", "leaf", x ++ (" " : Str), (" " : Str) ++ x, "abcdefghijklm", x ++ ("_" : Str), "shut", "a.b"]
def qf (c : Int) (x : Str) : Str := (Ke x).getD (c % 12).toNat Str.empty
def bmL : List Int := [0, 10 ^ (30 : Int).toNat, 0 - 10 ^ (30 : Int).toNat, 10 ^ (31 : Int).toNat]
def bmN (c : Int) : Int := bmL.getD (c / 4 % 4).toNat 0
def qS (c : Int) (n : Nat) : Int × Int := (if bmN c = 0 then ([(n : Int), -2, (n : Int) + 3] : List Int).getD (c / 16 % 3).toNat 0 else c / 16 % ((n : Int) + 1) - 1, bmN c)
def wrL : List Str := ["tell", "", "Say", "out", "puts"]
def BQ (c : Int) (n : Nat) : pV :=
 if c % 6 = 5 then .say (wrL.getD (c / 6 % 5).toNat Str.empty) "word" (-1) 0
 else if c % 6 = 0 then .put (([(n : Int), -1, (n : Int) + 2] : List Int).getD (c / 6 % 3).toNat 0) (-1) 4
 else if c % 6 = 1 /\ 0 < n then .put (c / 6 % (n : Int)) (qS (c / 6 / (n : Int)) n).1 (qS (c / 6 / (n : Int)) n).2
 else if c % 6 = 2 then .call (qf (c / 6) "go")
 else if c % 6 = 3 then .say "say" (qf (c / 6) "go") (-1) 0
 else .say "say" "word" (qS (c / 6) n).1 (qS (c / 6) n).2
def baL : List Str := ["<>", "", ">", "=="]
def wB (c : Int) (m n : Nat) : ZW :=
 if c % 4 = 0 then .R9 ((["open", "shut"] : List Str).getD (c / 4 % 2).toNat Str.empty) (([(n : Int), -1] : List Int).getD (c / 4 / 2 % 2).toNat 0)
 else if c % 4 = 1 then .num (baL.getD (c / 4 % 4).toNat Str.empty) (-1) 1 (-1) 2
 else if c % 4 = 2 then .num "<=" (qS (c / 4) m).1 (qS (c / 4) m).2 (-1) 0
 else .num "!=" (-1) 0 (qS (c / 4) m).1 (qS (c / 4) m).2
def iF (p : Pt) (c : Int) : Pt :=
 let i := (c / 2 % (p.nm.length : Int)).toNat
 let l := p.nm.set i Q.aO
 { p with nm := if c % 2 = 1 /\ 1 < p.nm.length then l.set i (l.getD (((i : Int) + 1 + c / 100 % ((p.nm.length : Int) - 1)) % (p.nm.length : Int)).toNat Str.empty) else l }
def w05 : Str × Int := ("w0", 5)
def L8 (l : Q.D) : List (Str × Int) := if l = [] then [w05] else l
def PL (l : Q.D) (c : Int) : List (Str × Int) :=
 let i := (c / 4 % (l.length : Int)).toNat
 let q := l.getD i w05
 if c % 4 = 0 then l.set i (qf (c / 40) q.1, q.2) else if c % 4 = 1 then dw i (q.1, c / 40 % 7) l
 else if c % 4 = 2 then l.set i (q.1, 10 ^ (30 : Int).toNat + c / 40 % 5) else l.set i (q.1, 0 - 10 ^ (30 : Int).toNat - c / 40 % 5)
def rQ (p : Pt) (c : Int) : Pt := { p with bs := PL (L8 p.bs) c }
def Sg (c : Int) (d : pV) (l : List (List pV)) (i : Nat) : List (List pV) := l.set i (dw (c % (((l.getD i []).length : Int) + 1)).toNat d (l.getD i []))
def Ed (c : Int) (l : List (List pV)) : List (List pV) := if c / 8 % 2 = 1 then (l ++ [[]]).take ((l ++ [[]]).length - 2) else l ++ [[]]
def Im (ws : List pR) : Int := match ws.getLast? with
 | some w => w.src
 | none => 0
def gQ (p : Pt) (c : Int) : Pt :=
 let d := BQ (c / 1000) p.bs.length
 let i := (c / 4 % (p.is.length : Int)).toNat
 if c % 4 = 0 then { p with is := Sg (c / 300) d p.is i } else if c % 4 = 1 then { p with os := Sg (c / 300) d p.os i }
 else if c % 4 = 2 then (if c / 4 % 2 = 0 then { p with is := Ed c p.is } else { p with os := Ed c p.os })
 else { p with ws := p.ws ++ [⟨Im p.ws, "go", [], [.call "go", d], -1, "new"⟩] }
def Wi : pR := ⟨0, "go", [], [], 0, "new"⟩
def w01 : pR := ⟨0, "go", [], [], -1, "new"⟩
def Bh (l : List pR) : List pR := if l = [] then [Wi] else l
def sR (c k : Int) (m n : Nat) (w : pR) : pR :=
 if k < 3 then { w with src := ([-1, (n : Int), (n : Int) + 1] : List Int).getD k.toNat 0 }
 else if k = 3 then { w with sign := qf c "go" }
 else if k = 4 then { w with tgt := ([(n : Int), -2] : List Int).getD (c % 2).toNat 0 }
 else if k = 5 then { w with mode := (["", "fresh", "New"] : List Str).getD (c % 3).toNat Str.empty }
 else if k = 6 then { w with tgt := -1, mode := (["near", "far"] : List Str).getD (c % 2).toNat Str.empty }
 else if k = 7 then { w with al := dw (c % ((w.al.length : Int) + 1)).toNat (wB (c / 4) m n) w.al }
 else { w with src := 1 }
def zE (l : List pR) (c : Int) (m n : Nat) : List pR :=
 let i := (c / 9 % (l.length : Int)).toNat
 (if c % 9 = 8 then l ++ [w01] else l).set i (sR (c / 1000) (c % 9) m n (l.getD i Wi))
def kI (p : Pt) (c : Int) : Pt := { p with ws := zE (Bh p.ws) c p.bs.length p.nm.length }
def kwL : List Str := ["ones", "", "One", "leafs"]
def n14 : List Str := ["n0", "n1", "n2", "n3", "n4", "n5", "n6", "n7", "n8", "n9", "n10", "n11", "n12", "n13"]
def k14 : List Str := List.replicate 13 ("one" : Str) ++ [("leaf" : Str)]
def e14 : List Int := (List.range 14).map fun k : Nat => (k : Int) - 1
def s14 : List Int := ((List.range 13).map fun k : Nat => (k : Int) + 1) ++ [-1]
def F9 (c : Int) (n : Nat) (l : Q.e) : List Int := if c / 1400 % 2 = 1 then (l ++ [-1]).take (n - 1) else l ++ [-1]
def ja (p : Pt) (c : Int) : Nat := (c / 10 % (p.nm.length : Int)).toNat
def dP (p : Pt) (c : Int) : Pt :=
 if c % 10 = 0 then { p with es := p.es.set (ja p c) (ja p c : Int) }
 else if c % 10 = 1 then { p with es := p.es.set (ja p c) ((ja p c : Int) + 1) }
 else if c % 10 = 2 then { p with es := p.es.set (ja p c) (if ja p c = 0 then -2 else -1) }
 else if c % 10 = 3 then { p with ks := p.ks.set (ja p c) (kwL.getD (c / 700 % 4).toNat Str.empty) }
 else if c % 10 = 4 then { p with ks := p.ks.set (ja p c) (if p.ks.getD (ja p c) Str.empty = "leaf" then "all" else "leaf"), ss := p.ss.set (ja p c) (-1) }
 else if c % 10 = 5 then { p with ss := p.ss.set (ja p c) Q.bg }
 else if c % 10 = 6 then { p with nm := (dw (ja p c) ("more" : Str) p.nm).take (if c / 700 % 2 = 0 then p.nm.length + 1 else p.nm.length - 1) }
 else if c % 10 = 7 then (if c / 700 % 2 = 0 then { p with es := F9 c p.nm.length p.es } else { p with ss := F9 c p.nm.length p.ss })
 else if c % 10 = 8 then { p with nm := [], ks := [], es := [], ss := [], is := [], os := [] }
 else { p with nm := n14, ks := k14, es := e14, ss := s14 }
variable {p : Pt} {c : Int}
theorem st0 (e : c % 10 = 0) : dP p c = { p with es := p.es.set (ja p c) (ja p c : Int) } := by unfold dP; rw [e]; rfl
theorem st1 (e : c % 10 = 1) : dP p c = { p with es := p.es.set (ja p c) ((ja p c : Int) + 1) } := by unfold dP; rw [e]; rfl
theorem st2 (e : c % 10 = 2) : dP p c = { p with es := p.es.set (ja p c) (if ja p c = 0 then -2 else -1) } := by unfold dP; rw [e]; rfl
theorem st3 (e : c % 10 = 3) : dP p c = { p with ks := p.ks.set (ja p c) (kwL.getD (c / 700 % 4).toNat Str.empty) } := by unfold dP; rw [e]; rfl
theorem st4 (e : c % 10 = 4) : dP p c = { p with ks := p.ks.set (ja p c) (if p.ks.getD (ja p c) Str.empty = "leaf" then "all" else "leaf"), ss := p.ss.set (ja p c) (-1) } := by unfold dP; rw [e]; rfl
theorem st5 (e : c % 10 = 5) : dP p c = { p with ss := p.ss.set (ja p c) Q.bg } := by unfold dP; rw [e]; rfl
theorem st6 (e : c % 10 = 6) : dP p c = { p with nm := (dw (ja p c) ("more" : Str) p.nm).take (if c / 700 % 2 = 0 then p.nm.length + 1 else p.nm.length - 1) } := by unfold dP; rw [e]; rfl
theorem st7 (e : c % 10 = 7) : dP p c = (if c / 700 % 2 = 0 then { p with es := F9 c p.nm.length p.es } else { p with ss := F9 c p.nm.length p.ss }) := by unfold dP; rw [e]; rfl
theorem st8 (e : c % 10 = 8) : dP p c = { p with nm := [], ks := [], es := [], ss := [], is := [], os := [] } := by unfold dP; rw [e]; rfl
theorem st9 (e : c % 10 = 9) : dP p c = { p with nm := n14, ks := k14, es := e14, ss := s14 } := by unfold dP; rw [e]; rfl
theorem bF (h : ¬ b = true) : b = false := by cases b <;> first | rfl | exact absurd rfl h
variable {i : Nat}
theorem BR {l : List α} {x d : α} (h : i < l.length) : (l.set i x).getD i d = x := by
 rw [atg, auu h]; rfl
theorem g8 {l : List α} {d : α} (h : i < l.length) : l.getD i d ∈ l := by
 rw [atg, atm h]
 exact auw _
variable {n : Nat}
theorem gT (c : Int) (h : 0 < n) : (c % (n : Int)).toNat < n /\ (((c % (n : Int)).toNat : Nat) : Int) = c % (n : Int) := by
 have h0 := atw c (b := (n : Int)) Q.a
 have h1 := atp c (b := (n : Int)) Q.a
 omega
theorem aby {x : Str} {c : Nat} (h : c ∈ x.cps.toList) (hc : (isLt c || ur c) = false) : dO x = false := by
 unfold dO
 rw [show (x.cps.toList.all fun c => isLt c || ur c) = false from List.all_eq_false.mpr ⟨c, h, by rw [hc]; decide⟩]
 simp
theorem apl (h : k < 12) : k = 0 \/ k = 1 \/ k = 2 \/ k = 3 \/ k = 4 \/ k = 5 \/ k = 6 \/ k = 7 \/ k = 8 \/ k = 9 \/ k = 10 \/ k = 11 := by omega
theorem BU (c : Int) (x : Str) : dO (qf c x) = false := by
 have h := (gT c (n := 12) Q.c).1
 unfold qf
 have e : ((12 : Nat) : Int) = 12 := rfl
 rw [e] at h
 generalize (c % 12).toNat = k at h ⊢
 have m1 : ∀ y : Str, (y ∈ ([" ", "_"] : List Str)) -> dO (x ++ y) = false := fun y hy => by
   simp only [atl, att, avi] at hy
   rcases hy with rfl | rfl
   . exact aby (c := 32) (by show 32 ∈ (x.cps ++ _).toList; rw [avc]; exact as7 _ Q.d) rfl
   . exact aby (c := 95) (by show 95 ∈ (x.cps ++ _).toList; rw [avc]; exact as7 _ Q.d) rfl
 rcases apl h with rfl | rfl | rfl | rfl | rfl | rfl | rfl | rfl | rfl | rfl | rfl | rfl
 . show dO "" = false; decide +kernel
 . show dO "to" = false; decide +kernel
 . show dO "Far" = false; decide +kernel
 . show dO "9a" = false; decide +kernel
 . show dO "a-b" = false; decide +kernel
 . show dO "leaf" = false; decide +kernel
 . exact m1 _ Q.c
 . show dO ((" " : Str) ++ x) = false
   exact aby (c := 32) (by show 32 ∈ (_ ++ x.cps).toList; rw [avc]; exact as9 _ Q.d) rfl
 . show dO "abcdefghijklm" = false; decide +kernel
 . exact m1 _ Q.c
 . show dO "shut" = false; decide +kernel
 . show dO "a.b" = false; decide +kernel
theorem Io (c : Int) (x : Str) : (qf c x).length <= x.length + 13 := by
 have h := (gT c (n := 12) Q.c).1
 have e : ((12 : Nat) : Int) = 12 := rfl
 rw [e] at h
 unfold qf
 have hm : (Ke x).getD (c % 12).toNat Str.empty ∈ Ke x := g8 h
 revert hm
 generalize (Ke x).getD (c % 12).toNat Str.empty = y
 intro hm
 simp only [Ke, atl, att, avi] at hm
 have l1 : ((" " : Str)).length = 1 := Q.f
 have l2 : (("_" : Str)).length = 1 := Q.f
 have cl : ∀ z ∈ (["", "to", "Far", "9a", "a-b", "leaf", "abcdefghijklm", "shut", "a.b"] : List Str), z.length <= 13 := Q.f
 have ap : ∀ z w : Str, (z ++ w).length = z.length + w.length := str_len
 rcases hm with rfl | rfl | rfl | rfl | rfl | rfl | rfl | rfl | rfl | rfl | rfl | rfl
 . exact ath (cl _ Q.c) Q.a
 . exact ath (cl _ Q.c) Q.a
 . exact ath (cl _ Q.c) Q.a
 . exact ath (cl _ Q.c) Q.a
 . exact ath (cl _ Q.c) Q.a
 . exact ath (cl _ Q.c) Q.a
 . rw [ap, l1]; omega
 . rw [ap, l1]; omega
 . exact ath (cl _ Q.c) Q.a
 . rw [ap, l2]; omega
 . exact ath (cl _ Q.c) Q.a
 . exact ath (cl _ Q.c) Q.a
theorem amg (h : ¬ bmN c = 0) : Rm (bmN c) = false := by
 have h1 := (gT (c / 4) (n := 4) Q.c).1
 have e : ((4 : Nat) : Int) = 4 := rfl
 rw [e] at h1
 revert h
 unfold bmN
 generalize (c / 4 % 4).toNat = k at h1 ⊢
 intro h
 have hk : k = 0 \/ k = 1 \/ k = 2 \/ k = 3 := by omega
 rcases hk with rfl | rfl | rfl | rfl
 . exact absurd rfl h
 . decide +kernel
 . decide +kernel
 . decide +kernel
theorem KQ {i : Int} (h : i < 0 \/ (n : Int) <= i) : rP i n = false := by
 unfold rP
 rcases h with h | h
 . rw [atn (show ¬ 0 <= i by omega)]; rfl
 . rw [atn (show ¬ i < (n : Int) by omega), atr]
theorem lt3 (h : k < 3) : k = 0 \/ k = 1 \/ k = 2 := by omega
theorem GO (c : Int) (n : Nat) : D9 n (qS c n).1 (qS c n).2 = false := by
 unfold qS
 by_cases h : bmN c = 0
 . rw [atb h]
   have h1 := (gT (c / 16) (n := 3) Q.c).1
   have e : ((3 : Nat) : Int) = 3 := rfl
   rw [e] at h1
   generalize (c / 16 % 3).toNat = k at h1 ⊢
   have : ∀ z : Int, z ≠ -1 -> (z < 0 \/ (n : Int) <= z) -> D9 n z (bmN c) = false := fun z z1 z2 => by
     unfold D9
     rw [atn z1, KQ z2]
     rfl
   rcases lt3 h1 with rfl | rfl | rfl
   . exact this (n : Int) Q.a Q.a
   . exact this (-2) Q.a Q.a
   . exact this ((n : Int) + 3) Q.a Q.a
 . rw [as5 h]
   show (_ && Rm (bmN c)) = false
   rw [amg h, atr]
theorem abz (c : Int) : (qf c "go").length <= 1000 := ath (Io c "go") Q.d
theorem KR (c : Int) (n : Nat) : Yk n (BQ c n) = false /\ Kd (BQ c n) := by
 have ww : ("word" : Str).length <= 1000 := Q.f
 have sy : ("say" : Str) ≠ "put" /\ ("say" : Str) ≠ "call" := Q.f
 unfold BQ
 by_cases h5 : c % 6 = 5
 . rw [atb h5]
   have h1 := (gT (c / 6) (n := 5) Q.c).1
   have e : ((5 : Nat) : Int) = 5 := rfl
   rw [e] at h1
   have hm : wrL.getD (c / 6 % 5).toNat Str.empty ∈ wrL := g8 h1
   generalize wrL.getD (c / 6 % 5).toNat Str.empty = w at hm ⊢
   have cl : ∀ w ∈ wrL, w ≠ "say" /\ w ≠ "put" /\ w ≠ "call" := Q.f
   obtain ⟨c1, c2⟩ := cl w hm
   refine ⟨?_, c2, ww⟩
   show (decide (w = "say") && _) = false
   rw [atn c1]
   rfl
 rw [as5 h5]
 by_cases h0 : c % 6 = 0
 . rw [atb h0]
   have h1 := (gT (c / 6) (n := 3) Q.c).1
   have e : ((3 : Nat) : Int) = 3 := rfl
   rw [e] at h1
   generalize (c / 6 % 3).toNat = k at h1 ⊢
   refine ⟨?_, trivial⟩
   show (rP (([(n : Int), -1, (n : Int) + 2] : List Int).getD k 0) n && _) = false
   rw [KQ, aua]
   rcases lt3 h1 with rfl | rfl | rfl
   . exact .inr (avb _)
   . exact .inl (show (-1 : Int) < 0 by decide)
   . exact .inr (show (n : Int) <= (n : Int) + 2 by omega)
 rw [as5 h0]
 by_cases h1 : c % 6 = 1 /\ 0 < n
 . rw [atb h1]
   refine ⟨?_, trivial⟩
   show (_ && D9 n _ _) = false
   rw [GO, atr]
 rw [as5 h1]
 by_cases h2 : c % 6 = 2
 . rw [atb h2]
   exact ⟨BU _ _, abz _⟩
 rw [as5 h2]
 by_cases h3 : c % 6 = 3
 . rw [atb h3]
   refine ⟨?_, sy, abz _⟩
   rw [Yk, BU, aua, atr]
 rw [as5 h3]
 refine ⟨?_, sy, ww⟩
 rw [Yk, GO, atr, atr]
theorem KS (c : Int) (m n : Nat) : ZX n m (wB c m n) = false /\ Sb (wB c m n) := by
 have nin : ∀ x ∈ (["<=", "!=", "<>", "", ">", "=="] : List Str), x ∉ (["open", "shut"] : List Str) := Q.f
 unfold wB
 by_cases h0 : c % 4 = 0
 . rw [atb h0]
   have h1 := (gT (c / 4) (n := 2) Q.c).1
   have h2 := (gT (c / 4 / 2) (n := 2) Q.c).1
   have e : ((2 : Nat) : Int) = 2 := rfl
   rw [e] at h1 h2
   refine ⟨?_, g8 (l := (["open", "shut"] : List Str)) h1⟩
   generalize (c / 4 / 2 % 2).toNat = k at h2 ⊢
   refine KQ ?_
   have hk : k = 0 \/ k = 1 := by omega
   rcases hk with rfl | rfl
   . exact .inr (avb _)
   . exact .inl (show (-1 : Int) < 0 by decide)
 rw [as5 h0]
 by_cases h1 : c % 4 = 1
 . rw [atb h1]
   have h1 := (gT (c / 4) (n := 4) Q.c).1
   have e : ((4 : Nat) : Int) = 4 := rfl
   rw [e] at h1
   have hm : baL.getD (c / 4 % 4).toNat Str.empty ∈ baL := g8 h1
   generalize baL.getD (c / 4 % 4).toNat Str.empty = w at hm ⊢
   have cl : ∀ w ∈ baL, w ∉ (["<", "<=", "=", "!="] : List Str) /\ w ∉ (["open", "shut"] : List Str) := Q.f
   obtain ⟨c1, c2⟩ := cl w hm
   refine ⟨?_, c2⟩
   show (decide (w ∈ (["<", "<=", "=", "!="] : List Str)) && _) = false
   rw [atn c1]
   rfl
 rw [as5 h1]
 by_cases h2 : c % 4 = 2
 . rw [atb h2]
   refine ⟨?_, nin _ Q.c⟩
   rw [ZX, GO, aua, atr]
 rw [as5 h2]
 refine ⟨?_, nin _ Q.c⟩
 rw [ZX, GO, atr, atr]
variable {nl : Nat}
theorem mJ : BL ks es ss nl = true ↔ 0 < ks.length /\ es.length = ks.length /\ ss.length = ks.length /\ nl = ks.length /\ GN es (es.length - 1) = true /\ Se ks es = true /\ PK ks es ss = true := by
 unfold BL
 simp only [ato, aur]
theorem Sh {m : Nat} (h : Se ks es = true) (hm : m < ks.length) : kdO ks es m = true := atL.mp h m (atP.mpr hm)
theorem aje {m : Nat} (h : PK ks es ss = true) (hm : m < ss.length) : Z6 ks es ss m = true := atL.mp h m (atP.mpr hm)
theorem ajf (h : i <= j) (e : GN es j = true) : GN es i = true := by
 cases q : GN es i with
 | true => rfl
 | false => rw [BO h q] at e; cases e
theorem aeH (hj : j + 1 < es.length) (h : GN es (j + 1) = true) : 0 <= es.getD (j + 1) 0 := by
 rw [GN, ato, ato] at h
 have ih := Ik (j := j) Q.a h.1
 have hin := as6 h.2.1
 rcases atl.mp hin with z | z
 . omega
 . have ha := ih.at (k := (j : Int)) Q.a Q.a Q.a
   exact (ih.uq (es.length + 1) ha.1 Q.a Q.a _ z).1
theorem ten (P : Prop) (h0 : c % 10 = 0 -> P) (h1 : c % 10 = 1 -> P) (h2 : c % 10 = 2 -> P) (h3 : c % 10 = 3 -> P) (h4 : c % 10 = 4 -> P) (h5 : c % 10 = 5 -> P) (h6 : c % 10 = 6 -> P) (h7 : c % 10 = 7 -> P) (h8 : c % 10 = 8 -> P) (h9 : c % 10 = 9 -> P) : P := by
 have : c % 10 = 0 \/ c % 10 = 1 \/ c % 10 = 2 \/ c % 10 = 3 \/ c % 10 = 4 \/ c % 10 = 5 \/ c % 10 = 6 \/ c % 10 = 7 \/ c % 10 = 8 \/ c % 10 = 9 := by omega
 rcases this with h | h | h | h | h | h | h | h | h | h
 . exact h0 h
 . exact h1 h
 . exact h2 h
 . exact h3 h
 . exact h4 h
 . exact h5 h
 . exact h6 h
 . exact h7 h
 . exact h8 h
 . exact h9 h
theorem PN {l : Q.e} (hl : l.length = n) (h0 : 0 < n) : (F9 c n l).length ≠ n := by
 unfold F9
 split
 . rw [at9, ats]; show min _ (l.length + 1) ≠ n; omega
 . rw [ats]; show l.length + 1 ≠ n; omega
theorem aeI (c : Int) (h : BL p.ks p.es p.ss p.nm.length = true) : BL (dP p c).ks (dP p c).es (dP p c).ss (dP p c).nm.length = false := by
 obtain ⟨h0, h1, h2, h3, h4, h5, h6⟩ := mJ.mp h
 have hT := Ik Q.a h4
 have i1 : ja p c < p.nm.length := (gT (c / 10) (n := p.nm.length) Q.a).1
 have hel : ∀ v : Int, v < 0 \/ (ja p c : Int) <= v -> BL p.ks (p.es.set (ja p c) v) p.ss p.nm.length = true -> ja p c = 0 /\ v = -1 := fun v hv q => by
   generalize ja p c = i at *
   obtain ⟨q0, q1, q2, q3, q4, q5, q6⟩ := mJ.mp q
   rw [atz] at q1 q4
   have hi : i < p.es.length := by omega
   have hl : (p.es.set i v).length = p.es.length := atz ..
   have hT2 := Ik Q.a q4 i Q.a Q.a
   rw [BR hi] at hT2
   cases i with
   | zero => omega
   | succ j =>
     have := aeH (j := j) Q.a (ajf Q.a q4)
     rw [BR hi] at this
     omega
 refine ten (c := c) _ (fun e => ?_) (fun e => ?_) (fun e => ?_) (fun e => ?_) (fun e => ?_) (fun e => ?_) (fun e => ?_) (fun e => ?_) (fun e => ?_) (fun e => ?_)
 . rw [st0 e]
   exact bF fun q => by have := hel _ (.inr (avb _)) q; omega
 . rw [st1 e]
   exact bF fun q => by have := hel _ (.inr Q.a) q; omega
 . rw [st2 e]
   refine bF fun q => ?_
   have q : BL p.ks (p.es.set (ja p c) (if ja p c = 0 then -2 else -1)) p.ss p.nm.length = true := q
   have := hel _ (.inl (by split <;> omega)) q
   rw [atb this.1] at this
   omega
 . rw [st3 e]
   refine bF fun q => ?_
   obtain ⟨q0, q1, q2, q3, q4, q5, q6⟩ := mJ.mp q
   have hi : ja p c < p.ks.length := by omega
   have := Sh q5 (m := ja p c) (by rw [atz]; omega)
   unfold kdO at this
   rw [BR hi, ato] at this
   have hm := as6 this.1
   have h1 := (gT (c / 700) (n := 4) Q.c).1
   have hw : kwL.getD (c / 700 % 4).toNat Str.empty ∈ kwL := g8 h1
   have cl : ∀ x ∈ kwL, x ∉ Ec := Q.f
   exact cl _ hw hm
 . rw [st4 e]
   refine bF fun q => ?_
   obtain ⟨q0, q1, q2, q3, q4, q5, q6⟩ := mJ.mp q
   have hi : ja p c < p.ks.length := by omega
   have b := Sh h5 hi
   have a := Sh q5 (m := ja p c) (by rw [atz]; omega)
   unfold kdO at a b
   rw [BR hi, ato] at a
   rw [ato] at b
   have a := a.2
   have b := b.2
   revert a b
   generalize (decide ((ja p c : Int) ∈ p.es)) = bb
   generalize p.ks.getD (ja p c) Str.empty = k
   intro a b
   have al : ¬ ("all" : Str) = "leaf" := Q.f
   by_cases hk : k = "leaf"
   . rw [atb hk, atn al] at a
     rw [ata hk] at b
     cases bb <;> first | exact absurd a Q.c | exact absurd b Q.c
   . rw [as5 hk, ata rfl] at a
     rw [atn hk] at b
     cases bb <;> first | exact absurd a Q.c | exact absurd b Q.c
 . rw [st5 e]
   refine bF fun q => ?_
   obtain ⟨q0, q1, q2, q3, q4, q5, q6⟩ := mJ.mp q
   have hi : ja p c < p.ss.length := by omega
   have a := aje q6 (m := ja p c) (by rw [atz]; omega)
   have hr := (gT (c / 700) (n := 2) Q.c).1
   have e2 : ((2 : Nat) : Int) = 2 := rfl
   rw [e2] at hr
   unfold Z6 at a
   rw [BR hi] at a
   have Lv := (hT (ja p c) Q.a Q.a).2
   generalize hI : ja p c = i at *
   generalize (c / 700 % 2).toNat = r at *
   have hr2 : r = 0 \/ r = 1 := by omega
   by_cases hk : p.ks.getD i Str.empty = "one"
   . rw [atb hk, atb hk, ato] at a
     rcases hr2 with rfl | rfl
     . have := a.1
       rw [KQ (.inl (show ([-1, (i : Int)] : List Int).getD 0 0 < 0 from by show (-1 : Int) < 0; decide))] at this
       cases this
     . have a2 := as6 a.2
       have : p.es.getD ((i : Int)).toNat 0 = (i : Int) := a2
       rw [atH] at this
       omega
   . rw [as5 hk, as5 hk] at a
     have a := as6 a
     rcases hr2 with rfl | rfl
     . have : (0 : Int) = -1 := a
       omega
     . have : (p.nm.length : Int) = -1 := a
       omega
 . rw [st6 e]
   refine bF fun q => ?_
   obtain ⟨q0, q1, q2, q3, q4, q5, q6⟩ := mJ.mp q
   have q3 : ((dw (ja p c) ("more" : Str) p.nm).take (if c / 700 % 2 = 0 then p.nm.length + 1 else p.nm.length - 1)).length = p.ks.length := q3
   rw [at9, qE] at q3
   by_cases z : c / 700 % 2 = 0
   . rw [atb z] at q3; omega
   . rw [as5 z] at q3; omega
 . rw [st7 e]
   by_cases z : c / 700 % 2 = 0
   . rw [atb z]
     refine bF fun q => ?_
     obtain ⟨q0, q1, q2, q3, q4, q5, q6⟩ := mJ.mp q
     exact PN (c := c) (n := p.nm.length) (l := p.es) Q.a Q.a (q1.trans h3.symm)
   . rw [as5 z]
     refine bF fun q => ?_
     obtain ⟨q0, q1, q2, q3, q4, q5, q6⟩ := mJ.mp q
     exact PN (c := c) (n := p.nm.length) (l := p.ss) Q.a Q.a (q2.trans h3.symm)
 . rw [st8 e]
   rfl
 . rw [st9 e]
   show BL k14 e14 s14 n14.length = false
   decide +kernel
theorem Wj {l : Q.h} {x : Str} (h : x ∈ l) (hx : dO x = false) : lF l = false := by
 unfold lF
 rw [F7 h hx]
 rfl
theorem Wk {l : Q.h} (h : ¬ l.Nodup) : lF l = false := by
 unfold lF
 rw [atn h, atr]
theorem aeJ (c : Int) (h : 0 < p.nm.length) : lF (iF p c).nm = false := by
 obtain ⟨i1, i2⟩ := gT (c / 2) h
 unfold iF
 dsimp only
 generalize (c / 2 % (p.nm.length : Int)).toNat = i at *
 by_cases hc : c % 2 = 1 /\ 1 < p.nm.length
 . rw [atb hc]
   refine Wk fun nd => ?_
   have r0 := atw (c / 100) (b := (p.nm.length : Int) - 1) Q.a
   have r1 := atp (c / 100) (b := (p.nm.length : Int) - 1) Q.a
   generalize c / 100 % ((p.nm.length : Int) - 1) = r at *
   have j0 := atw ((i : Int) + 1 + r) (b := (p.nm.length : Int)) Q.a
   have j1 := atp ((i : Int) + 1 + r) (b := (p.nm.length : Int)) Q.a
   have ZS : ((i : Int) + 1 + r) % (p.nm.length : Int) ≠ (i : Int) := by
     intro hz
     by_cases hs : (i : Int) + 1 + r < (p.nm.length : Int)
     . rw [Int.emod_eq_of_lt Q.a hs] at hz; omega
     . rw [← Int.sub_emod_right, Int.emod_eq_of_lt Q.a Q.a] at hz
       omega
   generalize hj : (((i : Int) + 1 + r) % (p.nm.length : Int)).toNat = j at *
   have hij : i ≠ j := by omega
   generalize hl : p.nm.set i Q.aO = l at *
   have hll : l.length = p.nm.length := by rw [← hl, atz]
   refine hij ((List.getElem?_inj (i := i) (by rw [atz]; omega) nd).mp ?_)
   rw [auu Q.a, au6 hij, atg, atm (show j < l.length by omega)]
   rfl
 . rw [as5 hc]
   exact Wj (au5 Q.a _) (BU _ _)
theorem ag9 {l : Q.D} (h : lF (l.map (·.1)) = false) : pK l = false := by
 unfold pK
 rw [h, atr]
theorem aha {l : Q.D} {q : Str × Int} (h : q ∈ l) (hq : Rm q.2 = false) : pK l = false := by
 unfold pK
 rw [F7 (p := fun q : Str × Int => Rm q.2) h hq]
 rfl
theorem ajg {l : Q.D} (c : Int) (h : 0 < l.length) : pK (PL l c) = false := by
 obtain ⟨i1, i2⟩ := gT (c / 4) h
 unfold PL
 dsimp only
 generalize (c / 4 % (l.length : Int)).toNat = i at *
 split
 . exact ag9 (Wj (atj.mpr ⟨_, au5 i1 _, rfl⟩) (BU _ _))
 . split
   . refine ag9 (Wk fun nd => ?_)
     rw [← oH] at nd
     unfold dw at nd
     have nd := (atR.mp nd).2.1
     refine (aud.mp nd).1 ?_
     rw [ave (show i < (l.map (·.1)).length by rw [as4]; exact i1), List.getElem_map]
     rw [atg, atm i1]
     exact ati
   . have p30 : (10 : Int) ^ (30 : Int).toNat = 1000000000000000000000000000000 := Q.f
     split
     . refine aha (au5 i1 _) ?_
       unfold Rm
       rw [p30, atn (show ¬ (_ : Int) < 1000000000000000000000000000000 by show ¬ (1000000000000000000000000000000 + c / 40 % 5 : Int) < 1000000000000000000000000000000; omega), atr]
     . refine aha (au5 i1 _) ?_
       unfold Rm
       rw [p30, atn (show ¬ -(1000000000000000000000000000000 : Int) < (0 - 1000000000000000000000000000000 - c / 40 % 5 : Int) by omega)]
       rfl
theorem Ma {bl : Nat} {is os : List (List pV)} {ws : List pR} {l : List pV} {q : pV} (h : l ∈ is ++ os ++ ws.map (·.dl)) (hq : q ∈ l) (hb : Yk bl q = false) : oz nl bl is os ws = false := by
 unfold oz
 rw [F7 h (F7 hq hb), atr, atr]
theorem ajh {bl : Nat} {is os : List (List pV)} {ws : List pR} (h : is.length ≠ nl) : oz nl bl is os ws = false := by
 unfold oz
 rw [atn h]
 rfl
theorem aji {bl : Nat} {is os : List (List pV)} {ws : List pR} (h : os.length ≠ nl) : oz nl bl is os ws = false := by
 unfold oz
 rw [atn h, aua, atr]
theorem PR {l : List (List pV)} (h : 0 < l.length) : (Ed c l).length ≠ l.length := by
 unfold Ed
 split
 . rw [at9, ats]; show min (l.length + 1 - 2) (l.length + 1) ≠ _; omega
 . rw [ats]; show l.length + 1 ≠ _; omega
theorem aeL (c : Int) (h : 0 < p.nm.length) (hi : p.is.length = p.nm.length) (ho : p.os.length = p.nm.length) : oz (gQ p c).nm.length (gQ p c).bs.length (gQ p c).is (gQ p c).os (gQ p c).ws = false := by
 obtain ⟨i1, i2⟩ := gT (c / 4) (n := p.is.length) Q.a
 have hb := (KR (c / 1000) p.bs.length).1
 unfold gQ
 dsimp only
 generalize (c / 4 % (p.is.length : Int)).toNat = i at *
 split
 . exact Ma (as9 _ (as9 _ (au5 i1 _))) (j9.mpr (.inl rfl)) hb
 . split
   . exact Ma (as9 _ (as7 _ (au5 Q.a _))) (j9.mpr (.inl rfl)) hb
   . split
     . split
       . exact ajh (fun z => PR (c := c) (l := p.is) Q.a (z.trans hi.symm))
       . exact aji (fun z => PR (c := c) (l := p.os) Q.a (z.trans ho.symm))
     . refine Ma (l := [.call "go", BQ (c / 1000) p.bs.length]) (as7 _ (atj.mpr ⟨_, as7 _ (atD.mpr rfl), rfl⟩)) (q := BQ (c / 1000) p.bs.length) Q.r hb
theorem Mb {n m : Nat} : ∀ {ws : List pR} {l : Int}, Ij n m l ws = true -> (∀ w ∈ ws, l <= w.src /\ Sd n m w = true) /\ ws.Pairwise (fun a b => a.src <= b.src)
 | [], l, _ => ⟨fun w hw => absurd hw att, List.Pairwise.nil⟩
 | w :: ws, l, h => by
   rw [Ij, ato, ato] at h
   obtain ⟨h1, h2, h3⟩ := h
   have h1 : ¬ w.src < l := atd (ZZ h1)
   obtain ⟨a, b⟩ := Mb h3
   refine ⟨fun v hv => ?_, .cons (fun v hv => (a v hv).1) b⟩
   rcases atl.mp hv with rfl | hv
   . exact ⟨by omega, h2⟩
   . exact ⟨Int.le_trans Q.a (a v hv).1, (a v hv).2⟩
variable {w : pR}
theorem ajj {m : Nat} {l : Int} {ws : List pR} (h : w ∈ ws) (hw : Sd n m w = false) : Ij n m l ws = false := bF fun q => by
 have := ((Mb q).1 w h).2
 rw [hw] at this
 cases this
theorem aeM {k : Int} {m : Nat} (k0 : 0 <= k) (k8 : k < 8) : Sd n m (sR c k m n w) = false := by
 unfold sR Sd
 have c2 := (gT c (n := 2) Q.c).1
 have c3 := (gT c (n := 3) Q.c).1
 have e2 : ((2 : Nat) : Int) = 2 := rfl
 have e3 : ((3 : Nat) : Int) = 3 := rfl
 rw [e2] at c2
 rw [e3] at c3
 split
 . rename_i h
   have : rP (([-1, (n : Int), (n : Int) + 1] : List Int).getD k.toNat 0) n = false := KQ (by
     rcases lt3 (show k.toNat < 3 by omega) with e | e | e
     . rw [e]; exact .inl (show (-1 : Int) < 0 by decide)
     . rw [e]; exact .inr (avb _)
     . rw [e]; exact .inr (show (n : Int) <= (n : Int) + 1 by omega))
   dsimp only
   rw [this]
   rfl
 split
 . dsimp only
   rw [BU, aua, atr]
 split
 . generalize (c % 2).toNat = r at c2 ⊢
   have hr : r = 0 \/ r = 1 := by omega
   have ht : ∀ t : Int, t ≠ -1 -> (t < 0 \/ (n : Int) <= t) -> (if t = -1 then decide (w.mode = "new") else rP t n) = false := fun t t1 t2 => by
     rw [as5 t1, KQ t2]
   dsimp only
   rw [ht, aua, atr, atr, atr]
   . rcases hr with rfl | rfl
     . show (n : Int) ≠ -1; omega
     . show (-2 : Int) ≠ -1; omega
   . rcases hr with rfl | rfl
     . exact .inr (avb _)
     . exact .inl (show (-2 : Int) < 0 by decide)
 split
 . have hm : (["", "fresh", "New"] : List Str).getD (c % 3).toNat Str.empty ∈ (["", "fresh", "New"] : List Str) := g8 c3
   have cl : ∀ x ∈ (["", "fresh", "New"] : List Str), x ∉ uv := Q.f
   dsimp only
   rw [atn (cl _ hm), aua, atr, atr]
 split
 . have hm : (["near", "far"] : List Str).getD (c % 2).toNat Str.empty ∈ (["near", "far"] : List Str) := g8 c2
   have cl : ∀ x ∈ (["near", "far"] : List Str), ¬ x = "new" := Q.f
   dsimp only
   rw [atb rfl, atn (cl _ hm), aua, atr, atr, atr]
 split
 . have : (dw (c % ((w.al.length : Int) + 1)).toNat (wB (c / 4) m n) w.al).all (ZX n m) = false := F7 (j9.mpr (.inl rfl)) (KS _ _ _).1
   dsimp only
   rw [this, atr, atr, atr, atr]
 . exfalso; omega
theorem ajk {l : List pR} (c : Int) (m n : Nat) (h : 0 < l.length) : Ij n m 0 (zE l c m n) = false := by
 obtain ⟨i1, i2⟩ := gT (c / 9) h
 unfold zE
 dsimp only
 generalize (c / 9 % (l.length : Int)).toNat = i at *
 by_cases h8 : c % 9 = 8
 . rw [atb h8]
   refine bF fun q => ?_
   have := auO.mp (Mb q).2 i l.length (by rw [atz, ats]; show i < l.length + 1; omega) (by rw [atz, ats]; show l.length < l.length + 1; omega) i1
   rw [List.getElem_set_self, List.getElem_set_ne Q.a, List.getElem_append_right (atq _)] at this
   have e : sR (c / 1000) (c % 9) m n (l.getD i Wi) = { l.getD i Wi with src := 1 } := by rw [h8]; rfl
   rw [e] at this
   simp at this
   exact absurd this Q.c
 . rw [as5 h8]
   exact ajj (au5 i1 _) (aeM Q.a Q.a)
structure Ox (B : Nat) (p : Pt) : Prop where
 k1 : p.ks.length <= B
 e1 : p.es.length <= B
 s1 : p.ss.length <= B
 n1 : ∀ x ∈ p.nm, x.length <= 10 * B
 n2 : p.nm.length <= B
 b1 : ∀ q ∈ p.bs, q.1.length <= 10 * B
 b2 : p.bs.length <= B
 i1 : p.is.length <= B
 o1 : p.os.length <= B
 w1 : p.ws.length <= B
 d1 : ∀ l ∈ p.is ++ p.os ++ p.ws.map (·.dl), l.length <= B /\ ∀ q ∈ l, Kd q
 w2 : ∀ w ∈ p.ws, w.ok /\ w.al.length <= B
variable {B : Nat}
theorem Ox.shape (h : Ox B p) (hB : B <= 100) : BP p.bs p.nm p.ks p.is p.os p.ws :=
 ⟨ath h.k1 Q.a, fun x hx => ath (h.n1 x hx) Q.a, ath h.n2 Q.a, fun x hx => ath (h.b1 x hx) Q.a, ath h.b2 Q.a, ath h.i1 Q.a, ath h.o1 Q.a, ath h.w1 hB, fun l hl => (h.d1 l hl).2, fun w hw => (h.w2 w hw).1⟩
theorem Ip (l : List α) (i : Nat) (d : α) : l.getD i d ∈ l \/ l.getD i d = d := by
 rcases Nat.lt_or_ge i l.length with h | h
 . exact .inl (g8 h)
 . exact .inr (by rw [atg, au3 h]; rfl)
theorem qT {l : List α} {x y : α} (h : y ∈ l.set i x) : y ∈ l \/ y = x := List.mem_or_eq_of_mem_set h
theorem aeN (c : Int) (h : Ox B p) : Ox (B + 2) (iF p c) := by
 have hn : ∀ x ∈ (iF p c).nm, x.length <= 10 * (B + 2) := by
   unfold iF
   dsimp only
   generalize (c / 2 % (p.nm.length : Int)).toNat = i
   have e0 : Str.empty.length = 0 := rfl
   have g : ∀ x ∈ p.nm.set i Q.aO, x.length <= 10 * (B + 2) := fun x hx => by
     rcases qT hx with z | rfl
     . have := h.n1 x z; omega
     . have b := Io (c / 100) (p.nm.getD i Str.empty)
       rcases Ip p.nm i Str.empty with z | z
       . have := h.n1 _ z; omega
       . rw [z] at b ⊢; omega
   generalize p.nm.set i Q.aO = l at g
   split
   . intro x hx
     rcases qT hx with z | rfl
     . exact g x z
     . rcases Ip l (((i : Int) + 1 + c / 100 % ((p.nm.length : Int) - 1)) % (p.nm.length : Int)).toNat Str.empty with z | z
       . exact g _ z
       . rw [z, e0]; omega
   . exact g
 have hl : (iF p c).nm.length = p.nm.length := by
   unfold iF
   dsimp only
   split
   . rw [atz, atz]
   . rw [atz]
 exact ⟨as8 h.k1, as8 h.e1, as8 h.s1, hn, by rw [hl]; exact as8 h.n2, fun q hq => by have := h.b1 q hq; omega, as8 h.b2, as8 h.i1, as8 h.o1, as8 h.w1, fun l hl => ⟨as8 (h.d1 l hl).1, (h.d1 l hl).2⟩, fun w hw => ⟨(h.w2 w hw).1, as8 (h.w2 w hw).2⟩⟩
theorem Wm (l : Q.D) : 0 < (L8 l).length := by
 unfold L8
 split
 . decide
 . rename_i h; exact auT.mpr h
theorem ajl (c : Int) (h : Ox B p) (hB : 14 <= B) : Ox (B + 2) (rQ p c) := by
 have w5 : w05.1.length <= 10 * B := ath (show w05.1.length <= 10 by decide +kernel) Q.a
 have g0 : ∀ q ∈ L8 p.bs, q.1.length <= 10 * B := by
   unfold L8
   split
   . intro q hq; cases atD.mp hq; exact w5
   . exact h.b1
 have l0 : (L8 p.bs).length <= B + 1 := by
   unfold L8
   split
   . show 1 <= B + 1; omega
   . exact as8 h.b2
 have hb : (∀ q ∈ (rQ p c).bs, q.1.length <= 10 * (B + 2)) /\ (rQ p c).bs.length <= B + 2 := by
   show (∀ q ∈ PL (L8 p.bs) c, _) /\ (PL (L8 p.bs) c).length <= B + 2
   generalize L8 p.bs = l at g0 l0
   unfold PL
   dsimp only
   generalize (c / 4 % (l.length : Int)).toNat = i
   have gq : (l.getD i w05).1.length <= 10 * B := by
     rcases Ip l i w05 with z | z
     . exact g0 _ z
     . rw [z]; exact w5
   have gs : ∀ q : Str × Int, q.1.length <= 10 * (B + 2) -> (∀ r ∈ l.set i q, r.1.length <= 10 * (B + 2)) /\ (l.set i q).length <= B + 2 := fun q hq => ⟨fun r hr => by
     rcases qT hr with z | rfl
     . have := g0 r z; omega
     . exact hq, by rw [atz]; omega⟩
   split
   . exact gs _ (ath (Io _ _) Q.a)
   . split
     . refine ⟨fun r hr => ?_, by rw [qE]; omega⟩
       rcases j9.mp hr with rfl | z
       . exact ath gq Q.a
       . exact ath (g0 r z) Q.a
     . split
       . exact gs _ (ath gq Q.a)
       . exact gs _ (ath gq Q.a)
 exact ⟨as8 h.k1, as8 h.e1, as8 h.s1, fun q hq => ath (h.n1 q hq) Q.a, as8 h.n2, hb.1, hb.2, as8 h.i1, as8 h.o1, as8 h.w1, fun l hl => ⟨as8 (h.d1 l hl).1, (h.d1 l hl).2⟩, fun w hw => ⟨(h.w2 w hw).1, as8 (h.w2 w hw).2⟩⟩
theorem abA {l : List (List pV)} (c : Int) {d : pV} (hd : Kd d) (i : Nat) (h : ∀ r ∈ l, r.length <= B /\ ∀ q ∈ r, Kd q) : ∀ r ∈ Sg c d l i, r.length <= B + 2 /\ ∀ q ∈ r, Kd q := by
 have g : (l.getD i []).length <= B /\ ∀ q ∈ l.getD i [], Kd q := by
   rcases Ip l i [] with z | z
   . exact h _ z
   . rw [z]; exact ⟨atx _, fun q hq => absurd hq att⟩
 intro r hr
 rcases qT hr with z | rfl
 . exact ⟨as8 (h r z).1, (h r z).2⟩
 . refine ⟨by rw [qE]; omega, fun q hq => ?_⟩
   rcases j9.mp hq with rfl | z
   . exact hd
   . exact g.2 q z
theorem GP {l : List (List pV)} (c : Int) (h : ∀ r ∈ l, r.length <= B /\ ∀ q ∈ r, Kd q) : (∀ r ∈ Ed c l, r.length <= B + 2 /\ ∀ q ∈ r, Kd q) /\ (Ed c l).length <= l.length + 1 := by
 have g : ∀ r ∈ l ++ [[]], r.length <= B + 2 /\ ∀ q ∈ r, Kd q := fun r hr => by
   rcases ate.mp hr with z | z
   . exact ⟨as8 (h r z).1, (h r z).2⟩
   . cases atD.mp z
     exact ⟨atx _, fun q hq => absurd hq att⟩
 have gl : (l ++ [([] : List pV)]).length = l.length + 1 := ats ..
 unfold Ed
 split
 . exact ⟨fun r hr => g r (auN hr), by rw [at9]; omega⟩
 . exact ⟨g, by omega⟩
theorem aeO (c : Int) (h : Ox B p) (hB : 14 <= B) : Ox (B + 2) (gQ p c) := by
 have hd := (KR (c / 1000) p.bs.length).2
 have h1 : ∀ r ∈ p.is, r.length <= B /\ ∀ q ∈ r, Kd q := fun r hr => h.d1 r (as9 _ (as9 _ hr))
 have h2 : ∀ r ∈ p.os, r.length <= B /\ ∀ q ∈ r, Kd q := fun r hr => h.d1 r (as9 _ (as7 _ hr))
 have h3 : ∀ r ∈ p.ws.map (·.dl), r.length <= B /\ ∀ q ∈ r, Kd q := fun r hr => h.d1 r (as7 _ hr)
 have mk : ∀ is os : List (List pV), (∀ r ∈ is, r.length <= B + 2 /\ ∀ q ∈ r, Kd q) -> (∀ r ∈ os, r.length <= B + 2 /\ ∀ q ∈ r, Kd q) -> is.length <= B + 2 -> os.length <= B + 2 -> Ox (B + 2) { p with is := is, os := os } := fun is os a1 a2 a3 a4 =>
   ⟨as8 h.k1, as8 h.e1, as8 h.s1, fun q hq => ath (h.n1 q hq) Q.a, as8 h.n2, fun q hq => ath (h.b1 q hq) Q.a, as8 h.b2, a3, a4, as8 h.w1, fun l hl => by
     rcases ate.mp hl with z | z
     . rcases ate.mp z with z | z
       . exact a1 l z
       . exact a2 l z
     . exact ⟨as8 (h3 l z).1, (h3 l z).2⟩, fun w hw => ⟨(h.w2 w hw).1, as8 (h.w2 w hw).2⟩⟩
 have up : ∀ {l : List (List pV)}, (∀ r ∈ l, r.length <= B /\ ∀ q ∈ r, Kd q) -> ∀ r ∈ l, r.length <= B + 2 /\ ∀ q ∈ r, Kd q := fun hh r hr => ⟨as8 (hh r hr).1, (hh r hr).2⟩
 have li := h.i1
 have lo := h.o1
 unfold gQ
 dsimp only
 generalize (c / 4 % (p.is.length : Int)).toNat = i
 split
 . exact mk _ _ (abA _ hd i h1) (up h2) (by unfold Sg; rw [atz]; omega) Q.a
 . split
   . exact mk _ _ (up h1) (abA _ hd i h2) Q.a (by unfold Sg; rw [atz]; omega)
   . split
     . split
       . exact mk _ _ (GP c h1).1 (up h2) (ath (GP c h1).2 Q.a) Q.a
       . exact mk _ _ (up h1) (GP c h2).1 Q.a (ath (GP c h2).2 Q.a)
     . refine ⟨as8 h.k1, as8 h.e1, as8 h.s1, fun q hq => ath (h.n1 q hq) Q.a, as8 h.n2, fun q hq => ath (h.b1 q hq) Q.a, as8 h.b2, by show p.is.length <= _; omega, by show p.os.length <= _; omega, by show (p.ws ++ [_]).length <= _; rw [ats]; have := h.w1; show p.ws.length + 1 <= _; omega, fun l hl => ?_, fun w hw => ?_⟩
       . rcases ate.mp hl with z | z
         . rcases ate.mp z with z | z
           . exact up h1 l z
           . exact up h2 l z
         . obtain ⟨w, hw, rfl⟩ := atj.mp z
           rcases ate.mp hw with hw | hw
           . exact up h3 _ (atj.mpr ⟨w, hw, rfl⟩)
           . cases atD.mp hw
             refine ⟨by show 2 <= B + 2; omega, fun q hq => ?_⟩
             simp only [atl, att, avi] at hq
             rcases hq with rfl | rfl
             . show ("go" : Str).length <= 1000; decide +kernel
             . exact hd
       . rcases ate.mp hw with hw | hw
         . exact ⟨(h.w2 w hw).1, as8 (h.w2 w hw).2⟩
         . cases atD.mp hw
           exact ⟨⟨by show ("go" : Str).length <= 1000; decide +kernel, fun q hq => absurd hq att⟩, atx _⟩
theorem Wn (l : List pR) : 0 < (Bh l).length := by
 unfold Bh
 split
 . decide
 . rename_i h; exact auT.mpr h
def WyB (B : Nat) (w : pR) : Prop := (w.ok /\ w.al.length <= B) /\ (w.dl.length <= B /\ ∀ q ∈ w.dl, Kd q)
theorem abB {t : Int} : WyB B ⟨0, "go", [], [], t, "new"⟩ := ⟨⟨⟨by show ("go" : Str).length <= 1000; decide +kernel, fun q hq => absurd hq att⟩, atx _⟩, atx _, fun q hq => absurd hq att⟩
theorem aeP (c k : Int) (m n : Nat) (h : WyB B w) : WyB (B + 2) (sR c k m n w) := by
 obtain ⟨⟨⟨o1, o2⟩, o3⟩, o4, o5⟩ := h
 have u3 : w.al.length <= B + 2 := by omega
 have u4 : w.dl.length <= B + 2 := by omega
 unfold sR
 split
 . exact ⟨⟨⟨o1, o2⟩, u3⟩, u4, o5⟩
 split
 . exact ⟨⟨⟨abz _, o2⟩, u3⟩, u4, o5⟩
 split
 . exact ⟨⟨⟨o1, o2⟩, u3⟩, u4, o5⟩
 split
 . exact ⟨⟨⟨o1, o2⟩, u3⟩, u4, o5⟩
 split
 . exact ⟨⟨⟨o1, o2⟩, u3⟩, u4, o5⟩
 split
 . refine ⟨⟨⟨o1, fun q hq => ?_⟩, by show (dw _ _ _).length <= _; rw [qE]; omega⟩, u4, o5⟩
   rcases j9.mp hq with rfl | z
   . exact (KS _ _ _).2
   . exact o2 q z
 . exact ⟨⟨⟨o1, o2⟩, u3⟩, u4, o5⟩
theorem ajm (c : Int) (h : Ox B p) (hB : 14 <= B) : Ox (B + 2) (kI p c) := by
 have g0 : ∀ w ∈ Bh p.ws, WyB B w := by
   unfold Bh
   split
   . intro w hw; cases atD.mp hw; exact abB
   . exact fun w hw => ⟨h.w2 w hw, h.d1 _ (as7 _ (atj.mpr ⟨w, hw, rfl⟩))⟩
 have l0 : (Bh p.ws).length <= B + 1 := by
   unfold Bh
   split
   . show 1 <= B + 1; omega
   . exact as8 h.w1
 have hw : (∀ w ∈ (kI p c).ws, WyB (B + 2) w) /\ (kI p c).ws.length <= B + 2 := by
   show (∀ w ∈ zE (Bh p.ws) c p.bs.length p.nm.length, _) /\ (zE (Bh p.ws) c p.bs.length p.nm.length).length <= B + 2
   generalize Bh p.ws = l at g0 l0
   unfold zE
   dsimp only
   generalize (c / 9 % (l.length : Int)).toNat = i
   have g1 : WyB B (l.getD i Wi) := by
     rcases Ip l i Wi with z | z
     . exact g0 _ z
     . rw [z]; exact abB
   have up : ∀ w, WyB B w -> WyB (B + 2) w := fun w ⟨⟨a1, a2⟩, a3, a4⟩ => ⟨⟨a1, by omega⟩, by omega, a4⟩
   refine ⟨fun w hw => ?_, ?_⟩
   . rcases qT hw with z | rfl
     . revert z
       split
       . intro z
         rcases ate.mp z with z | z
         . exact up w (g0 w z)
         . cases atD.mp z; exact abB
       . exact fun z => up w (g0 w z)
     . exact aeP _ _ _ _ g1
   . rw [atz]
     split
     . rw [ats]; show l.length + 1 <= _; omega
     . omega
 exact ⟨as8 h.k1, as8 h.e1, as8 h.s1, fun q hq => ath (h.n1 q hq) Q.a, as8 h.n2, fun q hq => ath (h.b1 q hq) Q.a, as8 h.b2, as8 h.i1, as8 h.o1, hw.2, fun l hl => by
   rcases ate.mp hl with z | z
   . exact ⟨as8 (h.d1 l (as9 _ z)).1, (h.d1 l (as9 _ z)).2⟩
   . obtain ⟨w, hw2, rfl⟩ := atj.mp z
     exact (hw.1 w hw2).2, fun w hw2 => (hw.1 w hw2).1⟩
theorem Wo {l : Q.e} (h : l.length <= B) : (F9 c n l).length <= B + 2 := by
 unfold F9
 have : (l ++ [-1]).length = l.length + 1 := ats ..
 split
 . rw [at9]; omega
 . omega
theorem aeR (c : Int) (h : Ox B p) (hB : 14 <= B) : Ox (B + 2) (dP p c) := by
 have k1 := h.k1
 have e1 := h.e1
 have s1 := h.s1
 have mk : ∀ (ks : Q.h) (es ss : Q.e), ks.length <= B + 2 -> es.length <= B + 2 -> ss.length <= B + 2 -> ∀ nm : List Str, nm.length <= B + 2 -> (∀ x ∈ nm, x.length <= 10 * (B + 2)) -> Ox (B + 2) { p with ks := ks, es := es, ss := ss, nm := nm } := fun ks es ss a1 a2 a3 nm a4 a5 =>
   ⟨a1, a2, a3, a5, a4, fun q hq => ath (h.b1 q hq) Q.a, as8 h.b2, as8 h.i1, as8 h.o1, as8 h.w1, fun l hl => ⟨as8 (h.d1 l hl).1, (h.d1 l hl).2⟩, fun w hw => ⟨(h.w2 w hw).1, as8 (h.w2 w hw).2⟩⟩
 have n2 : p.nm.length <= B + 2 := as8 h.n2
 have n1 : ∀ x ∈ p.nm, x.length <= 10 * (B + 2) := fun q hq => ath (h.n1 q hq) Q.a
 refine ten (c := c) _ (fun e => ?_) (fun e => ?_) (fun e => ?_) (fun e => ?_) (fun e => ?_) (fun e => ?_) (fun e => ?_) (fun e => ?_) (fun e => ?_) (fun e => ?_)
 . rw [st0 e]; exact mk _ _ _ Q.a (by rw [atz]; omega) Q.a _ n2 n1
 . rw [st1 e]; exact mk _ _ _ Q.a (by rw [atz]; omega) Q.a _ n2 n1
 . rw [st2 e]; exact mk _ _ _ Q.a (by rw [atz]; omega) Q.a _ n2 n1
 . rw [st3 e]; exact mk _ _ _ (by rw [atz]; omega) Q.a Q.a _ n2 n1
 . rw [st4 e]; exact mk _ _ _ (by rw [atz]; omega) Q.a (by rw [atz]; omega) _ n2 n1
 . rw [st5 e]; exact mk _ _ _ Q.a Q.a (by rw [atz]; omega) _ n2 n1
 . rw [st6 e]
   refine mk _ _ _ Q.a Q.a Q.a _ (by rw [at9, qE]; have := h.n2; omega) fun x hx => ?_
   rcases j9.mp (auN hx) with rfl | z
   . exact ath (show ("more" : Str).length <= 4 by decide +kernel) Q.a
   . exact n1 x z
 . rw [st7 e]
   split
   . exact mk _ _ _ Q.a (Wo e1) Q.a _ n2 n1
   . exact mk _ _ _ Q.a Q.a (Wo s1) _ n2 n1
 . rw [st8 e]
   exact ⟨atx _, atx _, atx _, fun x hx => absurd hx att, atx _, fun q hq => ath (h.b1 q hq) Q.a, as8 h.b2, atx _, atx _, as8 h.w1, fun l hl => by
     have hl : l ∈ ([] ++ [] ++ p.ws.map (·.dl) : List (List pV)) := hl
     have := h.d1 l (List.mem_append_right _ (by simpa using hl))
     exact ⟨as8 this.1, this.2⟩, fun w hw => ⟨(h.w2 w hw).1, as8 (h.w2 w hw).2⟩⟩
 . rw [st9 e]
   have cl : ∀ x ∈ n14, x.length <= 3 := Q.f
   exact mk _ _ _ (ath (show k14.length <= 14 by decide +kernel) Q.a) (ath (show e14.length <= 14 by decide +kernel) Q.a) (ath (show s14.length <= 14 by decide +kernel) Q.a) _ (ath (show n14.length <= 14 by decide +kernel) Q.a) fun x hx => ath (cl x hx) Q.a
theorem Mf {x : Str} (h : dO x = true) : PyData.strOk x = true := by
 unfold dO at h
 simp only [ato] at h
 have h := atL.mp h.2.2.2.2
 unfold PyData.strOk
 rw [← Array.all_toList, atL]
 intro c hc
 have := h c hc
 unfold isLt ur at this
 simp only [Bool.or_eq_true, ato, aur] at this
 refine ata ?_
 omega
theorem wC {x : Str} {l : Q.h} (h : x ∈ l) (hl : l.all (fun y => PyData.strOk y) = true) : PyData.strOk x = true := atL.mp hl x h
theorem BV {x y : L3.D} (h1 : qO n x) (h2 : qO n y) : qO (n + 1) (.tup [x, y]) := .tup fun d hd => by
 simp only [atl, att, avi] at hd
 rcases hd with rfl | rfl
 . exact h1
 . exact h2
theorem Yl {x y z : L3.D} (h1 : qO n x) (h2 : qO n y) (h3 : qO n z) : qO (n + 1) (.tup [x, y, z]) := .tup fun d hd => by
 simp only [atl, att, avi] at hd
 rcases hd with rfl | rfl | rfl
 . exact h1
 . exact h2
 . exact h3
structure Ym (w : pR) : Prop where
 a : PyData.strOk w.sign = true
 b : ∀ q ∈ w.al, ∀ k, qO (k + 2) (xX q)
 c : ∀ q ∈ w.dl, ∀ k, qO (k + 2) (F8 q)
 d : PyData.strOk w.mode = true
theorem Ym.dep (h : Ym w) : qO 59 (jK w) := .tup fun d hd => by
 simp only [atl, att, avi] at hd
 rcases hd with rfl | rfl | rfl | rfl | rfl | rfl
 . exact .int _ _
 . exact .str _ _ h.a
 . refine .tup fun d hq => ?_
   obtain ⟨q, hm, rfl⟩ := atj.mp hq
   exact h.b q hm _
 . refine .tup fun d hq => ?_
   obtain ⟨q, hm, rfl⟩ := atj.mp hq
   exact h.c q hm _
 . exact .int _ _
 . exact .str _ _ h.d
theorem Ym.deps {ws : List pR} (h : ∀ v ∈ ws, Ym v) : qO 60 (.lst (ws.map jK)) := .lst fun d hd => by
 obtain ⟨w, hw, rfl⟩ := atj.mp hd
 exact (h w hw).dep
theorem aeS {bs : Q.D} (h : pK bs = true) : qO 60 (.lst (bs.map kL)) := .lst fun d hd => by
 obtain ⟨q, hq, rfl⟩ := atj.mp hd
 unfold pK lF at h
 simp only [ato] at h
 have := atL.mp h.2.1 q.1 (atj.mpr ⟨q, hq, rfl⟩)
 exact BV (.str _ _ (Mf this)) (.int _ _)
theorem abD (c : Int) (m n k : Nat) : qO (k + 2) (xX (wB c m n)) := by
 unfold wB
 split
 . exact BV (.str _ _ (wC (g8 (l := (["open", "shut"] : List Str)) (by have h1 := (gT (c / 4) (n := 2) Q.c).1; exact h1)) Q.d)) (.int _ _)
 split
 . exact Yl (.str _ _ (wC (g8 (l := baL) (by have h1 := (gT (c / 4) (n := 4) Q.c).1; exact h1)) Q.d)) Q.ar Q.ar
 split
 . exact Yl (.str _ _ Q.d) Q.ar Q.ar
 . exact Yl (.str _ _ Q.d) Q.ar Q.ar
theorem aeT (c k : Int) (m n : Nat) (h : Ym w) : Ym (sR c k m n w) := by
 unfold sR
 split
 . exact ⟨h.a, h.b, h.c, h.d⟩
 split
 . exact ⟨wC (g8 (l := Ke "go") (by have h1 := (gT c (n := 12) Q.c).1; exact h1)) Q.d, h.b, h.c, h.d⟩
 split
 . exact ⟨h.a, h.b, h.c, h.d⟩
 split
 . exact ⟨h.a, h.b, h.c, wC (g8 (l := (["", "fresh", "New"] : List Str)) (by have h1 := (gT c (n := 3) Q.c).1; exact h1)) Q.d⟩
 split
 . exact ⟨h.a, h.b, h.c, wC (g8 (l := (["near", "far"] : List Str)) (by have h1 := (gT c (n := 2) Q.c).1; exact h1)) Q.d⟩
 split
 . refine ⟨h.a, fun q hq k => ?_, h.c, h.d⟩
   rcases j9.mp hq with rfl | z
   . exact abD _ _ _ _
   . exact h.b q z k
 . exact ⟨h.a, h.b, h.c, h.d⟩
theorem abE {t : Int} : Ym ⟨0, "go", [], [], t, "new"⟩ := ⟨by show PyData.strOk "go" = true; decide +kernel, fun q hq => absurd hq att, fun q hq => absurd hq att, by show PyData.strOk "new" = true; decide +kernel⟩
theorem ajn {l : List pR} (c : Int) (m n : Nat) (h : ∀ v ∈ l, Ym v) : ∀ v ∈ zE (Bh l) c m n, Ym v := by
 have g0 : ∀ w ∈ Bh l, Ym w := by
   unfold Bh
   split
   . intro w hw; cases atD.mp hw; exact abE
   . exact h
 generalize Bh l = l at g0
 unfold zE
 dsimp only
 generalize (c / 9 % (l.length : Int)).toNat = i
 intro v hv
 rcases qT hv with z | rfl
 . revert z
   split
   . intro z
     rcases ate.mp z with z | z
     . exact g0 v z
     . cases atD.mp z; exact abE
   . exact fun z => g0 v z
 . refine aeT _ _ _ _ ?_
   rcases Ip l i Wi with z | z
   . exact g0 _ z
   . rw [z]; exact abE
structure qa (w B : Nat) (p : Pt) : Prop where
 sh : Ox B p
 b14 : 14 <= B
 tr : BL p.ks p.es p.ss p.nm.length = true
 Z7 : 2 <= w -> lF p.nm = true
 Yn : 2 <= w -> pK p.bs = true
 stw : 3 <= w -> ∀ v ∈ p.ws, Ym v
 li : 3 <= w -> p.is.length = p.nm.length /\ p.os.length = p.nm.length
 Wq : 4 <= w -> oz p.nm.length p.bs.length p.is p.os p.ws = true
def spK (w : Nat) (p : Pt) (c : Int) : Pt := if w = 0 then dP p c else if w = 1 then iF p c else if w = 2 then rQ p c else if w = 3 then gQ p c else kI p c
theorem qa.pos {w : Nat} (h : qa w B p) : 0 < p.nm.length := by
 obtain ⟨h0, h1, h2, h3, _⟩ := mJ.mp h.tr
 omega
theorem abF {w : Nat} (c : Int) (h : qa w B p) : Ox (B + 2) (spK w p c) := by
 unfold spK
 split
 . exact aeR c h.sh h.b14
 split
 . exact aeN c h.sh
 split
 . exact ajl c h.sh h.b14
 split
 . exact aeO c h.sh h.b14
 . exact ajm c h.sh h.b14
theorem Iq : (iF p c).nm.length = p.nm.length := by
 unfold iF
 dsimp only
 split
 . rw [atz, atz]
 . rw [atz]
theorem KW (p : Pt) (c : Int) : ∃ is os ws, gQ p c = { p with is := is, os := os, ws := ws } := by
 unfold gQ
 dsimp only
 split
 . exact ⟨_, _, _, rfl⟩
 split
 . exact ⟨_, _, _, rfl⟩
 split
 . split
   . exact ⟨_, _, _, rfl⟩
   . exact ⟨_, _, _, rfl⟩
 . exact ⟨_, _, _, rfl⟩
theorem aeU {w : Nat} (c : Int) (h : qa w B p) (hw : w <= 4) : (spK w p c).ref = (w : Int) := by
 have hn := h.pos
 have tT : ¬ BL p.ks p.es p.ss p.nm.length = false := by rw [h.tr]; decide
 have hc : w = 0 \/ w = 1 \/ w = 2 \/ w = 3 \/ w = 4 := by omega
 rcases hc with rfl | rfl | rfl | rfl | rfl
 . show (dP p c).ref = 0
   unfold Pt.ref iE
   rw [atb (aeI c h.tr)]
 . show (iF p c).ref = 1
   unfold Pt.ref iE
   rw [as5 (show ¬ BL (iF p c).ks (iF p c).es (iF p c).ss (iF p c).nm.length = false by rw [Iq]; exact tT), atb (aeJ c hn)]
 . show (rQ p c).ref = 2
   unfold Pt.ref iE
   rw [as5 (show ¬ BL (rQ p c).ks (rQ p c).es (rQ p c).ss (rQ p c).nm.length = false from tT), as5 (show ¬ lF (rQ p c).nm = false by show ¬ lF p.nm = false; rw [h.Z7 Q.a]; decide), atb (show pK (rQ p c).bs = false from ajg c (Wm _))]
 . show (gQ p c).ref = 3
   obtain ⟨hi, ho⟩ := h.li Q.a
   have hd := aeL c hn hi ho
   obtain ⟨is, os, ws, e⟩ := KW p c
   unfold Pt.ref iE
   rw [e] at hd ⊢
   rw [as5 tT, as5 (show ¬ lF p.nm = false by rw [h.Z7 Q.a]; decide), as5 (show ¬ pK p.bs = false by rw [h.Yn Q.a]; decide), atb hd]
 . show (kI p c).ref = 4
   have hd := h.Wq Q.a
   have hdl : (zE (Bh p.ws) c p.bs.length p.nm.length).map (·.dl) = (zE (Bh p.ws) c p.bs.length p.nm.length).map (·.dl) := rfl
   have hw2 : oz p.nm.length p.bs.length p.is p.os (zE (Bh p.ws) c p.bs.length p.nm.length) = true := by
     unfold oz at hd ⊢
     simp only [ato] at hd ⊢
     refine ⟨hd.1, hd.2.1, ?_⟩
     have hd3 := atL.mp hd.2.2
     refine atL.mpr fun l hl => ?_
     rcases ate.mp hl with z | z
     . exact hd3 l (as9 _ z)
     . obtain ⟨w, hw2, rfl⟩ := atj.mp z
       have g0 : ∀ w ∈ Bh p.ws, w.dl.all (Yk p.bs.length) = true := by
         unfold Bh
         split
         . intro w hw; cases atD.mp hw; rfl
         . exact fun w hw => hd3 _ (as7 _ (atj.mpr ⟨w, hw, rfl⟩))
       revert hw2
       generalize Bh p.ws = l at g0
       unfold zE
       dsimp only
       generalize (c / 9 % (l.length : Int)).toNat = i
       intro hw2
       rcases qT hw2 with z | rfl
       . revert z
         split
         . intro z
           rcases ate.mp z with z | z
           . exact g0 w z
           . cases atD.mp z; rfl
         . exact fun z => g0 w z
       . have e : ∀ (a b : Int) (m n : Nat) (v : pR), (sR a b m n v).dl = v.dl := fun a b m n v => by
           unfold sR
           split
           . rfl
           split
           . rfl
           split
           . rfl
           split
           . rfl
           split
           . rfl
           split
           . rfl
           . rfl
         rw [e]
         rcases Ip l i Wi with z | z
         . exact g0 _ z
         . rw [z]; rfl
   unfold Pt.ref iE
   rw [as5 (show ¬ BL (kI p c).ks (kI p c).es (kI p c).ss (kI p c).nm.length = false from tT), as5 (show ¬ lF (kI p c).nm = false by show ¬ lF p.nm = false; rw [h.Z7 Q.a]; decide), as5 (show ¬ pK (kI p c).bs = false by show ¬ pK p.bs = false; rw [h.Yn Q.a]; decide), as5 (show ¬ oz (kI p c).nm.length (kI p c).bs.length (kI p c).is (kI p c).os (kI p c).ws = false by show ¬ oz p.nm.length p.bs.length p.is p.os (zE (Bh p.ws) c p.bs.length p.nm.length) = false; rw [hw2]; decide), atb (show Ij (kI p c).nm.length (kI p c).bs.length 0 (kI p c).ws = false from ajk c _ _ (Wn _))]
theorem Yo {w v : Nat} (c : Int) (h : qa w B p) (hw : w <= 4) (hv : v < w) : qa v (B + 2) (spK w p c) := by
 have sh := abF c h
 have b14 := as8 (k := 2) h.b14
 have hc : w = 1 \/ w = 2 \/ w = 3 \/ w = 4 := by omega
 rcases hc with rfl | rfl | rfl | rfl
 . exact ⟨sh, b14, by show BL p.ks p.es p.ss (iF p c).nm.length = true; rw [Iq]; exact h.tr, fun z => by omega, fun z => by omega, fun z => by omega, fun z => by omega, fun z => by omega⟩
 . exact ⟨sh, b14, h.tr, fun z => by omega, fun z => by omega, fun z => by omega, fun z => by omega, fun z => by omega⟩
 . obtain ⟨is, os, ws, e⟩ := KW p c
   refine ⟨sh, b14, ?_, fun z => ?_, fun z => ?_, fun z => by omega, fun z => by omega, fun z => by omega⟩
   . show BL (gQ p c).ks (gQ p c).es (gQ p c).ss (gQ p c).nm.length = true
     rw [e]; exact h.tr
   . show lF (gQ p c).nm = true
     rw [e]; exact h.Z7 Q.a
   . show pK (gQ p c).bs = true
     rw [e]; exact h.Yn Q.a
 . exact ⟨sh, b14, h.tr, fun z => h.Z7 Q.a, fun z => h.Yn Q.a, fun z => ajn c _ _ (h.stw Q.a), fun z => h.li Q.a, fun z => by omega⟩
seal L3.dY L3.TSv L3.dH L3.eK L3.xT L3.XJ L3.BAv
abbrev xY : Stmt := top 45
abbrev xZ : Type := List Int × Int
def gj : xZ -> List L3.D := fun (ns, j) => [.lst (ns.map .int), .int j]
def gk : xZ -> Prop := fun (ns, j) => 0 <= j
def gu : xZ -> T := fun (ns, j) => (.sh (.int (cB ns j)) : T)
structure Yp (X : Cx) (CL : Q.g) : Prop extends cT X where
 bV : Ln X 0 "script"
 t6 : Ln X 1 "k"
 cJ : Gl X "len"
 cF : X.mg "len" = none
variable {X : Cx} {CL : Q.g}
theorem Yq {b : Bx} (E : Yp X CL) {cz : xZ} (h : gk cz) :
   aN X CL b xY ["script", "k"] (gj cz) (gu cz) := by
 obtain ⟨ns, j⟩ := cz
 dsimp only [aN, gk, gj, gu] at h ⊢
 refine b5 (Hw (aL E.t6) (ai (VW E.cF (aL E.bV) E.cJ))).1 (fun hp => ?_) (fun hp => ?_)
 . have e : j < ns.length := by simpa using of_decide_eq_true hp
   refine bx (b7 (bu (aL E.bV) (aL E.t6) (fH h e)) rfl) ?_
   show T.sh _ = T.sh (.int (cB ns j))
   rw [cB, atb e]
 . have e : ¬ j < ns.length := by simpa using of_decide_eq_false hp
   refine ak (bx aj ?_)
   show T.sh _ = T.sh (.int (cB ns j))
   rw [cB, as5 e]
theorem zF : pQ (az xY) ([("script", aF), ("k", aF), ("len", aE)]) = true := Q.f
theorem Si : aZ ["script", "k"] ["script", "k"] (az xY) := bB
abbrev ux : Stmt := top 46
abbrev uy : Type := List Int × Int
def qg : uy -> List L3.D := fun (es, m) => [.lst (es.map .int), .int m]
def kg : uy -> Prop := fun (es, m) => D6 es /\ 0 <= m /\ m < es.length /\ es.length <= 1000
def qh : uy -> T := fun (es, m) => (.lst (((oB es m).map .int).map T.sh) : T)
structure Sj (X : Cx) (CL : Q.g) : Prop extends cT X where
 dI : Ln X 0 "elders"
 eS : Ln X 1 "at"
 uz : Ln X 2 "found"
theorem Sl {b : Bx} (E : Sj X CL) {cz : uy} (h : kg cz) :
   aN X CL b ux ["elders", "at", "found"] (qg cz) (qh cz) := by
 obtain ⟨es, m⟩ := cz
 dsimp only [aN, kg, qg, qh] at h ⊢
 obtain ⟨ht, h0, h1, hlen⟩ := h
 refine bf E.g E.uz (cR cV (atx _)) ?_
 refine V2 E.g (fun n δ => ∃ (k : Int) (l : Q.e), δ = [some (.sh (.lst (es.map .int))), some (.sh (.int k)), some (.lst ((l.map .int).map T.sh))] /\ 0 <= k /\ k < n /\ k < es.length /\ l ++ oB es k = oB es m /\ l.length + n <= es.length + 1) (es.length + 1)
   ⟨m, [], rfl, h0, by omega, h1, rfl, by simp⟩ ?_
 rintro n δ ⟨k, l, rfl, k0, k1, k2, k3, k4⟩
 have ha := ht.at k0 k2
 have he := LZ ht k0 k2
 refine ⟨_, _, (pU (bu (aL E.dI) (aL E.eS) (fH k0 k2)) (ai Q.A)).1, fun hp => ?_, fun hp => ?_⟩
 . have hk : ¬ es.getD k.toNat 0 = -1 := by simpa using hp
   rw [as5 hk] at he
   cases n with
   | zero => omega
   | succ n =>
     refine bf E.g E.eS (b7 (bu (aL E.dI) (aL E.eS) (fH k0 k2)) rfl) ?_
     refine y9 E.uz.1 rfl (v_ E.eS.1) rfl Q.Z ?_
     refine ak ⟨n, au8 _, es.getD k.toNat 0, l ++ [es.getD k.toNat 0], ?_, by omega, by omega, by omega, ?_, by simp; omega⟩
     . show [_, _, some (T.lst (((l.map D.int).map T.sh) ++ [T.sh (.int (es.getD k.toNat 0))]))] = _
       simp
     . rw [← k3, he, atc]
       rfl
 . have hk : es.getD k.toNat 0 = -1 := by simpa using hp
   rw [atb hk] at he
   have e : l = oB es m := by rw [← k3, he, atY]
   subst e
   exact bx (vM E.uz.1) rfl
theorem wF : pQ (az ux) ([("elders", aF), ("at", aF), ("found", aF)]) = true := Q.f
theorem PV : aZ ["elders", "at", "found"] ["elders", "at"] (az ux) := bB
def Yr (es : Q.e) (j : Nat) : List Int := ((j : Int) :: oB es j).filter fun a => decide (((oB es a).length : Int) < 12)
def Z8 (s es : Q.e) (j : Nat) : Int := (Yr es j).getD (cB s (1 + (j : Int)) % ((Yr es j).length : Int)).toNat 0
def yR (s : Q.e) : Nat -> List Int
 | 0 => [-1]
 | j + 1 => yR s j ++ [Z8 s (yR s j) j]
theorem Wr {es : Q.e} (h : tH es) : ∀ (n : Nat) {m : Int}, 0 <= m -> m < es.length -> m < n -> m = 0 \/ 0 ∈ oB es m
 | 0, m, h0, _, hn => by omega
 | n + 1, m, h0, h1, hn => by
   by_cases hm : m = 0
   . exact .inl hm
   have hp := h.2 (m.toNat - 1) Q.a
   rw [show m.toNat - 1 + 1 = m.toNat by omega] at hp
   have ha := h.1.at h0 h1
   have hk0 : 0 <= es.getD m.toNat 0 := by
     rcases hp with z | z
     . omega
     . have := GL h.1 (m := ((m.toNat - 1 : Nat) : Int)) Q.a Q.a z
       omega
   refine .inr ?_
   rw [LZ h.1 h0 h1, as5 Q.a]
   rcases Wr h n (m := es.getD m.toNat 0) hk0 Q.a Q.a with z | z
   . exact atl.mpr (.inl z.symm)
   . exact atk _ z
theorem abG (h : tH es) (hj : j < es.length) : 0 ∈ Yr es j := by
 have e0 := h.1.at (k := 0) Q.a Q.a
 have c0 : oB es 0 = [] := by rw [LZ h.1 Q.a Q.a, atb Q.a]
 refine auV.mpr ⟨?_, by rw [c0]; rfl⟩
 rcases Wr h (j + 1) (m := (j : Int)) Q.a Q.a Q.a with z | z
 . exact atl.mpr (.inl z.symm)
 . exact atk _ z
theorem Ws (h : tH es) (hj : j < es.length) : 0 < (Yr es j).length := List.length_pos_of_mem (abG h hj)
variable {s : Q.e}
theorem aeV (h : tH es) (hj : j < es.length) : Z8 s es j ∈ Yr es j := by
 have h0 := Ws h hj
 have a := atw (cB s (1 + (j : Int))) (b := ((Yr es j).length : Int)) Q.a
 have b := atp (cB s (1 + (j : Int))) (b := ((Yr es j).length : Int)) Q.a
 unfold Z8
 rw [atg, atm Q.a]
 exact auw _
theorem ajp (h : tH es) (hj : j < es.length) : (Z8 s es j = j \/ Z8 s es j ∈ oB es j) /\ (oB es (Z8 s es j)).length < 12 := by
 have hm := auV.mp (aeV (s := s) h hj)
 have h2 := as6 hm.2
 exact ⟨atl.mp hm.1, by omega⟩
theorem aeW : tH [-1] := ⟨fun k hk => by
   have : k = 0 := by simpa using hk
   subst this
   exact ⟨avb _, show (-1 : Int) < ((0 : Nat) : Int) by decide⟩, fun k hk => by simp at hk⟩
theorem Ir (s : Q.e) : ∀ j, (yR s j).length = j + 1 /\ tH (yR s j) /\ ∀ m : Int, 0 <= m -> m < (yR s j).length -> (oB (yR s j) m).length <= 12
 | 0 => ⟨rfl, aeW, fun m h0 h1 => by
     have h1 : m < 1 := h1
     have : m = 0 := by omega
     subst this
     exact atx _⟩
 | j + 1 => by
   obtain ⟨h1, h2, h3⟩ := Ir s j
   obtain ⟨p1, p2⟩ := ajp (s := s) h2 (show j < (yR s j).length by omega)
   have est : yR s (j + 1) = yR s j ++ [Z8 s (yR s j) j] := rfl
   rw [est]
   generalize yR s j = es at h1 h2 h3 p1 p2 ⊢
   generalize Z8 s es j = x at p1 p2 ⊢
   have hx : 0 <= x /\ x < es.length := by
     rcases p1 with z | z
     . omega
     . have := GL h2.1 (m := (j : Int)) Q.a Q.a z
       omega
   have hs := h2.snoc h1.symm p1
   have hl : (es ++ [x]).length = es.length + 1 := by rw [ats]; rfl
   refine ⟨by omega, hs, fun m m0 m1 => ?_⟩
   by_cases hm : m < es.length
   . rw [L0 h2.1 m0 hm]
     exact h3 m m0 hm
   . have e : m.toNat = es.length := by omega
     have eg : (es ++ [x]).getD m.toNat 0 = x := by rw [e, atg, auv (atq _), avh]; rfl
     rw [LZ hs.1 m0 m1, eg, as5 Q.a, L0 h2.1 hx.1 hx.2, at8]
     omega
abbrev BW : Stmt := top 47
abbrev BX : Type := List Int × Nat
def uA : BX -> List L3.D := fun (s, n) => [.lst (s.map .int), .int n]
def qU : BX -> Prop := fun (s, n) => 1 <= n /\ n <= 900
def uB : BX -> T := fun (s, n) => (.lst (((yR s (n - 1)).map .int).map T.sh) : T)
structure abH (X : Cx) (CL : Q.g) : Prop extends cT X where
 bV : Ln X 0 "script"
 bq : Ln X 1 "many"
 dI : Ln X 2 "elders"
 wG : X.env.kindOf "elders" = some .cell
 t6 : Ln X 3 "k"
 BZ : Ln X 4 "chain"
 cW : Gl X "range"
 Mg : Gl X "_law_above"
 bP : Gl X "_law_cell_at"
 cJ : Gl X "len"
 cX : X.mg "range" = none
 Iu : Fc X CL "_law_above" 1 2 qg kg qh
 dg : Fc X CL "_law_cell_at" 1 2 gj gk gu
 cF : X.mg "len" = none
theorem abI {b : Bx} (E : abH X CL) {cz : BX} (h : qU cz) :
   aN X CL b BW ["script", "many", "elders", "k", "chain"] (uA cz) (uB cz) := by
 obtain ⟨s, n⟩ := cz
 dsimp only [aN, qU, uA, uB] at h ⊢
 obtain ⟨n1, n2⟩ := h
 refine bf E.g E.dI (fO (ay Q.A bK) Q.i) ?_
 refine oA E.g E.t6 (fun j δ => ∃ o3 o4, δ = [some (.sh (.lst (s.map .int))), some (.sh (.int n)), some (.lst (((yR s j).map .int).map T.sh)), o3, o4])
   (DV E.cX Q.b (aL E.bq) Q.a E.cW) ⟨_, _, rfl⟩ Q.at ?turn ?fin
 case turn =>
   rintro j d δ hj ⟨o3, o4, rfl⟩
   obtain ⟨rfl, FU⟩ := kR hj
   obtain ⟨hl, hp, _⟩ := Ir s j
   have est : yR s (j + 1) = yR s j ++ [Z8 s (yR s j) j] := rfl
   show dY X CL b _ _ { nx := fun δ => ∃ o3 o4, δ = [_, _, some (.lst (((yR s (j + 1)).map .int).map T.sh)), o3, o4], rt := _, bk := _, ct := _ }
   rw [est]
   generalize yR s j = es at hl hp ⊢
   have ht := hp.1
   have hjn : j + 1 < n := by simp at FU; omega
   have hcl : (oB es (j : Int)).length <= es.length + 1 := L1 _ _ _
   have ej : (1 + (j : Int)) - 1 = (j : Int) := by omega
   have abJ := Ws hp (show j < es.length by omega)
   have hck : (Yr es j).length <= es.length + 2 := ath (List.length_filter_le _ _) (by rw [at8]; omega)
   refine bf E.g E.BZ (aK (ug (ds := [.int (j : Int)]) (V1 := (oB es (j : Int)).map .int) (bJ (ds := [.int (j : Int)]) (aK (cR (bA (dZ (aL E.t6) Q.b) cV) Q.i) (by rw [ej]; rfl)))
     (bJ (aK (c_ (es, (j : Int)) E.Iu E.Mg (ao (vL E.dI.1) (ao (HF (ai (dZ (aL E.t6) Q.b)) (congrArg L3.D.int ej)) aG)) (by dsimp only [kg]; exact ⟨ht, by omega, by omega, by omega⟩) (lD _)) rfl)) rfl (gi _) (Nat.le_of_lt (cS Q.Z))) (t2 := .lst ((((j : Int) :: oB es (j : Int)).map .int).map T.sh)) rfl) ?_
   refine HN (p := fun d => decide (((oB es d.FG).length : Int) < 12)) (gg := fun d => T.sh d) E.g E.BZ (d7 (.cons E.dI.1 (.inl E.wG) .nil) Q.d) (ud (vFL E.BZ.1 rfl)) (.inl ⟨rfl, fun d hd => by obtain ⟨i, _, rfl⟩ := atj.mp hd; rfl⟩) (fun C s0 H0 f0 b' d hd => ?Ys) (aub (cS Q.Z)) ?rest (by exact atf rfl) (wj ⟨_, rfl⟩)
   case Ys =>
     obtain ⟨i, hi, rfl⟩ := atj.mp hd
     have hib : 0 <= i /\ i < es.length := by
       rcases atl.mp hi with z | z
       . omega
       . have := GL ht (m := (j : Int)) Q.a Q.a z
         omega
     exact ⟨(Hw (ai (cG (n := (oB es i).length) (List.length_map ..) (by exact E.cF) (bJ (aK (c_ (es, i) (By E.Iu) (qd Q.d) (ao (HF Q.aE (bH _)) (ao Q.af aG)) (by dsimp only [kg]; exact ⟨ht, by omega, by omega, by omega⟩) (lD _)) (t2 := .lst (((oB es i).map .int).map T.sh)) rfl)) (qd Q.d))) Q.b).1, fun _ => v_ (ji (i := 0) rfl Q.d)⟩
   case rest =>
   have em : ((((j : Int) :: oB es (j : Int)).map L3.D.int).filter (fun d => decide (((oB es d.FG).length : Int) < 12))).map (fun d => T.sh d) = ((Yr es j).map L3.D.int).map T.sh := by
     rw [List.filter_map]
     rfl
   rw [em]
   have c1 := atw (cB s (1 + (j : Int))) (b := ((Yr es j).length : Int)) Q.a
   have c2 := atp (cB s (1 + (j : Int))) (b := ((Yr es j).length : Int)) Q.a
   have hl2 : ((Yr es j).map L3.D.int).length = (Yr es j).length := as4 ..
   have e1 : ((es.map L3.D.int).map T.sh) ++ [T.sh (.int (Z8 s es j))] = ((es ++ [Z8 s es j]).map L3.D.int).map T.sh := by simp
   refine y9 E.dI.1 rfl (aK (b7 (bu (vL E.BZ.1) (ai (aQ (ai (c_ ((s, 1 + (j : Int))) E.dg E.bP (ao (aL E.bV) (ao (aL E.t6) aG)) (show (0 : Int) <= 1 + (j : Int) by omega) rfl)) (ai (cG (hl2) E.cF (vL E.BZ.1) E.cJ)) Q.a)) (fH c1 c2)) rfl) (t2 := .sh (.int (Z8 s es j))) rfl) rfl Q.Z (ak ?_)
   rw [e1]
   exact ⟨_, _, rfl⟩
 case fin =>
   rintro δ ⟨o3, o4, rfl⟩
   refine bx (vM E.dI.1) ?_
   have e : (cO 1 ((n : Int) - 1).toNat).length = n - 1 := by simp [cO]
   rw [e]
theorem jb : pQ (az BW) ([("script", aF), ("many", aF), ("elders", .cell), ("k", aF), ("chain", aF), ("range", aE), ("_law_above", aE), ("_law_cell_at", aE), ("len", aE)]) = true := Q.f
theorem Yt : aZ ["script", "many", "elders", "k", "chain"] ["script", "many"] (az BW) := bB
def knA (s es : Q.e) (k : Nat) : Str := if yP es k = [] then "leaf" else if (cB s k / 13 + k) % 2 = 0 then "all" else "one"
def stA (s es : Q.e) (k : Nat) : Int := if yP es k = [] then -1 else if (cB s k / 13 + k) % 2 = 0 then -1 else (yP es k).getD (cB s k / 26 % ((yP es k).length : Int)).toNat 0
def wH (s es : Q.e) (n : Nat) : List Str := (List.range n).map (knA s es)
def wI (s es : Q.e) (n : Nat) : List Int := (List.range n).map (stA s es)
theorem Wt : yP es k = [] ↔ (k : Int) ∉ es := by
 constructor
 . intro h hk
   obtain ⟨i, hi, e⟩ := List.getElem_of_mem hk
   have : (i : Int) ∈ yP es k := aeB Q.a Q.a (by rw [atH, atg, atm hi]; exact e)
   rw [h] at this
   cases this
 . intro h
   refine List.eq_nil_iff_forall_not_mem.mpr fun x hx => h ?_
   have hb := Wf hx
   rw [← hb.2.2, atg, atm Q.a]
   exact auw _
theorem Wu (s es : Q.e) (h : k < n) : (wH s es n).getD k Str.empty = knA s es k := by
 unfold wH
 rw [atg, atE, auC h]
 rfl
theorem aeX (s es : Q.e) (h : k < n) : (wI s es n).getD k 0 = stA s es k := by
 unfold wI
 rw [atg, atE, auC h]
 rfl
theorem PX (s es : Q.e) (n : Nat) : (wH s es n).length = n := by unfold wH; rw [as4, atU]
theorem PY (s es : Q.e) (n : Nat) : (wI s es n).length = n := by unfold wI; rw [as4, atU]
theorem abw.drawn (h : tH es) (h1 : 1 <= es.length) (h2 : es.length <= 900) (hd : ∀ m : Int, 0 <= m -> m < es.length -> (oB es m).length <= 12) : abw (wH s es es.length) es (wI s es es.length) where
 pre := h
 n1 := h1
 n2 := h2
 deep := hd
 kl := PX _ _ _
 sl := PY _ _ _
 kinds := fun m hm => by
   rw [Wu s es hm]
   unfold knA
   by_cases e : yP es m = []
   . rw [atb e, atn (Wt.mp e)]
     exact ⟨by decide +kernel, by decide +kernel⟩
   . have e2 : (m : Int) ∈ es := by
       by_cases z : (m : Int) ∈ es
       . exact z
       . exact absurd (Wt.mpr z) e
     rw [as5 e, ata e2]
     split
     . exact ⟨by decide +kernel, by decide +kernel⟩
     . exact ⟨by decide +kernel, by decide +kernel⟩
 starts := fun m hm => by
   rw [Wu s es hm, aeX s es hm]
   unfold knA stA
   by_cases e : yP es m = []
   . rw [atb e, atb e]
     exact .inl ⟨by decide +kernel, rfl⟩
   . rw [as5 e, as5 e]
     split
     . exact .inl ⟨by decide +kernel, rfl⟩
     . have hp := auT.mpr e
       have a := atw (cB s m / 26) (b := ((yP es m).length : Int)) Q.a
       have b := atp (cB s m / 26) (b := ((yP es m).length : Int)) Q.a
       have hx : (yP es m).getD (cB s m / 26 % ((yP es m).length : Int)).toNat 0 ∈ yP es m := by
         rw [atg, atm Q.a]
         exact auw _
       have hb := Wf hx
       refine .inr ⟨rfl, ?_, hb.2.2⟩
       unfold rP
       rw [ata hb.1, ata hb.2.1]
       rfl
abbrev GQ : Stmt := top 54
abbrev GR : Type := List Int × List Int
def x6 : GR -> List L3.D := fun (s, es) => [.lst (s.map .int), .lst (es.map .int)]
def x8 : GR -> Prop := fun (s, es) => es.length <= 900
def x9 : GR -> T := fun (s, es) => (.tup [.lst (((wH s es es.length).map .str).map T.sh), .lst (((wI s es es.length).map .int).map T.sh)] : T)
structure aeY (X : Cx) (CL : Q.g) : Prop extends cT X where
 bV : Ln X 0 "script"
 dI : Ln X 1 "elders"
 wG : X.env.kindOf "elders" = some .cell
 qi : Ln X 2 "kinds"
 tL : Ln X 3 "starts"
 t6 : Ln X 4 "k"
 k_k : X.env.kindOf "k" = some .cell
 Iv : Ln X 5 "near"
 cW : Gl X "range"
 cJ : Gl X "len"
 bP : Gl X "_law_cell_at"
 cX : X.mg "range" = none
 cF : X.mg "len" = none
 dg : Fc X CL "_law_cell_at" 1 2 gj gk gu
theorem aeZ {b : Bx} (E : aeY X CL) {cz : GR} (h : x8 cz) :
   aN X CL b GQ ["script", "elders", "kinds", "starts", "k", "near"] (x6 cz) (x9 cz) := by
 obtain ⟨s, es⟩ := cz
 dsimp only [aN, x8, x6, x9] at h ⊢
 have hl : es.length <= 900 := h
 refine bf E.g E.qi (cR cV (atx _)) ?_
 refine bf E.g E.tL (cR cV (atx _)) ?_
 refine oA E.g E.t6 (fun j δ => ∃ o4 o5, δ = [some (.sh (.lst (s.map .int))), some (.sh (.lst (es.map .int))), some (.lst (((wH s es j).map .str).map T.sh)), some (.lst (((wI s es j).map .int).map T.sh)), o4, o5])
   (fk E.cX (ai (cG (as4 ..) E.cF (aL E.dI) E.cJ)) Q.a E.cW) ⟨_, _, rfl⟩ Q.at ?turn ?fin
 case turn =>
   rintro j d δ hj ⟨o4, o5, rfl⟩
   obtain ⟨rfl, FU⟩ := kR hj
   rw [aul]
   have hjn : j < es.length := by simpa using FU
   refine HN (p := fun d => decide (es.getD d.FG.toNat 0 = (j : Int))) (gg := fun d => T.sh d) E.g E.Iv (d7 (.cons E.dI.1 (.inl E.wG) (.cons E.t6.1 (.inl E.k_k) .nil)) Q.d) (fk E.cX (ai (cG (as4 ..) E.cF (aL E.dI) E.cJ)) Q.a E.cW) (.inr rfl) (fun C s0 H0 f0 b' d hd => ?Ys) (aub (cS (by simp [cO]; omega))) ?rest (by exact atf rfl) (wj ⟨_, rfl⟩)
   case Ys =>
     obtain ⟨i, hi, rfl⟩ := atj.mp hd
     have hi' : i < es.length := by simpa using hi
     exact ⟨(bI (bu Q.aE Q.af (fH (show (0 : Int) <= 0 + (i : Int) by omega) (show 0 + (i : Int) < es.length by omega))) (ai (v_ (oG (i := 2) rfl Q.d)))).1, fun _ => v_ (ji (i := 0) rfl Q.d)⟩
   case rest =>
   have hin : ((cO 0 (es.length : Int).toNat).filter fun d => decide (es.getD d.FG.toNat 0 = (j : Int))).map (fun d => T.sh d) = ((yP es (j : Int)).map L3.D.int).map T.sh := by
     unfold cO yP
     rw [List.filter_map, atF, atF, atF, atH]
     have e1 : ((fun d : L3.D => decide (es.getD d.FG.toNat 0 = (j : Int))) ∘ fun (k : Nat) => L3.D.int (0 + (k : Int))) = fun (i : Nat) => decide (es.getD i 0 = (j : Int)) := by
       funext i
       show decide (es.getD (0 + (i : Int)).toNat 0 = (j : Int)) = _
       rw [aul, atH]
     rw [e1]
     congr 1
     funext i
     show T.sh (.int (0 + (i : Int))) = T.sh (.int i)
     rw [aul]
   rw [hin]
   have hml := aeA es (j : Int)
   have kl := PX s es j
   have sl := PY s es j
   have ek : wH s es (j + 1) = wH s es j ++ [knA s es j] := by simp [wH, auK]
   have esn : wI s es (j + 1) = wI s es j ++ [stA s es j] := by simp [wI, auK]
   show dY X CL b _ _ { nx := fun δ => ∃ o4 o5, δ = [_, _, some (.lst (((wH s es (j + 1)).map .str).map T.sh)), some (.lst (((wI s es (j + 1)).map .int).map T.sh)), o4, o5], rt := _, bk := _, ct := _ }
   rw [ek, esn]
   generalize wH s es j = ks at kl ⊢
   generalize wI s es j = ss at sl ⊢
   have aS : ∀ (l : Q.h) (x : Str), (l.map L3.D.str).map T.sh ++ [T.sh (.str x)] = ((l ++ [x]).map L3.D.str).map T.sh := by intros; simp
   have aI : ∀ (l : Q.e) (x : Int), (l.map L3.D.int).map T.sh ++ [T.sh (.int x)] = ((l ++ [x]).map L3.D.int).map T.sh := by intros; simp
   refine y9 E.qi.1 rfl bz rfl Q.Z ?_
   rw [aS]
   refine y9 E.tL.1 rfl Q.A rfl Q.Z ?_
   rw [aI]
   have amh : ∀ (x y : Str), (((ks ++ [x]).map L3.D.str).map T.sh).set j (T.sh (.str y)) = ((ks ++ [y]).map L3.D.str).map T.sh := fun x y => by
     rw [← avj, ← avj, List.set_append, as5 Q.a, kl, avh]; rfl
   have ami : ∀ (x y : Int), (((ss ++ [x]).map L3.D.int).map T.sh).set j (T.sh (.int y)) = ((ss ++ [y]).map L3.D.int).map T.sh := fun x y => by
     rw [← avj, ← avj, List.set_append, as5 Q.a, sl, avh]; rfl
   have amj : ∀ (l : Q.h) (x : Str), l.length = j -> xQ (((l ++ [x]).map L3.D.str).map T.sh).length (j : Int) = some j := fun l x e => by
     rw [as4, as4, ats]; unfold xQ; rw [atb Q.a, atb Q.Z, atH]
   have apr : ∀ (l : Q.e) (x : Int), l.length = j -> xQ (((l ++ [x]).map L3.D.int).map T.sh).length (j : Int) = some j := fun l x e => by
     rw [as4, as4, ats]; unfold xQ; rw [atb Q.a, atb Q.Z, atH]
   have ae0 : RP (.lst ((yP es (j : Int)).map L3.D.int)) (.lst []) = decide (yP es (j : Int) = []) := by
     generalize yP es (j : Int) = l
     cases l with
     | nil => rw [ata rfl]; exact Ph (pJ [])
     | cons x l => rfl
   refine b5 (ua (sO (Lx E.u (vL E.Iv.1) (bJ (ds := []) (cR cV (atx _))) (pJ _) (pJ [])).1 (fun _ => Bw (bI (ai (aQ (ai (bW (ai (aR (ai (c_ ((s, (j : Int))) E.dg E.bP (ao (aL E.bV) (ao (aL E.t6) aG)) ((show (0 : Int) <= (j : Int) by omega)) rfl)) Q.b ⟨by decide, by decide⟩)) (aL E.t6))) Q.b Q.c)) Q.b).1))) (fun hp => ?_) (fun hp => ?_)
   . rw [ato, ae0] at hp
     have p1 : ¬ yP es (j : Int) = [] := by simpa using hp.1
     have p2 := as6 hp.2
     refine aaZ E.qi.1 bz (aL E.t6) rfl (amj ks _ kl) (ak (ak ?_))
     rw [amh, show knA s es j = "all" by unfold knA; rw [as5 p1, atb p2], show stA s es j = -1 by unfold stA; rw [as5 p1, atb p2]]
     exact ⟨_, _, rfl⟩
   . rw [ae0] at hp
     refine b5 (Lx E.u (vL E.Iv.1) (bJ (ds := []) (cR cV (atx _))) (pJ _) (pJ [])).1 (fun hq => ?_) (fun hq => ?_)
     . rw [ae0] at hq
       have p1 : ¬ yP es (j : Int) = [] := by simpa using hq
       have p2 : ¬ (cB s (j : Int) / 13 + j) % 2 = 0 := fun z => by
         rw [atn p1] at hp
         exact absurd z (atd hp)
       have abJ := auT.mpr p1
       have c1 := atw (cB s (j : Int) / 26) (b := ((yP es (j : Int)).length : Int)) Q.a
       have c2 := atp (cB s (j : Int) / 26) (b := ((yP es (j : Int)).length : Int)) Q.a
       have hl2 : ((yP es (j : Int)).map L3.D.int).length = (yP es (j : Int)).length := as4 ..
       have e2 : stA s es j = (yP es (j : Int)).getD (cB s (j : Int) / 26 % ((yP es (j : Int)).length : Int)).toNat 0 := by unfold stA; rw [as5 p1, as5 p2]
       refine aaZ E.qi.1 bz (aL E.t6) rfl (amj ks _ kl) ?_
       refine aaZ E.tL.1 (aK (b7 (bu (vL E.Iv.1) (ai (aQ (ai (aR (ai (c_ ((s, (j : Int))) E.dg E.bP (ao (aL E.bV) (ao (aL E.t6) aG)) (show (0 : Int) <= (j : Int) by omega) rfl)) Q.b ⟨by decide, by decide⟩)) (ai (cG (hl2) E.cF (vL E.Iv.1) E.cJ)) Q.a)) (fH c1 c2)) rfl) (t2 := .sh (.int (stA s es j))) (by rw [e2])) (aL E.t6) rfl (apr ss _ sl) (ak (ak (ak ?_)))
       rw [amh, ami, show knA s es j = "one" by unfold knA; rw [as5 p1, as5 p2]]
       exact ⟨_, _, rfl⟩
     . rw [ae0] at hq
       have p1 : yP es (j : Int) = [] := by simpa using hq
       refine ak (ak (ak ?_))
       rw [show knA s es j = "leaf" by unfold knA; rw [atb p1], show stA s es j = -1 by unfold stA; rw [atb p1]]
       exact ⟨_, _, rfl⟩
 case fin =>
   rintro δ ⟨o4, o5, rfl⟩
   rw [show (cO 0 (es.length : Int).toNat).length = es.length by simp [cO]]
   exact bx (aaT (bA (vM E.qi.1) (bA (vM E.tL.1) cV)) Q.i) rfl
theorem jL : pQ (az GQ) ([("script", aF), ("elders", .cell), ("kinds", aF), ("starts", aF), ("k", .cell), ("near", aF), ("range", aE), ("len", aE), ("_law_cell_at", aE)]) = true := Q.f
theorem abM : aZ ["script", "elders", "kinds", "starts", "k", "near"] ["script", "elders"] (az GQ) := bB
def Wv : Str := "qzvkjwgmxqz"
def Z9 : Str := "7z0kjwgm3xq"
def abC : Str := "abcdefghijklmnopqrstuvwxyz"
def ltC (k : Nat) : Str := ⟨#[abC.cps.toList.getD ((k : Int) % 26).toNat 0]⟩
def B3 (k : Int) : Str := toString k
def Oz (c : Int) : Int := 2 + c % 11
def atK (c : Int) : Int := c / 11 % (Oz c - 1)
def Mh (c : Int) (k : Nat) : Int := ((k : Int) / 26 + c / 121) % 10
def tM (c : Int) (k : Nat) : Str := Txt.slice Wv none (some (atK c)) ++ (ltC k ++ B3 (Mh c k)) ++ Txt.slice Z9 none (some (Oz c - atK c - 2))
def dB (c : Int) (n : Nat) : List Str := (List.range n).map (tM c)
theorem zG (c : Int) (n : Nat) : (dB c n).length = n := by unfold dB; rw [as4, atU]
theorem B4 (x y : Str) : (x ++ y).cps.toList = x.cps.toList ++ y.cps.toList := by
 show (x.cps ++ y.cps).toList = _
 rw [avc]
theorem ae1 : ∀ n : Nat, n < 12 -> (Txt.slice Wv none (some (n : Int))).cps.toList = Wv.cps.toList.take n := Q.f
theorem ae2 : ∀ n : Nat, n < 12 -> (Txt.slice Z9 none (some (n : Int))).cps.toList = Z9.cps.toList.take n := Q.f
theorem Ww : ∀ n : Nat, n < 10 -> (B3 (n : Int)).cps.toList = [48 + n] := Q.f
theorem PZ : ∀ n : Nat, n < 10 -> (B3 (n : Int)).length = 1 /\ (n : Int).natAbs.log2 < 1920 := Q.f
theorem ajs : ∀ n : Nat, n < 26 -> abC.cps.toList.getD n 0 = 97 + n := Q.f
theorem KY (c : Int) : 2 <= Oz c /\ Oz c <= 12 := by unfold Oz; omega
theorem Wx (c : Int) : 0 <= atK c /\ atK c <= Oz c - 2 := by
 have h := KY c
 have a := atw (c / 11) (b := Oz c - 1) Q.a
 have b := atp (c / 11) (b := Oz c - 1) Q.a
 unfold atK
 omega
theorem P0 (c : Int) (k : Nat) : 0 <= Mh c k /\ Mh c k < 10 := by unfold Mh; omega
theorem yb (c : Int) (k : Nat) : (tM c k).cps.toList = Wv.cps.toList.take (atK c).toNat ++ [97 + k % 26, 48 + (Mh c k).toNat] ++ Z9.cps.toList.take (Oz c - atK c - 2).toNat := by
 have h1 := KY c
 have h2 := Wx c
 have h3 := P0 c k
 have e1 := ae1 (atK c).toNat Q.a
 have e2 := ae2 (Oz c - atK c - 2).toNat Q.a
 have e3 := Ww (Mh c k).toNat Q.a
 rw [show (((atK c).toNat : Nat) : Int) = atK c by omega] at e1
 rw [show (((Oz c - atK c - 2).toNat : Nat) : Int) = Oz c - atK c - 2 by omega] at e2
 rw [show (((Mh c k).toNat : Nat) : Int) = Mh c k by omega] at e3
 have e4 : (ltC k).cps.toList = [97 + k % 26] := by
   show [abC.cps.toList.getD ((k : Int) % 26).toNat 0] = _
   rw [show ((k : Int) % 26).toNat = k % 26 by omega, ajs _ Q.a]
 unfold tM
 rw [B4, B4, B4, e1, e2, e3, e4]
 rfl
theorem Wy (x : Str) : x.length = x.cps.toList.length := rfl
theorem ae3 : Wv.cps.toList.length = 11 := Q.f
theorem ae4 : Z9.cps.toList.length = 11 := Q.f
theorem KZ (c : Int) (k : Nat) : ((tM c k).length : Int) = Oz c := by
 have h1 := KY c
 have h2 := Wx c
 rw [Wy, yb, ats, ats, at9, at9, ae3, ae4]
 show (((min _ _ + 2 + min _ _ : Nat)) : Int) = _
 omega
theorem abN : BK.all (fun w => w.cps.toList.all isLt) = true := Q.f
theorem P1 {x : Str} {l r : List Nat} {d : Nat} (h : x.cps.toList = l ++ d :: r) (hd : isLt d = false) : decide (x ∈ BK) = false := by
 refine atn fun hx => ?_
 have := atL.mp abN x hx
 rw [h, auZ, aun, hd] at this
 simp at this
theorem ae5 : Wv.cps.toList.all (fun c => isLt c || ur c) = true := Q.f
theorem ae6 : Z9.cps.toList.all (fun c => isLt c || ur c) = true := Q.f
theorem Iw {p : α -> Bool} {l : List α} (n : Nat) (h : l.all p = true) : (l.take n).all p = true := by
 rw [atL] at h ⊢
 exact fun x hx => h x (auN hx)
theorem abO (c : Int) (k : Nat) : dO (tM c k) = true := by
 have h1 := KY c
 have h2 := Wx c
 have h3 := P0 c k
 have hl := KZ c k
 have hc := yb c k
 have l1 : isLt (97 + k % 26) = true := by unfold isLt; rw [ata Q.a, ata Q.a]; rfl
 have l2 : ur (48 + (Mh c k).toNat) = true := by unfold ur; rw [ata Q.a, ata Q.a]; rfl
 have l3 : isLt (48 + (Mh c k).toNat) = false := by unfold isLt; rw [atn Q.a]; rfl
 unfold dO
 rw [ata (show 1 <= (tM c k).length by omega), ata (show (tM c k).length <= 12 by omega)]
 rw [P1 (l := Wv.cps.toList.take (atK c).toNat ++ [97 + k % 26]) (d := 48 + (Mh c k).toNat) (r := Z9.cps.toList.take (Oz c - atK c - 2).toNat) (by rw [hc]; simp) l3, hc]
 rw [auZ, auZ, Iw _ ae5, Iw _ ae6, aun, aun, l1, l2]
 have hf : isLt ((Wv.cps.toList.take (atK c).toNat ++ [97 + k % 26, 48 + (Mh c k).toNat] ++ Z9.cps.toList.take (Oz c - atK c - 2).toNat).getD 0 0) = true := by
   generalize (atK c).toNat = n
   cases n with
   | zero => exact l1
   | succ n =>
     have e : Wv.cps.toList = 113 :: Wv.cps.toList.tail := Q.f
     rw [e]
     rfl
 rw [hf, l3]
 rfl
theorem Sn (c : Int) (hk : k < 200) (hj : j < 200) (h : tM c k = tM c j) : k = j := by
 have h3 := P0 c k
 have h4 := P0 c j
 have e : (tM c k).cps.toList = (tM c j).cps.toList := by rw [h]
 rw [yb, yb, atc, atc] at e
 have e := List.append_cancel_left e
 simp only [atV, auA, List.cons.injEq] at e
 obtain ⟨e1, e2, _⟩ := e
 unfold Mh at e2 h3 h4
 omega
theorem Yu (c : Int) (h : n <= 200) : (dB c n).Nodup := by
 unfold dB
 refine avp.mpr (avk (fun {a b} ha hb hab e => ?_) List.pairwise_lt_range)
 have := Sn c (by have := atP.mp ha; omega) (by have := atP.mp hb; omega) e
 omega
theorem Sq {x : Str} (h : x ∈ dB c n) : x.length <= 12 /\ dO x = true := by
 obtain ⟨k, _, rfl⟩ := atj.mp h
 have := KZ c k
 have := KY c
 exact ⟨by omega, abO c k⟩
abbrev GU : Stmt := top 48
abbrev GV : Type := Int × Nat
def yc : GV -> List L3.D := fun (c, n) => [.int c, .int n]
def tN : GV -> Prop := fun (c, n) => 0 <= c /\ c < 1000000000 /\ n <= 100
def yd : GV -> T := fun (c, n) => (.lst (((dB c n).map .str).map T.sh) : T)
structure ae7 (X : Cx) (CL : Q.g) : Prop extends cT X where
 aH : Ln X 0 "cell"
 bq : Ln X 1 "many"
 Ss : Ln X 2 "size"
 eS : Ln X 3 "at"
 Wz : Ln X 4 "codes"
 dX : Ln X 5 "names"
 t6 : Ln X 6 "k"
 abP : Ln X 7 "code"
 cW : Gl X "range"
 aml : Gl X "str"
 cX : X.mg "range" = none
 P4 : X.mg "str" = none
theorem ae8 {b : Bx} (E : ae7 X CL) {cz : GV} (h : tN cz) :
   aN X CL b GU ["cell", "many", "size", "at", "codes", "names", "k", "code"] (yc cz) (yd cz) := by
 obtain ⟨c, n⟩ := cz
 dsimp only [aN, tN, yc, yd] at h ⊢
 obtain ⟨c0, c1, hn⟩ := h
 have h1 := KY c
 have h2 := Wx c
 refine bf E.g E.Ss (aK (bW Q.b (ai Q.P)) (t2 := .sh (.int (Oz c))) rfl) ?_
 refine bf E.g E.eS (aK (aQ (ai Q.G) (ai (dZ (aL E.Ss) Q.b)) Q.a) (t2 := .sh (.int (atK c))) rfl) ?_
 refine bf E.g E.Wz (aK bz (t2 := .sh (.str abC)) rfl) ?_
 refine bf E.g E.dX (cR cV (atx _)) ?_
 refine oA E.g E.t6 (fun j δ => ∃ o6 o7, δ = [some (.sh (.int c)), some (.sh (.int n)), some (.sh (.int (Oz c))), some (.sh (.int (atK c))), some (.sh (.str abC)), some (.lst (((dB c j).map .str).map T.sh)), o6, o7])
   (fk E.cX (aL E.bq) Q.a E.cW) ⟨_, _, rfl⟩ Q.at ?turn ?fin
 case turn =>
   rintro j d δ hj ⟨o6, o7, rfl⟩
   obtain ⟨rfl, FU⟩ := kR hj
   rw [aul]
   have hjn : j < n := by simpa using FU
   have h3 := P0 c j
   obtain ⟨sl, sg⟩ := PZ (Mh c j).toNat Q.a
   rw [show (((Mh c j).toNat : Nat) : Int) = Mh c j by omega] at sl sg
   have a26 : abC.cps.toList.length = 26 := Q.f
   have nl := zG c j
   have hz : Wv.length <= sizeLine /\ Z9.length <= sizeLine /\ abC.length <= sizeLine := by rw [aui]; decide +kernel
   have q1 := au4 Wv none (some (atK c))
   have q2 := au4 Z9 none (some (Oz c - atK c - 2))
   have la : Wv.length = 11 := Q.f
   have lb : Z9.length = 11 := Q.f
   have lc : (ltC j ++ B3 (Mh c j)).length = 2 := by rw [str_len, sl]; rfl
   refine bf E.g E.abP (aK (t9 (ai (aK (aaU (aL E.Wz) (ai (aQ (aL E.t6) Q.b Q.c)) hz.2.2 (aa1 0 (show (0 : Int) <= (j : Int) % 26 by omega) (by rw [a26]; omega))) (t2 := .sh (.str (ltC j))) rfl)) (ai (aK (Lz E.P4 E.aml (ai (aQ (ai (bW (ai (aR (aL E.t6) Q.b ⟨by decide, by decide⟩)) (ai Q.G))) Q.b Q.c)) sg) (t2 := .sh (.str (B3 (Mh c j)))) rfl)) (by rw [sl, aui]; show 1 + 1 <= _; decide)) (t2 := .sh (.str (ltC j ++ B3 (Mh c j)))) rfl) ?_
   refine y9 E.dX.1 rfl (aK (t9 (ai (t9 (ai (DZ (ai (aK bz (t2 := .sh (.str Wv)) rfl)) hz.1 oZ (pe (aL E.eS)))) (aL E.abP) (by rw [lc, aui]; omega))) (ai (DZ (ai (aK bz (t2 := .sh (.str Z9)) rfl)) hz.2.1 oZ (pe (ai (dZ (ai (dZ (aL E.Ss) (aL E.eS))) Q.b))))) (by rw [str_len, lc, aui]; omega)) (t2 := .sh (.str (tM c j))) rfl) rfl (by rw [as4, as4]; omega) (ak ?_)
   have e : ((dB c j).map L3.D.str).map T.sh ++ [T.sh (.str (tM c j))] = ((dB c (j + 1)).map L3.D.str).map T.sh := by unfold dB; simp [auK]
   rw [e]
   exact ⟨_, _, rfl⟩
 case fin =>
   rintro δ ⟨o6, o7, rfl⟩
   rw [show (cO 0 (n : Int).toNat).length = n by simp [cO]]
   exact bx (vM E.dX.1) rfl
theorem kU : pQ (az GU) ([("cell", aF), ("many", aF), ("size", aF), ("at", aF), ("codes", aF), ("names", aF), ("k", aF), ("code", aF), ("range", aE), ("str", aE)]) = true := Q.f
theorem abQ : aZ ["cell", "many", "size", "at", "codes", "names", "k", "code"] ["cell", "many"] (az GU) := bB
def abR (c : Int) : List Int := [0, c / 4 % (2 * 10 ^ (30 : Int).toNat - 1) - (10 ^ (30 : Int).toNat - 1), 10 ^ (30 : Int).toNat - 1, 1 - 10 ^ (30 : Int).toNat]
def uC (c : Int) : Int := (abR c).getD (c % 4).toNat 0
abbrev WB : Stmt := top 49
abbrev abS : Type := Int
def B5 : abS -> List L3.D := fun c => [.int c]
def B6 : abS -> Prop := fun c => True
def B7 : abS -> T := fun c => (.sh (.int (uC c)) : T)
structure amm (X : Cx) (CL : Q.g) : Prop extends cT X where
 aH : Ln X 0 "cell"
 Iz : Ln X 1 "some"
theorem amn {b : Bx} (E : amm X CL) {c} (h : B6 c) :
   aN X CL b WB ["cell", "some"] (B5 c) (B7 c) := by
 dsimp only [aN, B6, B5, B7] at h ⊢
 refine bf E.g E.Iz (aK (cR (bA aj (bA (dZ (ai (aQ (ai Q.G) (ai (dZ (ai (RM Q.b (ai Q.O) (.inl ⟨by decide, by decide⟩))) Q.b)) Q.c)) (ai (dZ (ai Q.O) Q.b))) (bA (dZ (ai Q.O) Q.b) (bA (dZ Q.b (ai Q.O)) cV)))) Q.i) (t2 := .lst (((abR c).map .int).map T.sh)) rfl) ?_
 exact bx (b7 (bu (vL E.Iz.1) (ai Q.P) (fH (bs := abR c) (k := c % 4) (show (0 : Int) <= c % 4 by omega) (by have e4 : (abR c).length = 4 := rfl; rw [e4]; omega))) rfl) rfl
theorem abT : pQ (az WB) ([("cell", aF), ("some", aF)]) = true := Q.f
theorem ajt : aZ ["cell", "some"] ["cell"] (az WB) := bB
abbrev Mi : Stmt := top 50
abbrev Mj : Type := Int × Nat
def wJ : Mj -> List L3.D := fun (c, n) => [.int c, .int n]
def wK : Mj -> Prop := fun (c, n) => n <= 1000
def wL : Mj -> T := fun (c, n) => (.sh (.tup [.int (c % ((n : Int) + 1) - 1), .int (uC (c / ((n : Int) + 1)))]) : T)
structure aju (X : Cx) (CL : Q.g) : Prop extends cT X where
 aH : Ln X 0 "cell"
 bq : Ln X 1 "many"
 Sv : Gl X "_law_far"
 abU : Fc X CL "_law_far" 1 1 B5 B6 B7
theorem ajv {b : Bx} (E : aju X CL) {cz : Mj} (h : wK cz) :
   aN X CL b Mi ["cell", "many"] (wJ cz) (wL cz) := by
 obtain ⟨c, n⟩ := cz
 dsimp only [aN, wK, wJ, wL] at h ⊢
 have h : n <= 1000 := h
 exact bx (bG (ay (dZ (ai (aQ (aL E.aH) (ai (bW (aL E.bq) Q.b)) Q.a)) Q.b) (ay (aK (c_ (c / ((n : Int) + 1)) E.abU E.Sv (ao (ai (aR (aL E.aH) (ai (bW (aL E.bq) Q.b)) (⟨by omega, by omega⟩))) aG) trivial rfl) (t2 := .sh (.int (uC (c / ((n : Int) + 1))))) rfl) bK)) Q.i) rfl
theorem Ml : pQ (az Mi) ([("cell", aF), ("many", aF), ("_law_far", aE)]) = true := Q.f
theorem ae9 : aZ ["cell", "many"] ["cell", "many"] (az Mi) := bB
def IA (c : Int) (n : Nat) (x : Str) : Ea := if c % 3 = 0 /\ 0 < n then .put (c / 3 % (n : Int)) (c / 3 / (n : Int) % ((n : Int) + 1) - 1) (uC (c / 3 / (n : Int) / ((n : Int) + 1))) else if c % 3 = 1 then .say x (c / 3 % ((n : Int) + 1) - 1) (uC (c / 3 / ((n : Int) + 1))) else .call x
abbrev Mm : Stmt := top 51
abbrev Mp : Type := Int × Nat × Str
def wM : Mp -> List L3.D := fun (c, n, x) => [.int c, .int n, .str x]
def wN : Mp -> Prop := fun (c, n, x) => n <= 1000
def wO : Mp -> T := fun (c, n, x) => (.sh (L7 (IA c n x)) : T)
structure ajw (X : Cx) (CL : Q.g) : Prop extends cT X where
 aH : Ln X 0 "cell"
 bq : Ln X 1 "many"
 jj : Ln X 2 "name"
 bM : Ln X 3 "way"
 pL : Gl X "_law_term"
 IB : Fc X CL "_law_term" 2 2 wJ wK wL
theorem ajx {b : Bx} (E : ajw X CL) {cz : Mp} (h : wN cz) :
   aN X CL b Mm ["cell", "many", "name", "way"] (wM cz) (wO cz) := by
 obtain ⟨c, n, x⟩ := cz
 dsimp only [aN, wN, wM, wO] at h ⊢
 have h : n <= 1000 := h
 show dY X CL b _ _ { nx := _, rt := fun LV _ => LV = T.sh (L7 (IA c n x)), bk := _, ct := _ }
 refine bf E.g E.bM Q.P ?_
 refine bf E.g E.aH Q.G ?_
 refine b5 (ua (sO (bI (aL E.bM) Q.b).1 (fun hb => (Bw (O2 (aL E.bq) Q.b).1)))) (fun hp => ?_) (fun hp => ak ?_)
 . rw [ato] at hp
   have p1 := as6 hp.1
   have p2 := as6 hp.2
   refine bx (bG (ay bz (ay (aQ (aL E.aH) (aL E.bq) Q.a) (ay (aK (c_ (c / 3 / (n : Int), n) E.IB E.pL (ao (ai (aR (aL E.aH) (aL E.bq) (⟨by omega, by omega⟩))) (ao (aL E.bq) aG)) h rfl) rfl) bK))) Q.i) ?_
   unfold IA
   rw [atb ⟨p1, by omega⟩]
   rfl
 . have hp2 : ¬ (c % 3 = 0 /\ 0 < n) := fun ⟨z1, z2⟩ => by
     rw [ata z1, ata (show (0 : Int) < (n : Int) by omega)] at hp
     exact absurd hp Q.c
   unfold IA
   rw [as5 hp2]
   refine b5 (bI (aL E.bM) Q.b).1 (fun hq => ?_) (fun hq => ak ?_)
   . rw [atb (as6 hq)]
     exact bx (bG (ay bz (ay (v_ E.jj.1) (ay (aK (c_ (c / 3, n) E.IB E.pL (ao (aL E.aH) (ao (aL E.bq) aG)) h rfl) rfl) bK))) Q.i) rfl
   . rw [as5 (atd hq)]
     exact bx (bG (ay bz (ay (v_ E.jj.1) bK)) Q.i) rfl
theorem B8 : pQ (az Mm) ([("cell", aF), ("many", aF), ("name", aF), ("way", aF), ("_law_term", aE)]) = true := Q.f
theorem afa : aZ ["cell", "many", "name", "way"] ["cell", "many", "name"] (az Mm) := bB
def rcK (s : Q.e) (y : Nat) (k : Nat) : Int := cB s (7 + (k : Int)) % 10 ^ (60 : Int).toNat / (y : Int)
def rdK (c : Int) (n : Nat) (x : Str) (j : Nat) : Ea := IA (c / (6 + (j : Int))) n x
def rwK (s : Q.e) (n : Nat) (nm : Q.h) (y k : Nat) : List Ea := (List.range (rcK s y k % 3).toNat).map (rdK (rcK s y k) n (nm.getD k Str.empty))
def iZ (s : Q.e) (n : Nat) (nm : Q.h) (y m : Nat) : List (List Ea) := (List.range m).map (rwK s n nm y)
def Ro (l : List Ea) : L3.D := .tup (l.map L7)
abbrev Mq : Stmt := top 55
abbrev Mr : Type := List Int × Nat × List Str × Nat
def B9 : Mr -> List L3.D := fun (s, n, nm, y) => [.lst (s.map .int), .int n, .lst (nm.map .str), .int y]
def tO : Mr -> Prop := fun (s, n, nm, y) => n <= 1000 /\ nm.length <= 500 /\ 1 <= y /\ y <= 10
def Ca : Mr -> T := fun (s, n, nm, y) => (.lst (((iZ s n nm y nm.length).map Ro).map T.sh) : T)
structure ajy (X : Cx) (CL : Q.g) : Prop extends cT X where
 bV : Ln X 0 "script"
 bq : Ln X 1 "many"
 ajz : X.env.kindOf "many" = some .cell
 dX : Ln X 2 "names"
 Ms : X.env.kindOf "names" = some .cell
 apt : Ln X 3 "by"
 IC : Ln X 4 "rows"
 t6 : Ln X 5 "k"
 k_k : X.env.kindOf "k" = some .cell
 aH : Ln X 6 "cell"
 ajA : X.env.kindOf "cell" = some .cell
 cW : Gl X "range"
 cJ : Gl X "len"
 bP : Gl X "_law_cell_at"
 rR : Gl X "tuple"
 cX : X.mg "range" = none
 cF : X.mg "len" = none
 dg : Fc X CL "_law_cell_at" 1 2 gj gk gu
 rS : X.mg "tuple" = none
 Sw : Fc X CL "_law_deed" 3 3 wM wN wO
theorem ajB {b : Bx} (E : ajy X CL) {cz : Mr} (h : tO cz) :
   aN X CL b Mq ["script", "many", "names", "by", "rows", "k", "cell"] (B9 cz) (Ca cz) := by
 obtain ⟨s, n, nm, y⟩ := cz
 dsimp only [aN, tO, B9, Ca] at h ⊢
 obtain ⟨h1, h2, h3, h4⟩ := h
 refine bf E.g E.IC (cR cV (atx _)) ?_
 refine oA E.g E.t6 (fun j δ => ∃ o5 o6, δ = [some (.sh (.lst (s.map .int))), some (.sh (.int n)), some (.sh (.lst (nm.map .str))), some (.sh (.int y)), some (.lst (((iZ s n nm y j).map Ro).map T.sh)), o5, o6])
   (fk E.cX (ai (cG (as4 ..) E.cF (aL E.dX) E.cJ)) Q.a E.cW) ⟨_, _, rfl⟩ Q.at ?turn ?fin
 case turn =>
   rintro j d δ hj ⟨o5, o6, rfl⟩
   obtain ⟨rfl, FU⟩ := kR hj
   rw [aul]
   have hjn : j < nm.length := by simpa using FU
   refine bf E.g E.aH (aK (aR (ai (aQ (ai (c_ ((s, 7 + (j : Int))) E.dg E.bP (ao (aL E.bV) (ao (ai (bW Q.b (aL E.t6))) aG)) (show (0 : Int) <= 7 + (j : Int) by omega) rfl)) (ai Q.O) Q.c)) (aL E.apt) (⟨by omega, by omega⟩)) (t2 := .sh (.int (rcK s y j))) rfl) ?_
   have er : iZ s n nm y (j + 1) = iZ s n nm y j ++ [rwK s n nm y j] := by simp [iZ, auK]
   have lr : (iZ s n nm y j).length = j := by unfold iZ; rw [as4, atU]
   show dY X CL b _ _ { nx := fun δ => ∃ o5 o6, δ = [_, _, _, _, some (.lst (((iZ s n nm y (j + 1)).map Ro).map T.sh)), o5, o6], rt := _, bk := _, ct := _ }
   rw [er]
   generalize iZ s n nm y j = rw at lr ⊢
   unfold rwK
   generalize rcK s y j = c
   have c0 := atw c (b := 3) Q.c
   have c1 := atp c (b := 3) Q.c
   have Yv : yW (nm.map L3.D.str) (j : Int) = some (.str (nm.getD j Str.empty)) := (fV Str.empty Q.a Q.a).trans (by rw [atH])
   have ddi : ∀ l : List Ea, D.cZ (l.map L7) = true := fun l => bS (fun q => by cases q <;> rfl) l
   refine y9 E.IC.1 rfl (tG E.rS (bJ (ds := ((List.range (c % 3).toNat).map (rdK c n (nm.getD j Str.empty))).map L7) (aK (rM (p := fun _ => true) (g := fun d => T.sh (L7 (rdK c n (nm.getD j Str.empty) d.FG.toNat))) (d7 (.cons E.aH.1 (.inl E.ajA) (.cons E.t6.1 (.inl E.k_k) (.cons E.bq.1 (.inl E.ajz) (.cons E.dX.1 (.inl E.Ms) .nil)))) Q.d) E.g.calm (fk E.cX (ai Q.P) ((show -(2 ^ 62) <= c % 3 /\ c % 3 < 2 ^ 62 by omega)) E.cW) (.inr rfl) (fun C s0 H0 f0 b' d hd => ?Ys) (aub (cS (by simp [cO]; omega)))) ?ceq)) (ddi _) E.rR) rfl (by rw [as4, as4]; omega) (ak ?_)
   case Ys =>
     obtain ⟨i, hi, rfl⟩ := atj.mp hd
     have hi2 : i < (c % 3).toNat := atP.mp hi
     have hi3 : i < 3 := by omega
     refine ⟨rfl, fun _ => aK (c_ (c / (6 + (0 + (i : Int))), n, nm.getD j Str.empty) (By E.Sw) (qd Q.d) (ao (ai (aR Q.aE (ai (bW Q.b Q.af)) (⟨by omega, by omega⟩))) (ao (ai (v_ (oG (i := 3) rfl Q.d))) (ao (bu (ai (v_ (oG (i := 4) rfl Q.d))) (ai (v_ (oG (i := 2) rfl Q.d))) (Yv)) aG))) h1 (by show D.qc _ = true; generalize IA _ _ _ = q; cases q <;> rfl)) ?_⟩
     show T.sh _ = T.sh (L7 (rdK c n (nm.getD j Str.empty) (0 + (i : Int)).toNat))
     unfold rdK
     rw [show (((0 + (i : Int)).toNat : Nat) : Int) = 0 + (i : Int) by omega]
   case ceq =>
     rw [mz]
     unfold cO
     rw [atF, atF, atF]
     congr 1
     refine auk fun k _ => ?_
     show T.sh (L7 (rdK c n _ (0 + (k : Int)).toNat)) = _
     rw [show (0 + (k : Int)).toNat = k by omega]
     rfl
   have e : (rw.map Ro).map T.sh ++ [T.sh (.tup (((List.range (c % 3).toNat).map (rdK c n (nm.getD j Str.empty))).map L7))] = ((rw ++ [(List.range (c % 3).toNat).map (rdK c n (nm.getD j Str.empty))]).map Ro).map T.sh := by
     rw [auJ, auJ]
     rfl
   rw [e]
   exact ⟨_, _, rfl⟩
 case fin =>
   rintro δ ⟨o5, o6, rfl⟩
   rw [show (cO 0 (nm.length : Int).toNat).length = nm.length by simp [cO]]
   exact bx (vM E.IC.1) rfl
theorem iG : pQ (az Mq) ([("script", aF), ("many", .cell), ("names", .cell), ("by", aF), ("rows", aF), ("k", .cell), ("cell", .cell), ("range", aE), ("len", aE), ("_law_cell_at", aE), ("tuple", aE)]) = true := Q.f
theorem afb : aZ ["script", "many", "names", "by", "rows", "k", "cell"] ["script", "many", "names", "by"] (az Mq) := bB
def P5 (c : Int) (n m : Nat) : ZW :=
 if c % 6 < 2 then .R9 ((["open", "shut"] : List Str).getD (c % 6).toNat Str.empty) (c / 6 % (m : Int))
 else .num ((["<", "<=", "=", "!="] : List Str).getD (c % 6 - 2).toNat Str.empty) (c / 6 % 10 ^ (33 : Int).toNat % ((n : Int) + 1) - 1) (uC (c / 6 % 10 ^ (33 : Int).toNat / ((n : Int) + 1))) (c / 6 / 10 ^ (33 : Int).toNat % ((n : Int) + 1) - 1) (uC (c / 6 / 10 ^ (33 : Int).toNat / ((n : Int) + 1)))
abbrev WC : Stmt := top 52
abbrev WD : Type := Int × Nat × Nat
def GX : WD -> List L3.D := fun (c, n, m) => [.int c, .int n, .int m]
def Cb : WD -> Prop := fun (c, n, m) => n <= 1000 /\ 1 <= m /\ m <= 1000
def GY : WD -> T := fun (c, n, m) => (.sh (xX (P5 c n m)) : T)
structure amo (X : Cx) (CL : Q.g) : Prop extends cT X where
 aH : Ln X 0 "cell"
 bq : Ln X 1 "many"
 eV : Ln X 2 "moods"
 bM : Ln X 3 "way"
 ahd : Ln X 4 "one"
 pL : Gl X "_law_term"
 IB : Fc X CL "_law_term" 2 2 wJ wK wL
theorem amq {b : Bx} (E : amo X CL) {cz : WD} (h : Cb cz) :
   aN X CL b WC ["cell", "many", "moods", "way", "one"] (GX cz) (GY cz) := by
 obtain ⟨c, n, m⟩ := cz
 dsimp only [aN, Cb, GX, GY] at h ⊢
 obtain ⟨h1, h2, h3⟩ := h
 show dY X CL b _ _ { nx := _, rt := fun LV _ => LV = T.sh (xX (P5 c n m)), bk := _, ct := _ }
 refine bf E.g E.bM Q.P ?_
 refine bf E.g E.aH Q.G ?_
 unfold P5
 refine b5 (Hw (aL E.bM) Q.b).1 (fun hp => ?_) (fun hp => ak ?_)
 . have hp := as6 hp
   rw [atb hp]
   exact bx (bG (ay (b7 (bu (bJ (ds := (["open", "shut"] : List Str).map .str) (cR (iD rfl) Q.i)) (aL E.bM) (fV (f := L3.D.str) (l := ["open", "shut"]) Str.empty (show (0 : Int) <= c % 6 by omega) hp)) rfl) (ay (aQ (aL E.aH) (aL E.eV) Q.a) bK)) Q.i) rfl
 . have hp := atd hp
   rw [as5 hp]
   refine bf E.g E.ahd (aK (c_ (c / 6 % 10 ^ (33 : Int).toNat, n) E.IB E.pL (ao (ai (aQ (aL E.aH) (ai Q.O) Q.c)) (ao (aL E.bq) aG)) h1 rfl) rfl) ?_
   exact bx (bG (ay (b7 (bu (bJ (ds := (["<", "<=", "=", "!="] : List Str).map .str) (cR (iD rfl) Q.i)) (ai (dZ (aL E.bM) Q.b)) (fV (f := L3.D.str) (l := ["<", "<=", "=", "!="]) Str.empty (show (0 : Int) <= c % 6 - 2 by omega) (show c % 6 - 2 < ((4 : Nat) : Int) by omega))) rfl) (ay (v_ E.ahd.1) (ay (aK (c_ (c / 6 / 10 ^ (33 : Int).toNat, n) E.IB E.pL (ao (ai (abi (aL E.aH) (ai Q.O) Q.d)) (ao (aL E.bq) aG)) h1 rfl) rfl) bK))) Q.i) rfl
theorem Ef : pQ (az WC) ([("cell", aF), ("many", aF), ("moods", aF), ("way", aF), ("one", aF), ("_law_term", aE)]) = true := Q.f
theorem ajD : aZ ["cell", "many", "moods", "way", "one"] ["cell", "many", "moods"] (az WC) := bB
def P6 (s : Q.e) (i : Int) : Int := cB s i % 10 ^ (60 : Int).toNat
def P7 (s : Q.e) (i : Int) (n m k : Nat) : ZW := P5 (cB s (i + 1 + (k : Int)) % 10 ^ (64 : Int).toNat) n m
def Sx (s : Q.e) (i : Int) (n : Nat) (x : Str) (k : Nat) : Ea := IA (cB s (i + 2 + (k : Int)) % 10 ^ (60 : Int).toNat) n x
def Mt (c : Int) (m : Nat) : Int := c / 9 % ((m : Int) + 1) - 1
def Kf (c : Int) (m : Nat) : Str := if Mt c m = -1 then "new" else (["new", "near", "far"] : List Str).getD (c / 9 / ((m : Int) + 1) % 3).toNat Str.empty
def Sy (s : Q.e) (i src : Int) (n m : Nat) (x : Str) : PJ := ⟨src, x, (List.range (P6 s i % 3).toNat).map (P7 s i n m), (List.range (P6 s i / 3 % 3).toNat).map (Sx s i n x), Mt (P6 s i) m, Kf (P6 s i) m⟩
abbrev WG : Stmt := top 53
abbrev WH : Type := List Int × Int × Int × Nat × Nat × Str
def GZ : WH -> List L3.D := fun (s, i, src, n, m, x) => [.lst (s.map .int), .int i, .int src, .int n, .int m, .str x]
def Cd : WH -> Prop := fun (s, i, src, n, m, x) => 0 <= i /\ n <= 1000 /\ 1 <= m /\ m <= 1000
def G0 : WH -> T := fun (s, i, src, n, m, x) => (.sh (Yi (Sy s i src n m x)) : T)
structure amr (X : Cx) (CL : Q.g) : Prop extends cT X where
 bV : Ln X 0 "script"
 eS : Ln X 1 "at"
 wQ : Ln X 2 "source"
 bq : Ln X 3 "many"
 eV : Ln X 4 "moods"
 jj : Ln X 5 "name"
 aH : Ln X 6 "cell"
 Sz : Ln X 7 "asks"
 t6 : Ln X 8 "k"
 ye : Ln X 9 "deeds"
 qV : Ln X 10 "target"
 zH : Ln X 11 "mode"
 bP : Gl X "_law_cell_at"
 cW : Gl X "range"
 SD : Gl X "_law_ask"
 P8 : Gl X "_law_deed"
 rR : Gl X "tuple"
 dg : Fc X CL "_law_cell_at" 1 2 gj gk gu
 cX : X.mg "range" = none
 ams : Fc X CL "_law_ask" 3 3 GX Cb GY
 Sw : Fc X CL "_law_deed" 3 3 wM wN wO
 rS : X.mg "tuple" = none
theorem amt {b : Bx} (E : amr X CL) {cz : WH} (h : Cd cz) :
   aN X CL b WG ["script", "at", "source", "many", "moods", "name", "cell", "asks", "k", "deeds", "target", "mode"] (GZ cz) (G0 cz) := by
 obtain ⟨s, i, src, n, m, x⟩ := cz
 dsimp only [aN, Cd, GZ, G0] at h ⊢
 obtain ⟨h0, h1, h2, h3⟩ := h
 show dY X CL b _ _ { nx := _, rt := fun LV _ => LV = T.sh (Yi (Sy s i src n m x)), bk := _, ct := _ }
 refine bf E.g E.aH (aK (aQ (ai (c_ ((s, i)) E.dg E.bP (ao (aL E.bV) (ao (aL E.eS) aG)) (h0) rfl)) (ai Q.O) Q.c) (t2 := .sh (.int (P6 s i))) rfl) ?_
 unfold Sy
 generalize P6 s i = c
 refine bf E.g E.Sz (cR cV (atx _)) ?_
 have c0 : 0 <= c % 3 /\ c % 3 < 3 := by omega
 have d0 : 0 <= c / 3 % 3 /\ c / 3 % 3 < 3 := by omega
 refine oA E.g E.t6 (fun j δ => ∃ o8 o9 o10 o11, δ = [some (.sh (.lst (s.map .int))), some (.sh (.int i)), some (.sh (.int src)), some (.sh (.int n)), some (.sh (.int m)), some (.sh (.str x)), some (.sh (.int c)), some (.lst ((((List.range j).map (P7 s i n m)).map xX).map T.sh)), o8, o9, o10, o11])
   (fk E.cX (ai Q.P) ((show -(2 ^ 62) <= c % 3 /\ c % 3 < 2 ^ 62 by omega)) E.cW) ⟨_, _, _, _, rfl⟩ (fun j δ ⟨_, _, _, _, e⟩ => by subst e; exact atf rfl) ?turn ?fin
 case turn =>
   rintro j d δ hj ⟨o8, o9, o10, o11, rfl⟩
   obtain ⟨rfl, FU⟩ := kR hj
   have hj3 : j < 3 := by have FU : j < (c % 3).toNat := FU; omega
   rw [aul]
   refine y9 E.Sz.1 rfl (aK (c_ (cB s (i + 1 + (j : Int)) % 10 ^ (64 : Int).toNat, n, m) E.ams E.SD (ao (ai (aQ (ai (c_ ((s, i + 1 + (j : Int))) E.dg E.bP (ao (aL E.bV) (ao (ai (bW (ai (bW (aL E.eS) Q.b)) (aL E.t6))) aG)) ((show (0 : Int) <= i + 1 + (j : Int) by omega)) rfl)) (ai Q.O) Q.c)) (ao (aL E.bq) (ao (aL E.eV) aG))) (by dsimp only [Cb]; exact ⟨h1, h2, h3⟩) (by show D.qc _ = true; generalize P5 _ _ _ = q; cases q <;> rfl)) (t2 := .sh (xX (P7 s i n m j))) rfl) rfl Q.Z (ak ?_)
   have e : (((List.range j).map (P7 s i n m)).map xX).map T.sh ++ [T.sh (xX (P7 s i n m j))] = (((List.range (j + 1)).map (P7 s i n m)).map xX).map T.sh := by simp [auK]
   rw [e]
   exact ⟨_, _, _, _, rfl⟩
 case fin =>
 rintro δ ⟨o8, o9, o10, o11, rfl⟩
 rw [show (cO 0 (c % 3).toNat).length = (c % 3).toNat by simp [cO]]
 refine bf E.g E.ye (cR cV (atx _)) ?_
 refine oA E.g E.t6 (fun j δ => ∃ o8 o10 o11, δ = [some (.sh (.lst (s.map .int))), some (.sh (.int i)), some (.sh (.int src)), some (.sh (.int n)), some (.sh (.int m)), some (.sh (.str x)), some (.sh (.int c)), some (.lst ((((List.range (c % 3).toNat).map (P7 s i n m)).map xX).map T.sh)), o8, some (.lst ((((List.range j).map (Sx s i n x)).map L7).map T.sh)), o10, o11])
   (fk E.cX Q.U ((show -(2 ^ 62) <= c / 3 % 3 /\ c / 3 % 3 < 2 ^ 62 by omega)) E.cW) ⟨_, _, _, rfl⟩ Q.aX ?P9 ?fin2
 case P9 =>
   rintro j d δ hj ⟨o8, o10, o11, rfl⟩
   obtain ⟨rfl, FU⟩ := kR hj
   have hj3 : j < 3 := by have FU : j < (c / 3 % 3).toNat := FU; omega
   rw [aul]
   refine y9 E.ye.1 rfl (aK (c_ (cB s (i + 2 + (j : Int)) % 10 ^ (60 : Int).toNat, n, x) E.Sw E.P8 (ao (ai (aQ (ai (c_ ((s, i + 2 + (j : Int))) E.dg E.bP (ao (aL E.bV) (ao (ai (bW (ai (bW (aL E.eS) Q.b)) (aL E.t6))) aG)) ((show (0 : Int) <= i + 2 + (j : Int) by omega)) rfl)) (ai Q.O) Q.c)) (ao (aL E.bq) (ao (aL E.jj) aG))) h1 (by show D.qc _ = true; generalize IA _ _ _ = q; cases q <;> rfl)) (t2 := .sh (L7 (Sx s i n x j))) rfl) rfl Q.Z (ak ?_)
   have e : (((List.range j).map (Sx s i n x)).map L7).map T.sh ++ [T.sh (L7 (Sx s i n x j))] = (((List.range (j + 1)).map (Sx s i n x)).map L7).map T.sh := by simp [auK]
   rw [e]
   exact ⟨_, _, _, rfl⟩
 case fin2 =>
 rintro δ ⟨o8, o10, o11, rfl⟩
 rw [show (cO 0 (c / 3 % 3).toNat).length = (c / 3 % 3).toNat by simp [cO]]
 refine bf E.g E.qV (aK (dZ (ai (aQ (ai Q.G) (ai (bW (aL E.eV) Q.b)) Q.a)) Q.b) (t2 := .sh (.int (Mt c m))) rfl) ?_
 have m0 := atw (c / 9 / ((m : Int) + 1)) (b := 3) Q.c
 have m1 := atp (c / 9 / ((m : Int) + 1)) (b := 3) Q.c
 refine bf E.g E.zH (b7 (bu (bJ (ds := (["new", "near", "far"] : List Str).map .str) (cR (iD rfl) Q.i)) (ai (aQ (ai (aR (ai Q.G) (ai (bW (aL E.eV) Q.b)) (⟨by omega, by omega⟩))) Q.b Q.c)) (fV (f := L3.D.str) (l := ["new", "near", "far"]) Str.empty m0 m1)) rfl) ?_
 refine Hy (fun δ => δ = [some (.sh (.lst (s.map .int))), some (.sh (.int i)), some (.sh (.int src)), some (.sh (.int n)), some (.sh (.int m)), some (.sh (.str x)), some (.sh (.int c)), some (.lst ((((List.range (c % 3).toNat).map (P7 s i n m)).map xX).map T.sh)), o8, some (.lst ((((List.range (c / 3 % 3).toNat).map (Sx s i n x)).map L7).map T.sh)), some (.sh (.int (Mt c m))), some (.sh (.str (Kf c m)))]) (bI (aL E.qV) (ai Q.A)).1 (fun hp => ?_) (fun hp => ?_) ?_
 . refine bf E.g E.zH bz (ak ?_)
   rw [show Kf c m = "new" by unfold Kf; rw [atb (as6 hp)]]
   rfl
 . refine ak ?_
   rw [show Kf c m = (["new", "near", "far"] : List Str).getD (c / 9 / ((m : Int) + 1) % 3).toNat Str.empty by unfold Kf; rw [as5 (atd hp)]]
   rfl
 rintro δ rfl
 exact bx (bG (ay (v_ E.wQ.1) (ay (v_ E.jj.1) (ay (tG E.rS (vL E.Sz.1) (bS (fun q => by cases q <;> rfl) _) E.rR) (ay (tG E.rS (vL E.ye.1) (bS (fun q => by cases q <;> rfl) _) E.rR) (ay (v_ E.qV.1) (ay (v_ E.zH.1) bK)))))) Q.i) rfl
theorem jM : pQ (az WG) ([("script", aF), ("at", aF), ("source", aF), ("many", aF), ("moods", aF), ("name", aF), ("cell", aF), ("asks", aF), ("k", aF), ("deeds", aF), ("target", aF), ("mode", aF), ("_law_cell_at", aE), ("range", aE), ("_law_ask", aE), ("_law_deed", aE), ("tuple", aE)]) = true := Q.f
theorem ajG : aZ ["script", "at", "source", "many", "moods", "name", "cell", "asks", "k", "deeds", "target", "mode"] ["script", "at", "source", "many", "moods", "name"] (az WG) := bB
def DL (s : Q.e) : Int := cB s 0 % 10 ^ (9 : Int).toNat
def mdI (c : Int) : Int := if c / 12 % 4 = 1 then 1 + c / 48 % 45 else 1 + c % 12
def kJ (c : Int) : Nat := (mdI c).toNat
theorem abW (c : Int) : (kJ c : Int) = mdI c /\ 1 <= kJ c /\ kJ c <= 45 := by
 unfold kJ
 have : 1 <= mdI c /\ mdI c <= 45 := by unfold mdI; split <;> omega
 omega
def G3 (c : Int) : Nat := (c / 3 % 5).toNat
theorem WK (c : Int) : (G3 c : Int) = c / 3 % 5 /\ G3 c <= 4 := by unfold G3; omega
def SG : Str := "qzvkjw"
def ahK (c : Int) : Str := Txt.slice SG none (some (c / 7 % 7))
def bxK (s : Q.e) (c : Int) (k : Nat) : Str × Int := ((ahK c ++ ("b" : Str)) ++ B3 (k : Int), uC (cB s (2 + (k : Int))))
def Kg (s : Q.e) (c : Int) : List (Str × Int) := (List.range (G3 c)).map (bxK s c)
def srK (s : Q.e) (m : Nat) (k : Nat) : Int := cB s (20 + 4 * (k : Int)) / 7 % (m : Int)
def sS (s : Q.e) (c : Int) (m : Nat) : List Int := sortI ((List.range (c / 15 % 7).toNat).map (srK s m))
def wyK (s : Q.e) (ns : Q.h) (sr : Q.e) (n m k : Nat) : PJ := Sy s (21 + 4 * (k : Int)) (sr.getD k 0) n m (ns.getD (sr.getD k 0).toNat Str.empty)
def zI (s : Q.e) (ns : Q.h) (sr : Q.e) (n m j : Nat) : List PJ := (List.range j).map (wyK s ns sr n m)
theorem abY (c : Int) : Rm (uC c) = true := by
 have p : (10 : Int) ^ (30 : Int).toNat = 1000000000000000000000000000000 := Q.f
 have h : -(10 ^ (30 : Int).toNat) < uC c /\ uC c < 10 ^ (30 : Int).toNat := by
   unfold uC abR
   rw [p]
   have : c % 4 = 0 \/ c % 4 = 1 \/ c % 4 = 2 \/ c % 4 = 3 := by omega
   rcases this with e | e | e | e <;> rw [e]
   . show _ < (0 : Int) /\ (0 : Int) < _; omega
   . show _ < (c / 4 % _ - _ : Int) /\ (c / 4 % _ - _ : Int) < _; omega
   . show _ < (_ - 1 : Int) /\ (_ - 1 : Int) < _; omega
   . show _ < (1 - _ : Int) /\ (1 - _ : Int) < _; omega
 unfold Rm
 rw [ata h.1, ata h.2]
 rfl
theorem WL (c : Int) (h : 0 < n) : rP (c % (n : Int)) n = true := by
 unfold rP
 rw [ata (atw _ Q.a), ata (atp _ Q.a)]
 rfl
theorem G4 (c d : Int) (n : Nat) : D9 n (c % ((n : Int) + 1) - 1) (uC d) = true := by
 have a := atw c (b := (n : Int) + 1) Q.a
 have b := atp c (b := (n : Int) + 1) Q.a
 unfold D9
 rw [abY]
 by_cases e : c % ((n : Int) + 1) - 1 = -1
 . rw [ata e]; rfl
 . unfold rP
   rw [ata (show 0 <= c % ((n : Int) + 1) - 1 by omega), ata (show c % ((n : Int) + 1) - 1 < (n : Int) by omega)]
   simp
theorem WM (c : Int) (n : Nat) {x : Str} (h : x.length <= 12 /\ dO x = true) : ddL (IA c n x) /\ ddI n (IA c n x) = true := by
 unfold IA
 split
 . rename_i e
   refine ⟨trivial, ?_⟩
   show (rP _ n && D9 n _ _) = true
   rw [WL _ e.2, G4]
   rfl
 . split
   . refine ⟨show x.length <= 1000 by omega, ?_⟩
     show (dO x && D9 n _ _) = true
     rw [h.2, G4]
     rfl
   . exact ⟨show x.length <= 1000 by omega, h.2⟩
theorem afc (c : Int) (n : Nat) {m : Nat} (h : 1 <= m) : Sb (P5 c n m) /\ ZX m n (P5 c n m) = true := by
 unfold P5
 split
 . rename_i e
   refine ⟨?_, WL _ Q.a⟩
   have : c % 6 = 0 \/ c % 6 = 1 := by omega
   show (["open", "shut"] : List Str).getD (c % 6).toNat Str.empty ∈ (["open", "shut"] : List Str)
   rcases this with e | e <;> rw [e] <;> decide +kernel
 . rename_i e
   have : c % 6 = 2 \/ c % 6 = 3 \/ c % 6 = 4 \/ c % 6 = 5 := by omega
   have hm : (["<", "<=", "=", "!="] : List Str).getD (c % 6 - 2).toNat Str.empty ∈ (["<", "<=", "=", "!="] : List Str) /\ ¬ (["<", "<=", "=", "!="] : List Str).getD (c % 6 - 2).toNat Str.empty ∈ (["open", "shut"] : List Str) := by
     rcases this with e | e | e | e <;> rw [e] <;> decide +kernel
   refine ⟨hm.2, ?_⟩
   show (decide (_ ∈ _) && (D9 n _ _ && D9 n _ _)) = true
   rw [ata hm.1, G4, G4]
   rfl
theorem afd (s : Q.e) (i src : Int) (n : Nat) {m : Nat} {x : Str} (h : 1 <= m) (hs : rP src m = true) (hx : x.length <= 12 /\ dO x = true) : (Sy s i src n m x).Ok m n /\ ∀ q ∈ (Sy s i src n m x).dl, ddL q /\ ddI n q = true := by
 refine ⟨⟨hs, ⟨show x.length <= 1000 by omega, hx.2⟩, ?_, ?_, fun q hq => ?_⟩, fun q hq => ?_⟩
 . show Kf (P6 s i) m ∈ _
   unfold Kf
   have : P6 s i / 9 / ((m : Int) + 1) % 3 = 0 \/ P6 s i / 9 / ((m : Int) + 1) % 3 = 1 \/ P6 s i / 9 / ((m : Int) + 1) % 3 = 2 := by omega
   split
   . decide +kernel
   . rcases this with e | e | e <;> rw [e] <;> decide +kernel
 . show (Mt (P6 s i) m = -1 /\ Kf (P6 s i) m = "new") \/ (Mt (P6 s i) m ≠ -1 /\ rP (Mt (P6 s i) m) m = true)
   by_cases e : Mt (P6 s i) m = -1
   . refine .inl ⟨e, ?_⟩
     unfold Kf
     rw [atb e]
   . refine .inr ⟨e, ?_⟩
     unfold Mt at e ⊢
     have a := atw (P6 s i / 9) (b := (m : Int) + 1) Q.a
     have b := atp (P6 s i / 9) (b := (m : Int) + 1) Q.a
     unfold rP
     rw [ata Q.a, ata Q.a]
     rfl
 . obtain ⟨k, _, rfl⟩ := atj.mp hq
   exact afc _ n h
 . obtain ⟨k, _, rfl⟩ := atj.mp hq
   exact WM _ n hx
theorem afe : ∀ n : Nat, n < 7 -> (Txt.slice SG none (some (n : Int))).cps.toList = SG.cps.toList.take n := Q.f
theorem afg (c : Int) : (ahK c).cps.toList = SG.cps.toList.take (c / 7 % 7).toNat := by
 have e := afe (c / 7 % 7).toNat Q.a
 rw [show (((c / 7 % 7).toNat : Nat) : Int) = c / 7 % 7 by omega] at e
 exact e
theorem Mu (s : Q.e) (c : Int) (h : k < 10) : (bxK s c k).1.cps.toList = SG.cps.toList.take (c / 7 % 7).toNat ++ [98] ++ [48 + k] := by
 show ((ahK c ++ ("b" : Str)) ++ B3 (k : Int)).cps.toList = _
 rw [B4, B4, afg, Ww k h]
 rfl
theorem afh : SG.cps.toList.all (fun c => isLt c || ur c) = true := Q.f
theorem ajJ (s : Q.e) (c : Int) (h : k < 10) : (bxK s c k).1.length <= 12 /\ dO (bxK s c k).1 = true := by
 have hc := Mu s c h
 have hl : 2 <= (bxK s c k).1.length /\ (bxK s c k).1.length <= 9 := by
   rw [Wy, hc, ats, ats, at9, show SG.cps.toList.length = 6 by decide +kernel]
   show 2 <= min _ 6 + 1 + 1 /\ min _ 6 + 1 + 1 <= 9
   omega
 have l2 : ur (48 + k) = true := by unfold ur; rw [ata Q.a, ata Q.a]; rfl
 have l3 : isLt (48 + k) = false := by unfold isLt; rw [atn Q.a]; rfl
 refine ⟨by omega, ?_⟩
 unfold dO
 rw [ata (show 1 <= (bxK s c k).1.length by omega), ata (show (bxK s c k).1.length <= 12 by omega)]
 rw [P1 (l := SG.cps.toList.take (c / 7 % 7).toNat ++ [98]) (d := 48 + k) (r := []) hc l3, hc]
 rw [auZ, auZ, Iw _ afh, aun, aun, l2, l3]
 have hf : isLt ((SG.cps.toList.take (c / 7 % 7).toNat ++ [98] ++ [48 + k]).getD 0 0) = true := by
   generalize (c / 7 % 7).toNat = n
   cases n with
   | zero => rfl
   | succ n =>
     have e : SG.cps.toList = 113 :: SG.cps.toList.tail := Q.f
     rw [e]
     rfl
 rw [hf]
 rfl
theorem afi (s : Q.e) (c : Int) : ((Kg s c).map (·.1)).Nodup := by
 have hm := WK c
 unfold Kg
 rw [atF]
 refine avp.mpr (avk (fun {a b} ha hb hab e => ?_) List.pairwise_lt_range)
 have ha := atP.mp ha
 have hb := atP.mp hb
 have e : (bxK s c a).1.cps.toList = (bxK s c b).1.cps.toList := congrArg (fun x : Str => x.cps.toList) e
 rw [Mu s c Q.a, Mu s c Q.a] at e
 have e := List.append_cancel_left e
 simp at e
 omega
structure Drawn (bs : Q.D) (nm ks : Q.h) (es ss : Q.e) (is os : List (List Ea)) (ws : List PJ) : Prop where
 tr : abw ks es ss /\ nm.length = es.length /\ es.length <= 400
 Z7 : (∀ x ∈ nm, x.length <= 12 /\ dO x = true) /\ nm.Nodup
 Yn : (∀ q ∈ bs, (q.1.length <= 12 /\ dO q.1 = true) /\ Rm q.2 = true) /\ (bs.map (·.1)).Nodup /\ bs.length <= 1000
 Wq : is.length = nm.length /\ os.length = nm.length /\ ws.length <= 100 /\ (∀ l ∈ is ++ os ++ ws.map (·.dl), ∀ q ∈ l, ddL q /\ ddI bs.length q = true)
 wys : ∀ w ∈ ws, w.Ok nm.length bs.length
 srt : ws.Pairwise (fun a c => a.src <= c.src)
theorem WN {nm : Q.h} {y m : Nat} (hn : ∀ x ∈ nm, x.length <= 12 /\ dO x = true) (hm : m <= nm.length) {l : List Ea} (hl : l ∈ iZ s n nm y m) : ∀ q ∈ l, ddL q /\ ddI n q = true := by
 obtain ⟨k, hk, rfl⟩ := atj.mp hl
 have hk := atP.mp hk
 intro q hq
 obtain ⟨j, _, rfl⟩ := atj.mp hq
 refine WM _ n (hn _ ?_)
 rw [atg, atm Q.a]
 exact auw _
theorem abZ (s : Q.e) (c d : Int) : Drawn (Kg s c) (dB d (kJ c)) (wH s (yR s (kJ c - 1)) (kJ c)) (yR s (kJ c - 1)) (wI s (yR s (kJ c - 1)) (kJ c)) (iZ s (G3 c) (dB d (kJ c)) 1 (kJ c)) (iZ s (G3 c) (dB d (kJ c)) 3 (kJ c)) (zI s (dB d (kJ c)) (sS s c (kJ c)) (G3 c) (kJ c) (sS s c (kJ c)).length) := by
 obtain ⟨_, m1, m2⟩ := abW c
 obtain ⟨_, n2⟩ := WK c
 have hbl : (Kg s c).length = G3 c := by unfold Kg; rw [as4, atU]
 obtain ⟨e1, e2, e3⟩ := Ir s (kJ c - 1)
 generalize kJ c = m at m1 m2 e1 e2 e3 ⊢
 have e1 : (yR s (m - 1)).length = m := by omega
 generalize yR s (m - 1) = es at e1 e2 e3 ⊢
 subst e1
 have hnl := zG d es.length
 have Yv : ∀ x ∈ dB d es.length, x.length <= 12 /\ dO x = true := fun x hx => Sq hx
 have hnd := Yu d (n := es.length) Q.a
 generalize dB d es.length = nm at hnl Yv hnd ⊢
 have hsr : ∀ x ∈ sS s c es.length, 0 <= x /\ x < es.length := fun x hx => by
   obtain ⟨k, _, rfl⟩ := atj.mp (KC.mp hx)
   exact ⟨atw _ Q.a, atp _ Q.a⟩
 have hsl : (sS s c es.length).length <= 6 := by
   unfold sS
   rw [xU, as4, atU]
   omega
 have hss : (sS s c es.length).Pairwise (· <= ·) := um _
 generalize sS s c es.length = sr at hsr hsl hss ⊢
 have hat : ∀ k, k < sr.length -> 0 <= sr.getD k 0 /\ sr.getD k 0 < es.length := fun k hk => by
   rw [atg, atm hk]
   exact hsr _ (auw _)
 have hwy : ∀ w ∈ zI s nm sr (G3 c) es.length sr.length, w.Ok es.length (G3 c) /\ ∀ q ∈ w.dl, ddL q /\ ddI (G3 c) q = true := fun w hw => by
   obtain ⟨k, hk, rfl⟩ := atj.mp hw
   have hk := atP.mp hk
   obtain ⟨a0, a1⟩ := hat k hk
   refine afd _ _ _ _ m1 ?_ (Yv _ ?_)
   . unfold rP
     rw [ata a0, ata a1]
     rfl
   . rw [atg, atm Q.a]
     exact auw _
 refine ⟨⟨abw.drawn e2 m1 Q.a e3, hnl, by omega⟩, ⟨Yv, hnd⟩, ⟨fun q hq => ?_, afi s c, by omega⟩, ⟨?_, ?_, ?_, fun l hl => ?_⟩, fun w hw => ?_, ?_⟩
 . obtain ⟨k, hk, rfl⟩ := atj.mp hq
   have hk := atP.mp hk
   exact ⟨ajJ s c Q.a, abY _⟩
 . unfold iZ; rw [as4, atU, hnl]
 . unfold iZ; rw [as4, atU, hnl]
 . unfold zI; rw [as4, atU]; omega
 . rw [hbl]
   rcases ate.mp hl with hl | hl
   . rcases ate.mp hl with hl | hl
     . exact WN Yv Q.a hl
     . exact WN Yv Q.a hl
   . obtain ⟨w, hw, rfl⟩ := atj.mp hl
     exact (hwy w hw).2
 . rw [hbl, hnl]
   exact (hwy w hw).1
 . refine avp.mpr (avk (fun {a b} ha hb hab => ?_) List.pairwise_lt_range)
   have ha := atP.mp ha
   have hb := atP.mp hb
   show sr.getD a 0 <= sr.getD b 0
   rw [atg, atg, atm ha, atm hb]
   exact auO.mp hss a b ha hb hab
def ab0 (bs : Q.D) (nm ks : Q.h) (es ss : Q.e) (is os : List (List Ea)) (ws : List PJ) : List (List L3.D) := [bs.map kL, nm.map .str, ks.map .str, es.map .int, ss.map .int, is.map Ro, os.map Ro, ws.map Yi]
def SJ (s : Q.e) (c d : Int) : List (List L3.D) := ab0 (Kg s c) (dB d (kJ c)) (wH s (yR s (kJ c - 1)) (kJ c)) (yR s (kJ c - 1)) (wI s (yR s (kJ c - 1)) (kJ c)) (iZ s (G3 c) (dB d (kJ c)) 1 (kJ c)) (iZ s (G3 c) (dB d (kJ c)) 3 (kJ c)) (zI s (dB d (kJ c)) (sS s c (kJ c)) (G3 c) (kJ c) (sS s c (kJ c)).length)
theorem afk (w : PJ) : D.qc (Yi w) = true := by
 have e1 := bS (f := xX) (fun q => by cases q <;> rfl) w.al
 have e2 := bS (f := L7) (fun q => by cases q <;> rfl) w.dl
 unfold Yi
 simp [D.qc, D.cZ, e1, e2]
theorem afl {l : List α} (h : l.length <= k) : cutD l none (some (k : Int)) = l := by
 unfold cutD
 have e1 : HT.DS l.length 0 none = 0 := rfl
 have e2 : HT.DS l.length l.length (some (k : Int)) = l.length := by
   unfold HT.DS
   simp
   split <;> omega
 rw [e1, e2]
 simp
def vO : Ea -> pV
 | .put i a c => .put i a c
 | .say x a c => .say "say" x a c
 | .call x => .call x
theorem ajL (q : Ea) : F8 (vO q) = L7 q := by cases q <;> rfl
theorem ajM (n : Nat) (q : Ea) : Yk n (vO q) = ddI n q := by
 cases q with
 | put i a c => rfl
 | say x a c =>
   show (decide (("say" : Str) = "say") && _) = _
   rw [ata rfl]
   rfl
 | call x => rfl
theorem ajN {q : Ea} (h : ddL q) : Kd (vO q) := by
 cases q with
 | put i a c => trivial
 | say x a c => exact ⟨by decide +kernel, h⟩
 | call x => exact h
def IE (w : PJ) : pR := ⟨w.src, w.sign, w.al, w.dl.map vO, w.tgt, w.mode⟩
theorem WO (l : List Ea) : bX (l.map vO) = Ro l := by
 unfold bX Ro
 rw [atF]
 congr 1
 exact auk fun q _ => ajL q
theorem ajO (w : PJ) : jK (IE w) = Yi w := by
 unfold jK Yi IE
 dsimp only
 rw [WO]
 rfl
def Yw (bs : Q.D) (nm ks : Q.h) (es ss : Q.e) (is os : List (List Ea)) (ws : List PJ) : Pt := ⟨bs, nm, ks, es, ss, is.map (·.map vO), os.map (·.map vO), ws.map IE⟩
theorem ajP (bs : Q.D) (nm ks : Q.h) (es ss : Q.e) (is os : List (List Ea)) (ws : List PJ) : T.lst ((ab0 bs nm ks es ss is os ws).map fun l => T.lst (l.map T.sh)) = uw (Yw bs nm ks es ss is os ws) := by
 have e1 : ∀ l : List (List Ea), (l.map (·.map vO)).map bX = l.map Ro := fun l => by
   rw [atF]
   exact auk fun q _ => WO q
 have e2 : (ws.map IE).map jK = ws.map Yi := by
   rw [atF]
   exact auk fun q _ => ajO q
 unfold uw Rn Yw
 dsimp only
 rw [e1, e1, e2]
 rfl
theorem ab1 {es : Q.e} (h : tH es) (hd : ∀ m : Int, 0 <= m -> m < es.length -> (oB es m).length <= 12) (h0 : es.getD 0 0 = -1) : ∀ {j : Nat}, j < es.length -> GN es j = true
 | 0, _ => ata h0
 | j + 1, hj => by
   rw [GN, ab1 h hd h0 Q.a, Bool.true_and, ata (show es.getD (j + 1) 0 ∈ (j : Int) :: oB es (j : Int) from by
     rcases h.2 j hj with z | z
     . rw [z]; exact ati
     . exact atk _ z), ata (hd ((j : Int) + 1) Q.a Q.a)]
   rfl
theorem ab2 (h : abw ks es ss) (h0 : es.getD 0 0 = -1) (hn : nl = es.length) : BL ks es ss nl = true := by
 have n1 := h.n1
 refine mJ.mpr ⟨by rw [h.kl]; omega, h.kl.symm, h.sl.trans h.kl.symm, hn.trans h.kl.symm, ab1 h.pre h.deep h0 Q.a, ?_, ?_⟩
 . refine atL.mpr fun m hm => ?_
   have hm := atP.mp hm
   rw [h.kl] at hm
   obtain ⟨a1, a2⟩ := h.kinds m hm
   unfold kdO
   rw [ata (show ks.getD m Str.empty ∈ Ec from a1), a2, auP]
   rfl
 . refine atL.mpr fun m hm => ?_
   have hm := atP.mp hm
   rw [h.sl] at hm
   unfold Z6
   rcases h.starts m hm with ⟨a1, a2⟩ | ⟨a1, a2, a3⟩
   . rw [as5 a1, ata a2]
   . rw [atb a1, a2, ata a3]
     rfl
theorem ab3 {n m : Nat} : ∀ {ws : List pR} {l : Int}, (∀ w ∈ ws, l <= w.src /\ Sd n m w = true) -> ws.Pairwise (fun a b => a.src <= b.src) -> Ij n m l ws = true
 | [], _, _, _ => rfl
 | w :: ws, l, h, hp => by
   obtain ⟨h1, h2⟩ := h w ati
   cases hp with
   | cons a b =>
     rw [Ij, atn (show ¬ w.src < l by omega), h2, ab3 (fun v hv => ⟨a v hv, (h v (atk _ hv)).2⟩) b]
     rfl
theorem ab4 {m : Nat} {w : PJ} (h : w.Ok n m) : Sd n m (IE w) = true := by
 obtain ⟨h1, ⟨_, h2⟩, h3, h4, h5⟩ := h
 have ht : (if w.tgt = -1 then decide (w.mode = "new") else rP w.tgt n) = true := by
   rcases h4 with ⟨a1, a2⟩ | ⟨a1, a2⟩
   . rw [atb a1, ata a2]
   . rw [as5 a1, a2]
 unfold Sd IE
 dsimp only
 rw [h1, h2, ata (show w.mode ∈ uv from h3), ht, atL.mpr fun q hq => (h5 q hq).2]
 rfl
theorem ajQ {q : Ea} (h : ddI n q = true) : qO (k + 2) (F8 (vO q)) := by
 cases q with
 | put i a c => exact Yl (.str _ _ Q.d) (.int _ _) Q.ar
 | say x a c =>
   have h : (dO x && D9 n a c) = true := h
   rw [ato] at h
   exact Yl (.str _ _ Q.d) (.str _ _ (Mf h.1)) Q.ar
 | call x => exact BV (.str _ _ Q.d) (.str _ _ (Mf h))
theorem ajR {m : Nat} {q : ZW} (h : Sb q /\ ZX n m q = true) : qO (k + 2) (xX q) := by
 cases q with
 | R9 x i => exact BV (.str _ _ (wC h.1 Q.d)) (.int _ _)
 | num mk a c a2 c2 =>
   have h : (decide (mk ∈ (["<", "<=", "=", "!="] : List Str)) && (D9 m a c && D9 m a2 c2)) = true := h.2
   rw [ato] at h
   exact Yl (.str _ _ (wC (as6 h.1) Q.d)) Q.ar Q.ar
structure ahe (bs : Q.D) (es : Q.e) (is os : List (List Ea)) (ws : List PJ) : Prop where
 e0 : es.getD 0 0 = -1
 e1 : es.length <= 45
 b1 : bs.length <= 4
 w1 : ws.length <= 6
 r1 : ∀ l ∈ is ++ os ++ ws.map (·.dl), l.length <= 2
 a1 : ∀ w ∈ ws, w.al.length <= 2
theorem Drawn.amv {bs : Q.D} {nm : Q.h} {is os : List (List Ea)} {ws : List PJ} (h : Drawn bs nm ks es ss is os ws) {l : List pV} (hl : l ∈ is.map (·.map vO) ++ os.map (·.map vO) ++ (ws.map IE).map (·.dl)) : ∃ r ∈ is ++ os ++ ws.map (·.dl), l = r.map vO := by
 rcases ate.mp hl with z | z
 . rcases ate.mp z with z | z
   . obtain ⟨r, hr, rfl⟩ := atj.mp z
     exact ⟨r, as9 _ (as9 _ hr), rfl⟩
   . obtain ⟨r, hr, rfl⟩ := atj.mp z
     exact ⟨r, as9 _ (as7 _ hr), rfl⟩
 . obtain ⟨w, hw, rfl⟩ := atj.mp z
   obtain ⟨v, hv, rfl⟩ := atj.mp hw
   exact ⟨v.dl, as7 _ (atj.mpr ⟨v, hv, rfl⟩), rfl⟩
theorem Qa {bs : Q.D} {nm : Q.h} {is os : List (List Ea)} {ws : List PJ} (h : Drawn bs nm ks es ss is os ws) (z : ahe bs es is os ws) : (∀ w, qa w 50 (Yw bs nm ks es ss is os ws)) /\ (Yw bs nm ks es ss is os ws).ref = -1 := by
 obtain ⟨t1, t2, t3⟩ := h.tr
 have e1 := z.e1
 have tr : BL ks es ss nm.length = true := ab2 t1 z.e0 t2
 have Z7 : lF nm = true := by
   unfold lF
   rw [atL.mpr fun x hx => (h.Z7.1 x hx).2, ata h.Z7.2]
   rfl
 have Yn : pK bs = true := by
   unfold pK lF
   rw [atL.mpr fun q hq => (h.Yn.1 q hq).2, atL.mpr fun x hx => (by obtain ⟨q, hq, rfl⟩ := atj.mp hx; exact (h.Yn.1 q hq).1.2), ata h.Yn.2.1]
   rfl
 have Wq : oz nm.length bs.length (is.map (·.map vO)) (os.map (·.map vO)) (ws.map IE) = true := by
   unfold oz
   rw [ata (show (is.map (·.map vO)).length = nm.length by rw [as4]; exact h.Wq.1), ata (show (os.map (·.map vO)).length = nm.length by rw [as4]; exact h.Wq.2.1)]
   refine atL.mpr fun l hl => ?_
   obtain ⟨r, hr, rfl⟩ := h.amv hl
   refine atL.mpr fun q hq => ?_
   obtain ⟨q2, hq2, rfl⟩ := atj.mp hq
   rw [ajM]
   exact (h.Wq.2.2.2 r hr q2 hq2).2
 have wys : Ij nm.length bs.length 0 (ws.map IE) = true := ab3 (fun w hw => by
   obtain ⟨v, hv, rfl⟩ := atj.mp hw
   refine ⟨?_, ab4 (h.wys v hv)⟩
   have := (h.wys v hv).1
   unfold rP at this
   rw [ato] at this
   exact as6 this.1) (avp.mpr h.srt)
 have b1 := z.b1
 have w1 := z.w1
 have sh : Ox 50 (Yw bs nm ks es ss is os ws) := ⟨by show ks.length <= 50; rw [t1.kl]; omega, by show es.length <= 50; omega, by show ss.length <= 50; rw [t1.sl]; omega, fun x hx => ath (h.Z7.1 x hx).1 Q.a, by show nm.length <= 50; omega, fun q hq => ath (h.Yn.1 q hq).1.1 Q.a, by show bs.length <= 50; omega,
   by show (is.map _).length <= 50; rw [as4, h.Wq.1]; omega, by show (os.map _).length <= 50; rw [as4, h.Wq.2.1]; omega, by show (ws.map _).length <= 50; rw [as4]; omega, fun l hl => by
     obtain ⟨r, hr, rfl⟩ := h.amv hl
     refine ⟨by rw [as4]; exact ath (z.r1 r hr) Q.a, fun q hq => ?_⟩
     obtain ⟨q2, hq2, rfl⟩ := atj.mp hq
     exact ajN (h.Wq.2.2.2 r hr q2 hq2).1, fun w hw => by
     obtain ⟨v, hv, rfl⟩ := atj.mp hw
     exact ⟨⟨(h.wys v hv).2.1.1, fun q hq => ((h.wys v hv).2.2.2.2 q hq).1⟩, ath (z.a1 v hv) Q.a⟩⟩
 refine ⟨fun w => ⟨sh, by omega, tr, fun _ => Z7, fun _ => Yn, fun _ v hv => ?_, fun _ => ⟨by show (is.map _).length = nm.length; rw [as4]; exact h.Wq.1, by show (os.map _).length = nm.length; rw [as4]; exact h.Wq.2.1⟩, fun _ => Wq⟩, ?_⟩
 . obtain ⟨u, hu, rfl⟩ := atj.mp hv
   obtain ⟨_, ⟨_, g2⟩, g3, _, g5⟩ := h.wys u hu
   refine ⟨Mf g2, fun q hq k => ajR (g5 q hq), fun q hq k => ?_, wC g3 Q.d⟩
   obtain ⟨q2, hq2, rfl⟩ := atj.mp hq
   exact ajQ (h.Wq.2.2.2 u.dl (as7 _ (atj.mpr ⟨u, hu, rfl⟩)) q2 hq2).2
 . unfold Pt.ref iE
   show (if BL ks es ss nm.length = false then (0 : Int) else if lF nm = false then 1 else if pK bs = false then 2 else if oz nm.length bs.length (is.map (·.map vO)) (os.map (·.map vO)) (ws.map IE) = false then 3 else if Ij nm.length bs.length 0 (ws.map IE) = false then 4 else -1) = -1
   rw [tr, Z7, Yn, Wq, wys]
   rfl
theorem Qc (s : Q.e) (c d : Int) : ahe (Kg s c) (yR s (kJ c - 1)) (iZ s (G3 c) (dB d (kJ c)) 1 (kJ c)) (iZ s (G3 c) (dB d (kJ c)) 3 (kJ c)) (zI s (dB d (kJ c)) (sS s c (kJ c)) (G3 c) (kJ c) (sS s c (kJ c)).length) := by
 obtain ⟨_, m1, m2⟩ := abW c
 obtain ⟨_, n2⟩ := WK c
 obtain ⟨e1, e2, e3⟩ := Ir s (kJ c - 1)
 have l2 : ∀ x : Int, (x % 3).toNat <= 2 := fun x => by omega
 have rl : ∀ y, ∀ l ∈ iZ s (G3 c) (dB d (kJ c)) y (kJ c), l.length <= 2 := fun y l hl => by
   obtain ⟨k, _, rfl⟩ := atj.mp hl
   unfold rwK
   rw [as4, atU]
   exact l2 _
 have wl : ∀ w ∈ zI s (dB d (kJ c)) (sS s c (kJ c)) (G3 c) (kJ c) (sS s c (kJ c)).length, w.al.length <= 2 /\ w.dl.length <= 2 := fun w hw => by
   obtain ⟨k, _, rfl⟩ := atj.mp hw
   unfold wyK Sy
   dsimp only
   rw [as4, atU, as4, atU]
   exact ⟨l2 _, l2 _⟩
 refine ⟨by have := e2.1 0 Q.a; omega, by omega, ?_, ?_, fun l hl => ?_, fun w hw => (wl w hw).1⟩
 . unfold Kg; rw [as4, atU]; exact n2
 . unfold zI sS
   rw [as4, atU, xU, as4, atU]
   omega
 . rcases ate.mp hl with z | z
   . rcases ate.mp z with z | z
     . exact rl _ l z
     . exact rl _ l z
   . obtain ⟨w, hw, rfl⟩ := atj.mp z
     exact (wl w hw).2
abbrev G5 : Stmt := top 56
abbrev Mv : Type := List Int
def yf : Mv -> List L3.D := fun s => [.lst (s.map .int)]
def yg : Mv -> Prop := fun s => s.length <= 100
def yh : Mv -> T := fun s => (.lst ((SJ s (DL s) Q.ap).map fun l => T.lst (l.map T.sh)) : T)
structure afm (X : Cx) (CL : Q.g) : Prop extends cT X where
 bV : Ln X 0 "script"
 Qd : X.env.kindOf "script" = some .cell
 uD : Ln X 1 "shape"
 eV : Ln X 2 "moods"
 afn : X.env.kindOf "moods" = some .cell
 dI : Ln X 3 "elders"
 SK : Ln X 4 "both"
 dX : Ln X 5 "names"
 bq : Ln X 6 "many"
 WQ : Ln X 7 "ahead"
 afo : X.env.kindOf "ahead" = some .cell
 t6 : Ln X 8 "k"
 fP : Ln X 9 "boxes"
 WR : Ln X 10 "ins"
 Mw : Ln X 11 "outs"
 yi : Ln X 12 "sources"
 qW : Ln X 13 "ways"
 bP : Gl X "_law_cell_at"
 Kh : Gl X "_law_elders"
 Mx : Gl X "_law_kinds"
 My : Gl X "_law_names"
 cW : Gl X "range"
 FW : Gl X "_law_rows"
 ab5 : Gl X "sorted"
 cJ : Gl X "len"
 SM : Gl X "_law_way"
 dg : Fc X CL "_law_cell_at" 1 2 gj gk gu
 ab6 : Fc X CL "_law_elders" 2 2 uA qU uB
 afp : Fc X CL "_law_kinds" 2 2 x6 x8 x9
 afq : Fc X CL "_law_names" 1 2 yc tN yd
 cX : X.mg "range" = none
 ab7 : Fc X CL "_law_rows" 4 4 B9 tO Ca
 ab8 : X.mg "sorted" = none
 cF : X.mg "len" = none
 amw : Fc X CL "_law_way" 4 6 GZ Cd G0
 P4 : X.mg "str" = none
 abU : Fc X CL "_law_far" 1 1 B5 B6 B7
theorem afr {b : Bx} (E : afm X CL) {s} (h : yg s) :
   aN X CL b G5 ["script", "shape", "moods", "elders", "both", "names", "many", "ahead", "k", "boxes", "ins", "outs", "sources", "ways"] (yf s) (yh s) := by
 dsimp only [aN, yg, yf, yh] at h ⊢
 have hs : s.length <= 100 := h
 have hsl : (s.map L3.D.int).length <= 120 := by rw [as4]; omega
 refine bf E.g E.bV (LD (aK (qP (h := some 120) (aL E.bV) (gi _) oZ (pe Q.b)) (by rw [show (120 : Int) = ((120 : Nat) : Int) from rfl, afl hsl]))) ?_
 refine bf E.g E.uD (aK (aQ (ai (c_ ((s, 0)) E.dg E.bP (ao (aL E.bV) (ao Q.b aG)) (show (0 : Int) <= 0 by omega) rfl)) (ai Q.O) Q.c) (t2 := .sh (.int (DL s))) rfl) ?_
 have c0 : 0 <= DL s := atw _ Q.d
 have c1 : DL s < 1000000000 := atp _ Q.d
 generalize DL s = c at c0 c1 ⊢
 obtain ⟨m0, m1, m2⟩ := abW c
 obtain ⟨n0, n1⟩ := WK c
 refine bf E.g E.eV (bW Q.b (ai (aQ (aL E.uD) Q.b Q.c))) ?_
 refine Hy (fun δ => δ = [some (.sh (.lst (s.map .int))), some (.sh (.int c)), some (.sh (.int (kJ c : Nat))), none, none, none, none, none, none, none, none, none, none, none]) (bI (ai Q.bc) Q.b).1 (fun hp => ?_) (fun hp => ?_) ?_
 . refine bf E.g E.eV (aK (bW Q.b (ai Q.bc)) (t2 := .sh (.int (kJ c : Nat))) ?_) (ak rfl)
   rw [m0]; unfold mdI; rw [atb (as6 hp)]
 . refine ak ?_
   rw [m0]; unfold mdI; rw [as5 (atd hp)]
   rfl
 rintro δ rfl
 obtain ⟨el1, _, _⟩ := Ir s (kJ c - 1)
 unfold SJ
 generalize kJ c = m at m0 m1 m2 el1 ⊢
 have hel : (yR s (m - 1)).length = m := by omega
 refine bf E.g E.dI (aK (c_ ((s, m)) E.ab6 E.Kh (ao (aL E.bV) (ao (aL E.eV) aG)) (by dsimp only [qU]; exact (⟨m1, by omega⟩)) (lD _)) (t2 := .lst (((yR s (m - 1)).map .int).map T.sh)) rfl) ?_
 generalize yR s (m - 1) = es at hel ⊢
 refine bf E.g E.SK (aK (c_ (s, es) E.afp E.Mx (ao (aL E.bV) (ao (vL E.dI.1) aG)) (show es.length <= 900 by omega) (by show T.eX [T.lst _, T.lst _] = true; rw [T.eX, T.eX, T.eX, zC, lD]; rfl)) (t2 := .tup [.lst (((wH s es m).map .str).map T.sh), .lst (((wI s es m).map .int).map T.sh)]) (by rw [← hel]; rfl)) ?_
 generalize wH s es m = ks
 generalize wI s es m = ss
 have d0 : 0 <= cB s 1 % 10 ^ (9 : Int).toNat := atw _ Q.d
 have d1 : cB s 1 % 10 ^ (9 : Int).toNat < 1000000000 := atp _ Q.d
 refine bf E.g E.dX (aK (c_ (cB s 1 % 10 ^ (9 : Int).toNat, m) E.afq E.My (ao (ai (aQ (ai (c_ ((s, 1)) E.dg E.bP (ao (aL E.bV) (ao Q.b aG)) (show (0 : Int) <= 1 by omega) rfl)) (ai Q.O) Q.c)) (ao (aL E.eV) aG)) (by dsimp only [tN]; exact ⟨d0, d1, by omega⟩) (zC _)) (t2 := .lst (((dB Q.ap m).map .str).map T.sh)) rfl) ?_
 have hnl := zG Q.ap m
 generalize dB Q.ap m = nm at hnl ⊢
 refine bf E.g E.bq (aK Q.bc (t2 := .sh (.int (G3 c : Nat))) (by rw [n0])) ?_
 have ha7 : SG.length <= sizeLine := by rw [aui]; decide +kernel
 have hal := au4 SG none (some (c / 7 % 7))
 have ha6 : SG.length = 6 := Q.f
 refine bf E.g E.WQ (aK (DZ (ai (aK bz (t2 := .sh (.str SG)) rfl)) ha7 oZ (pe (ai Q.bc))) (t2 := .sh (.str (ahK c))) rfl) ?_
 have hak : (ahK c).length <= 6 := by unfold ahK; omega
 unfold Kg bxK
 generalize ahK c = ah at hak ⊢
 generalize G3 c = n at n0 n1 ⊢
 refine HN (p := fun _ => true) (gg := fun d => T.sh (kL ((ah ++ ("b" : Str)) ++ B3 (d.FG.toNat : Int), uC (cB s (2 + (d.FG.toNat : Int)))))) E.g E.fP (d7 (.cons E.WQ.1 (.inl E.afo) (.cons E.bV.1 (.inl E.Qd) .nil)) Q.d) (fk E.cX (aL E.bq) Q.a E.cW) (.inr rfl) (fun C s0 H0 f0 b' d hd => ?Ys) (aub (cS (by simp [cO]; omega))) ?rest (by exact atf rfl) (wj ⟨_, rfl⟩)
 case Ys =>
   obtain ⟨i, hi, rfl⟩ := atj.mp hd
   have hi2 : i < n := by simpa using hi
   obtain ⟨sl, sg⟩ := PZ i Q.a
   have ei : (0 + (i : Int)) = (i : Int) := aul _
   have et : (L3.D.int (0 + (i : Int))).FG.toNat = i := by show (0 + (i : Int)).toNat = i; omega
   have sl2 : (toString (i : Int) : Str).length = 1 := sl
   refine ⟨rfl, fun _ => aK (bG (ay (t9 (ai (t9 Q.aE (ai bz) ((by rw [aui]; show ah.length + 1 <= _; omega)))) (ai (Lz E.P4 (qd Q.d) Q.af ((by rw [ei]; exact sg)))) ((by rw [ei, str_len, sl2, aui]; show ah.length + 1 + 1 <= _; omega))) (ay (c_ (cB s (2 + (0 + (i : Int)))) (By E.abU) (qd Q.d) (ao (ai (c_ ((s, 2 + (0 + (i : Int)))) (By E.dg) (qd Q.d) (ao (ai (v_ (oG (i := 2) rfl Q.d))) (ao (ai (bW Q.b Q.af)) aG)) (show (0 : Int) <= 2 + (0 + (i : Int)) by omega) rfl)) aG) (trivial) rfl) bK)) Q.i) ?_⟩
   show T.sh _ = T.sh (kL ((ah ++ ("b" : Str)) ++ B3 ((L3.D.int (0 + (i : Int))).FG.toNat : Int), uC (cB s (2 + ((L3.D.int (0 + (i : Int))).FG.toNat : Int)))))
   rw [et, ei]
   rfl
 case rest =>
 have em : ((cO 0 (n : Int).toNat).filter fun _ => true).map (fun d => T.sh (kL ((ah ++ ("b" : Str)) ++ B3 (d.FG.toNat : Int), uC (cB s (2 + (d.FG.toNat : Int)))))) = (((List.range n).map fun k : Nat => ((ah ++ ("b" : Str)) ++ B3 (k : Int), uC (cB s (2 + (k : Int))))).map kL).map T.sh := by
   rw [mz]
   unfold cO
   rw [atF, atF, atF, atH]
   refine auk fun k _ => ?_
   show T.sh (kL ((ah ++ ("b" : Str)) ++ B3 ((0 + (k : Int)).toNat : Int), uC (cB s (2 + ((0 + (k : Int)).toNat : Int))))) = _
   rw [show (0 + (k : Int)).toNat = k by omega]
   rfl
 rw [em]
 generalize ((List.range n).map fun k : Nat => ((ah ++ ("b" : Str)) ++ B3 (k : Int), uC (cB s (2 + (k : Int))))) = bs
 have cdl : ∀ l : List (List Ea), (T.lst ((l.map Ro).map T.sh)).clean = true := fun l => cj (bS (f := Ro) (fun q => show D.cZ (q.map L7) = true from bS (fun q => by cases q <;> rfl) _) l)
 refine bf E.g E.WR (aK (c_ (s, n, nm, 1) E.ab7 E.FW (ao (aL E.bV) (ao (aL E.bq) (ao (vL E.dX.1) (ao Q.b aG)))) (by dsimp only [tO]; exact ⟨by omega, by omega, by omega, by omega⟩) (cdl _)) (t2 := .lst (((iZ s n nm 1 m).map Ro).map T.sh)) (by rw [← hnl]; rfl)) ?_
 refine bf E.g E.Mw (aK (c_ (s, n, nm, 3) E.ab7 E.FW (ao (aL E.bV) (ao (aL E.bq) (ao (vL E.dX.1) (ao Q.b aG)))) (by dsimp only [tO]; exact ⟨by omega, by omega, by omega, by omega⟩) (cdl _)) (t2 := .lst (((iZ s n nm 3 m).map Ro).map T.sh)) (by rw [← hnl]; rfl)) ?_
 generalize iZ s n nm 1 m = is
 generalize iZ s n nm 3 m = os
 have q0 := atw (c / 15) (b := 7) Q.c
 have q1 := atp (c / 15) (b := 7) Q.c
 refine bf E.g E.yi (aK (RX (l := (List.range (c / 15 % 7).toNat).map (srK s m)) E.ab8 (bJ (aK (rM (p := fun _ => true) (g := fun d => T.sh (.int (srK s m d.FG.toNat))) (d7 (.cons E.eV.1 (.inl E.afn) (.cons E.bV.1 (.inl E.Qd) .nil)) Q.d) E.g.calm (fk E.cX (ai Q.bc) ((show -(2 ^ 62) <= c / 15 % 7 /\ c / 15 % 7 < 2 ^ 62 by omega)) E.cW) (.inr rfl) (fun C s0 H0 f0 b' d hd => ?ajS) (aub (cS (by simp [cO]; omega)))) ?ceq)) (by rw [as4, atU]; omega) E.ab5) (t2 := .lst (((sS s c m).map .int).map T.sh)) rfl) ?_
 case ajS =>
   obtain ⟨i, hi, rfl⟩ := atj.mp hd
   have et : (L3.D.int (0 + (i : Int))).FG.toNat = i := by show (0 + (i : Int)).toNat = i; omega
   refine ⟨rfl, fun _ => aK (aQ (ai (aR (ai (c_ ((s, 20 + 4 * (0 + (i : Int)))) (By E.dg) (qd Q.d) (ao (ai (v_ (oG (i := 2) rfl Q.d))) (ao (ai (bW Q.b (ai (RM Q.b (ai (v_ (ji (i := 0) rfl Q.d))) (.inl ⟨by decide, by decide⟩))))) aG)) (show (0 : Int) <= 20 + 4 * (0 + (i : Int)) by omega) rfl)) Q.b ⟨by decide, by decide⟩)) Q.aE Q.a) ?_⟩
   show T.sh _ = T.sh (.int (srK s m (L3.D.int (0 + (i : Int))).FG.toNat))
   rw [et]
   unfold srK
   rw [aul]
 case ceq =>
   rw [mz]
   unfold cO
   rw [atF, atF, atF]
   congr 1
   refine auk fun k _ => ?_
   show T.sh (.int (srK s m (0 + (k : Int)).toNat)) = _
   rw [show (0 + (k : Int)).toNat = k by omega]
   rfl
 have hsr : ∀ x ∈ sS s c m, 0 <= x /\ x < m := fun x hx => by
   obtain ⟨k, _, rfl⟩ := atj.mp (KC.mp hx)
   exact ⟨atw _ Q.a, atp _ Q.a⟩
 have apu : (sS s c m).length <= 6 := by
   unfold sS
   rw [xU, as4, atU]
   omega
 generalize sS s c m = sr at hsr apu ⊢
 refine bf E.g E.qW (cR cV (atx _)) ?_
 refine oA E.g E.t6 (fun j δ => ∃ o8, δ = [some (.sh (.lst (s.map .int))), some (.sh (.int c)), some (.sh (.int m)), some (.lst ((es.map .int).map T.sh)), some (.tup [.lst ((ks.map .str).map T.sh), .lst ((ss.map .int).map T.sh)]), some (.lst ((nm.map .str).map T.sh)), some (.sh (.int n)), some (.sh (.str ah)), o8, some (.lst ((bs.map kL).map T.sh)), some (.lst ((is.map Ro).map T.sh)), some (.lst ((os.map Ro).map T.sh)), some (.lst ((sr.map .int).map T.sh)), some (.lst (((zI s nm sr n m j).map Yi).map T.sh))])
   (fk E.cX (ai (cG (as4 ..) E.cF (vL E.yi.1) E.cJ)) Q.a E.cW) ⟨_, rfl⟩ (fun j δ ⟨_, e⟩ => by subst e; exact atf rfl) ?turn ?fin
 case turn =>
   rintro j d δ hj ⟨o8, rfl⟩
   obtain ⟨rfl, FU⟩ := kR hj
   rw [aul]
   have hjn : j < sr.length := by simpa using FU
   obtain ⟨x0, x1⟩ : 0 <= sr.getD j 0 /\ sr.getD j 0 < m := hsr _ (by
     rw [atg, atm hjn]
     exact auw _)
   have hat : yW (sr.map L3.D.int) (j : Int) = some (.int (sr.getD j 0)) := (fH Q.a Q.a).trans (by rw [atH])
   have lw : (zI s nm sr n m j).length = j := by unfold zI; rw [as4, atU]
   refine y9 E.qW.1 rfl (aK (c_ (s, 21 + 4 * (j : Int), sr.getD j 0, n, m, nm.getD (sr.getD j 0).toNat Str.empty) E.amw E.SM (ao (aL E.bV) (ao (ai (bW Q.b (ai (RM Q.b (aL E.t6) (.inl ⟨by decide, by decide⟩))))) (ao (bu (vL E.yi.1) (aL E.t6) (hat)) (ao (aL E.bq) (ao (aL E.eV) (ao (bu (vL E.dX.1) (bu (vL E.yi.1) (aL E.t6) (hat)) (fV Str.empty x0 Q.a)) aG)))))) (by dsimp only [Cd]; exact ⟨by omega, by omega, by omega, by omega⟩) (afk _)) (t2 := .sh (Yi (wyK s nm sr n m j))) rfl) rfl (by rw [List.length_map, List.length_map]; omega) (ak ?_)
   have e : ((zI s nm sr n m j).map Yi).map T.sh ++ [T.sh (Yi (wyK s nm sr n m j))] = ((zI s nm sr n m (j + 1)).map Yi).map T.sh := by
     unfold zI
     simp [auK]
   rw [e]
   exact ⟨_, rfl⟩
 case fin =>
   rintro δ ⟨o8, rfl⟩
   rw [show (cO 0 (sr.length : Int).toNat).length = sr.length by simp [cO]]
   generalize zI s nm sr n m sr.length = ws
   exact bx (cR (bA (vM E.fP.1) (bA (vM E.dX.1) (bA (VY 0 E.SK.1 rfl rfl) (bA (vM E.dI.1) (bA (VY 1 E.SK.1 rfl rfl) (bA (vM E.WR.1) (bA (vM E.Mw.1) (bA (vM E.qW.1) cV)))))))) Q.i) rfl
theorem cu : pQ (az G5) ([("script", .cell), ("shape", aF), ("moods", .cell), ("elders", aF), ("both", aF), ("names", aF), ("many", aF), ("ahead", .cell), ("k", aF), ("boxes", aF), ("ins", aF), ("outs", aF), ("sources", aF), ("ways", aF), ("_law_cell_at", aE), ("_law_elders", aE), ("_law_kinds", aE), ("_law_names", aE), ("range", aE), ("_law_rows", aE), ("sorted", aE), ("len", aE), ("_law_way", aE)]) = true := Q.f
theorem ab9 : aZ ["script", "shape", "moods", "elders", "both", "names", "many", "ahead", "k", "boxes", "ins", "outs", "sources", "ways"] ["script"] (az G5) := bB
theorem pB (h : i < n) : xQ n (i : Int) = some i := by
 unfold xQ
 rw [atb Q.a, atb Q.a, atH]
theorem fK {f : α -> L3.D} {l : List α} {v : α} : ((l.map f).map T.sh).set i (T.sh (f v)) = ((l.set i v).map f).map T.sh := by rw [avj, avj]
theorem di {f : α -> L3.D} {l : List α} : ((l.map f).map T.sh).length = l.length := by rw [as4, as4]
theorem pM {f : α -> L3.D} {l : List α} {v : α} : (l.map f).map T.sh ++ [T.sh (f v)] = ((l ++ [v]).map f).map T.sh := by simp
theorem Qe {f : α -> L3.D} {l : List α} {v : α} : dw k (T.sh (f v)) ((l.map f).map T.sh) = ((dw k v l).map f).map T.sh := by rw [oH, oH]
theorem keepsP {X : T} {y : Addr} {δ : Q.n} {d : L3.D} (h : X = .pin y (uw p)) : Keeps (some X :: δ) [.pin y (uw p), .sh d] := by
 subst h
 exact D4 (ds := [d])
theorem Ce {l : List α} {z : Int} (hz : z = (k : Int)) : cutD l none (some z) = l.take k := by
 subst hz
 unfold cutD
 have e1 : HT.DS l.length 0 none = 0 := rfl
 have e2 : HT.DS l.length l.length (some (k : Int)) = min k l.length := by
   unfold HT.DS
   simp
   intro hk
   omega
 rw [e1, e2]
 simp [List.take_eq_take_iff]
def emp (p : Pt) : Nat -> List T
 | 0 => Rn p
 | j + 1 => (emp p j).set (j + 1) (.lst [])
theorem WT (p : Pt) : ∀ j, (emp p j).length = 8
 | 0 => rfl
 | j + 1 => by rw [emp, atz, WT p j]
abbrev qj : Stmt := top 58
abbrev qk : Type := Addr × Pt × Int × Nat
def jN : qk -> List T := fun (y, p, c, B) => [.pin y (uw p), .sh (.int c)]
def g9 : qk -> List T := fun (y, p, c, B) => [.pin y (uw (dP p c)), .sh (.int c)]
def mK : qk -> Prop := fun (y, p, c, B) => qa 0 B p /\ B <= 100
def jO : qk -> T := fun (y, p, c, B) => (.sh .non : T)
structure Mz (X : Cx) (CL : Q.g) : Prop extends cT X where
 aO : Ln X 0 "parts"
 aH : Ln X 1 "cell"
 bq : Ln X 2 "many"
 eS : Ln X 3 "at"
 bM : Ln X 4 "way"
 t6 : Ln X 5 "k"
 cJ : Gl X "len"
 acd : Gl X "int"
 cW : Gl X "range"
 cF : X.mg "len" = none
 ace : X.mg "int" = none
 cX : X.mg "range" = none
 P4 : X.mg "str" = none
theorem MA {b : Bx} (E : Mz X CL) (y p c B) (h : mK (y, p, c, B)) :
   dY X CL b (dW qj) (wo ["parts", "cell", "many", "at", "way", "k"] (jN (y, p, c, B))) { nx := fun δ => jO (y, p, c, B) = .sh .non /\ Keeps δ (g9 (y, p, c, B)), rt := fun LV δ => LV = jO (y, p, c, B) /\ Keeps δ (g9 (y, p, c, B)) } := by
 dsimp only [mK, jN, jO, g9] at h ⊢
 obtain ⟨hA, hB⟩ := h
 have hn := hA.pos
 obtain ⟨h0, h1, h2, h3, _⟩ := mJ.mp hA.tr
 have Hu := hA.sh
 have b1 := Hu.n2
 obtain ⟨i1, i2⟩ : ja p c < p.nm.length /\ ((ja p c : Nat) : Int) = c / 10 % (p.nm.length : Int) := gT (c / 10) hn
 have r0 := atw (c / 700) (b := 2) Q.c
 have r1 := atp (c / 700) (b := 2) Q.c
 have q0 := atw (c / 700) (b := 4) Q.c
 have q1 := atp (c / 700) (b := 4) Q.c
 refine bf E.g E.bq (cG (n := p.nm.length) (as4 ..) E.cF Q.bb E.cJ) ?_
 refine bf E.g E.eS (aK (aQ (ai Q.G) (aL E.bq) Q.a) (t2 := .sh (.int (ja p c : Nat))) (by rw [i2])) ?_
 refine bf E.g E.bM Q.P ?_
 have he : xQ ((p.es.map L3.D.int).map T.sh).length (ja p c : Int) = some (ja p c) := by rw [di]; exact pB Q.a
 have hk : xQ ((p.ks.map L3.D.str).map T.sh).length (ja p c : Int) = some (ja p c) := by rw [di]; exact pB Q.a
 have hs : xQ ((p.ss.map L3.D.int).map T.sh).length (ja p c : Int) = some (ja p c) := by rw [di]; exact pB Q.a
 have hks : yW (p.ks.map L3.D.str) (ja p c : Int) = some (.str (p.ks.getD (ja p c) Str.empty)) := (fV Str.empty Q.a Q.a).trans (by rw [atH])
 refine b5 (bI (aL E.bM) Q.b).1 (fun hp => ?_) (fun Yg => ?_)
 . refine c6 (v_ E.eS.1) (ck (j := 3) Q.u rfl rfl Q.b rfl) (aL E.eS) rfl rfl he (ak (ak ⟨rfl, keepsP ?_⟩))
   rw [st0 (as6 hp), fK]
   rfl
 refine b5 (bI (aL E.bM) Q.b).1 (fun hp => ?_) (fun ZV => ?_)
 . refine c6 (bW (aL E.eS) Q.b) (ck (j := 3) Q.u rfl rfl Q.b rfl) (aL E.eS) rfl rfl he (ak (ak (ak ⟨rfl, keepsP ?_⟩)))
   rw [st1 (as6 hp), fK]
   rfl
 refine b5 (bI (aL E.bM) Q.b).1 (fun hp => ?_) (fun hp2 => ?_)
 . refine c6 (aK (dZ (ai Q.A) (ai (Ly E.ace (ai (bI (aL E.eS) Q.b).2) E.acd))) (t2 := .sh (.int (if ja p c = 0 then -2 else -1))) ?_) (ck (j := 3) Q.u rfl rfl Q.b rfl) (aL E.eS) rfl rfl he (ak (ak (ak (ak ⟨rfl, keepsP ?_⟩))))
   . by_cases hz : ja p c = 0
     . rw [atb hz, hz]; rfl
     . rw [as5 hz, atn (show ¬ ((ja p c : Nat) : Int) = 0 by omega)]; rfl
   rw [st2 (as6 hp), fK]
   rfl
 refine b5 (bI (aL E.bM) Q.b).1 (fun hp => ?_) (fun hp3 => ?_)
 . refine c6 (b7 (bu (bJ (fO (iD (l := kwL) rfl) Q.i)) Q.U (fV Str.empty (l := kwL) q0 (show c / 700 % 4 < 4 by omega))) rfl) (ck (j := 2) Q.u rfl rfl Q.b rfl) (aL E.eS) rfl rfl hk (ak (ak (ak (ak (ak ⟨rfl, keepsP ?_⟩)))))
   rw [st3 (as6 hp), fK]
   rfl
 refine b5 (bI (aL E.bM) Q.b).1 (fun hp => ?_) (fun hp4 => ?_)
 . refine c6 (b7 (bu (bJ (fO (iD (l := (["leaf", "all"] : List Str)) rfl) Q.i)) (ai (Ly E.ace (ai (qN (bu (c7 (p := [.ix 2]) (ck (j := 2) Q.u rfl rfl Q.b rfl) rfl rfl (bH _)) (aL E.eS) hks) (ai bz)).2) E.acd)) (show yW ((["leaf", "all"] : List Str).map L3.D.str) (if decide (p.ks.getD (ja p c) Str.empty = "leaf") = true then 1 else 0) = some (.str (if p.ks.getD (ja p c) Str.empty = "leaf" then "all" else "leaf")) from ?_)) rfl) (ck (j := 2) Q.u rfl rfl Q.b rfl) (aL E.eS) rfl rfl hk ?_
   . by_cases hz : p.ks.getD (ja p c) Str.empty = "leaf"
     . rw [atb hz, atb (ata hz)]; rfl
     . rw [as5 hz, as5 (by rw [atn hz]; decide)]; rfl
   rw [fK]
   refine c6 Q.A (ck (j := 4) Q.u rfl rfl Q.b rfl) (aL E.eS) rfl rfl hs (ak (ak (ak (ak (ak (ak ⟨rfl, keepsP ?_⟩))))))
   rw [st4 (as6 hp), fK]
   rfl
 refine b5 (bI (aL E.bM) Q.b).1 (fun hp => ?_) (fun hp5 => ?_)
 . refine c6 (b7 (bu (bJ (fO (ds := [.int (([0, (p.nm.length : Int)] : List Int).getD (c / 700 % 2).toNat 0), .int (([-1, (ja p c : Int)] : List Int).getD (c / 700 % 2).toNat 0)]) (ay (b7 (bu (bJ (aK (cR (bA aj (bA (v_ E.bq.1) cV)) Q.i) (t2 := .lst ((([0, (p.nm.length : Int)] : List Int).map .int).map T.sh)) rfl)) Q.U (fH (bs := [0, (p.nm.length : Int)]) (k := c / 700 % 2) r0 (show c / 700 % 2 < 2 by omega))) rfl) (ay (b7 (bu (bJ (aK (cR (bA Q.A (bA (v_ E.eS.1) cV)) Q.i) (t2 := .lst ((([-1, (ja p c : Int)] : List Int).map .int).map T.sh)) rfl)) Q.U (fH (bs := [-1, (ja p c : Int)]) (k := c / 700 % 2) r0 (show c / 700 % 2 < 2 by omega))) rfl) bK)) Q.i)) (ai (Ly E.ace (ai (qN (bu (c7 (p := [.ix 2]) (ck (j := 2) Q.u rfl rfl Q.b rfl) rfl rfl (bH _)) (aL E.eS) hks) (ai bz)).2) E.acd)) (show yW [L3.D.int (([0, (p.nm.length : Int)] : List Int).getD (c / 700 % 2).toNat 0), .int (([-1, (ja p c : Int)] : List Int).getD (c / 700 % 2).toNat 0)] (if decide (p.ks.getD (ja p c) Str.empty = "one") = true then 1 else 0) = some (.int Q.bg) from ?_)) rfl) (ck (j := 4) Q.u rfl rfl Q.b rfl) (aL E.eS) rfl rfl hs (ak (ak (ak (ak (ak (ak (ak ⟨rfl, keepsP ?_⟩)))))))
   . by_cases hz : p.ks.getD (ja p c) Str.empty = "one"
     . rw [atb hz, atb (ata hz)]; rfl
     . rw [as5 hz, as5 (by rw [atn hz]; decide)]; rfl
   rw [st5 (as6 hp), fK]
   rfl
 refine b5 (bI (aL E.bM) Q.b).1 (fun hp => ?_) (fun hp6 => ?_)
 . refine R5 (ja p c) (ck (j := 1) Q.u rfl rfl Q.b rfl) rfl rfl (aL E.eS) bz rfl rfl rfl (by rw [di]; omega) (by rw [di]; omega) ?_
   rw [Qe]
   have hv : ([(p.nm.length : Int) + 1, (p.nm.length : Int) - 1] : List Int).getD (c / 700 % 2).toNat 0 = ((if c / 700 % 2 = 0 then p.nm.length + 1 else p.nm.length - 1 : Nat) : Int) := by
     have hc : c / 700 % 2 = 0 \/ c / 700 % 2 = 1 := by omega
     rcases hc with z | z
     . rw [z, atb rfl]; show (p.nm.length : Int) + 1 = _; omega
     . rw [z, as5 Q.c]; show (p.nm.length : Int) - 1 = _; omega
   refine c6 (qP (ds := (dw (ja p c) ("more" : Str) p.nm).map .str) Q.bb (pH _) oZ (pe (bu (bJ (aK (cR (bA (bW (aL E.bq) Q.b) (bA (dZ (aL E.bq) Q.b) cV)) Q.i) (t2 := .lst ((([(p.nm.length : Int) + 1, (p.nm.length : Int) - 1] : List Int).map .int).map T.sh)) rfl)) Q.U (fH (bs := [(p.nm.length : Int) + 1, (p.nm.length : Int) - 1]) (k := c / 700 % 2) r0 (show c / 700 % 2 < 2 by omega))))) Q.u Q.b rfl rfl (j := 1) rfl (ak (ak (ak (ak (ak (ak (ak (ak ⟨rfl, keepsP ?_⟩))))))))
   rw [Ce hv, st6 (as6 hp), ← ava]
   rfl
 refine b5 (bI (aL E.bM) Q.b).1 (fun hp => ?_) (fun hp7 => ?_)
 . have lE : ((p.es ++ [-1]).take (p.nm.length - 1)) = (p.es ++ [-1]).take (p.nm.length - 1) := rfl
   by_cases hr : c / 700 % 2 = 0
   . have h8 : xQ (Rn p).length (3 + c / 700 % 2) = some 3 := by rw [hr]; rfl
     refine wu (p := [.ix 3]) (Rk := (p.es.map .int).map T.sh) (tl := (p.es.map .int).map T.sh) Q.aC rfl rfl Q.A rfl rfl (by rw [di]; omega) ?_
     rw [pM]
     show dY X CL b _ [some (.pin y (uw { p with es := p.es ++ [-1] })), some (.sh (.int c)), some (.sh (.int p.nm.length)), some (.sh (.int (ja p c : Nat))), some (.sh (.int (c % 10))), none] _
     refine b5 (bI Q.U Q.b).1 (fun hq => ?_) (fun hq => ak (ak (ak (ak (ak (ak (ak (ak (ak (ak ⟨rfl, keepsP ?_⟩))))))))))
     . refine c6 (qP (ds := List.map L3.D.int (p.es ++ [-1])) (c7 (p := [.ix 3]) (u := T.lst ((List.map L3.D.int (p.es ++ [-1])).map T.sh)) Q.aC rfl rfl (bH _)) (gi _) oZ (pe (ai (dZ (aL E.bq) Q.b)))) Q.u (ai (bW Q.b Q.U)) rfl rfl h8 (ak (ak (ak (ak (ak (ak (ak (ak (ak (ak ⟨rfl, keepsP ?_⟩))))))))))
       rw [Ce (k := p.nm.length - 1) Q.a, st7 (as6 hp), atb hr, ← ava]
       unfold F9
       rw [atb (as6 hq)]
       rfl
     . rw [st7 (as6 hp), atb hr]
       unfold F9
       rw [as5 (atd hq)]
   . have hr1 : c / 700 % 2 = 1 := by omega
     have h8 : xQ (Rn p).length (3 + c / 700 % 2) = some 4 := by rw [hr1]; rfl
     refine wu (p := [.ix 4]) (Rk := (p.ss.map .int).map T.sh) (tl := (p.ss.map .int).map T.sh) Q.aC rfl rfl Q.A rfl rfl (by rw [di]; omega) ?_
     rw [pM]
     show dY X CL b _ [some (.pin y (uw { p with ss := p.ss ++ [-1] })), some (.sh (.int c)), some (.sh (.int p.nm.length)), some (.sh (.int (ja p c : Nat))), some (.sh (.int (c % 10))), none] _
     refine b5 (bI Q.U Q.b).1 (fun hq => ?_) (fun hq => ak (ak (ak (ak (ak (ak (ak (ak (ak (ak ⟨rfl, keepsP ?_⟩))))))))))
     . refine c6 (qP (ds := List.map L3.D.int (p.ss ++ [-1])) (c7 (p := [.ix 4]) (u := T.lst ((List.map L3.D.int (p.ss ++ [-1])).map T.sh)) Q.aC rfl rfl (bH _)) (gi _) oZ (pe (ai (dZ (aL E.bq) Q.b)))) Q.u (ai (bW Q.b Q.U)) rfl rfl h8 (ak (ak (ak (ak (ak (ak (ak (ak (ak (ak ⟨rfl, keepsP ?_⟩))))))))))
       rw [Ce (k := p.nm.length - 1) Q.a, st7 (as6 hp), as5 hr, ← ava]
       unfold F9
       rw [atb (as6 hq)]
       rfl
     . rw [st7 (as6 hp), as5 hr]
       unfold F9
       rw [as5 (atd hq)]
 refine b5 (bI (aL E.bM) Q.b).1 (fun hp => ?_) (fun hp8 => ?_)
 . refine oA E.g E.t6 (fun j δ => ∃ o, δ = [some (.pin y (.lst (emp p j))), some (.sh (.int c)), some (.sh (.int p.nm.length)), some (.sh (.int (ja p c : Nat))), some (.sh (.int (c % 10))), o]) (DV E.cX Q.b Q.b Q.a E.cW) ⟨_, rfl⟩ (fun j δ ⟨_, e⟩ => by subst e; exact atf rfl) ?turn ?fin
   case turn =>
     rintro j d δ hj ⟨o, rfl⟩
     obtain ⟨rfl, FU⟩ := kR hj
     have FU : j < 6 := FU
     refine c6 (cR cV (atx _)) Q.u (HF (aL E.t6) (show L3.D.int (1 + (j : Int)) = .int ((j + 1 : Nat) : Int) by congr 1; omega)) rfl rfl (by rw [WT]; exact pB Q.a) (ak ⟨_, rfl⟩)
   case fin =>
     rintro δ ⟨o, rfl⟩
     refine ak (ak (ak (ak (ak (ak (ak (ak (ak (ak ⟨rfl, keepsP ?_⟩)))))))))
     rw [st8 (as6 hp)]
     rfl
 have e9 : c % 10 = 9 := by
   have a0 := atd Yg
   have a1 := atd ZV
   have a2 := atd hp2
   have a3 := atd hp3
   have a4 := atd hp4
   have a5 := atd hp5
   have a6 := atd hp6
   have a7 := atd hp7
   have a8 := atd hp8
   omega
 refine c6 (aK (rM (p := fun _ => true) (g := fun d => T.sh (.str (("n" : Str) ++ (toString d.FG : Str)))) (d7 .nil Q.d) E.g.calm (fk E.cX Q.b Q.a E.cW) (.inr rfl) (fun C s0 H0 f0 b' d hd => ?ajT) (aub (cS Q.c))) (t2 := .lst ((n14.map .str).map T.sh)) ?apz) Q.u Q.b rfl rfl (j := 1) rfl ?_
 case ajT =>
   obtain ⟨i, hi, rfl⟩ := atj.mp hd
   have hi2 : i < 14 := atP.mp hi
   have ei : (0 + (i : Int)) = (i : Int) := aul _
   have cl : ∀ i : Nat, i < 14 -> (toString (i : Int) : Str).length <= 2 /\ (i : Int).natAbs.log2 < 1920 := Q.f
   obtain ⟨sl, sg⟩ := cl i hi2
   exact ⟨rfl, fun _ => (t9 (ai bz) (ai (Lz E.P4 (qd Q.d) Q.af (by rw [ei]; exact sg))) ((by rw [ei, aui]; have h1 : ("n" : Str).length = 1 := Q.d; show ("n" : Str).length + (toString (i : Int) : Str).length <= _; omega)))⟩
 case apz =>
   have e : (((cO 0 14).filter fun _ => true).map fun d => (("n" : Str) ++ (toString d.FG : Str))) = n14 := Q.f
   rw [← e, atF, atF]
   rfl
 refine c6 (aK (ug (V1 := [.str "leaf"]) (bJ (ael (ds := [.str "one"]) (bJ (fO (iD (l := [("one" : Str)]) rfl) Q.i)) Q.b rfl Q.c Q.c Q.i)) (bJ (fO (iD (l := [("leaf" : Str)]) rfl) Q.i)) rfl rfl Q.i) (t2 := .lst ((k14.map .str).map T.sh)) rfl) Q.u Q.b rfl rfl (j := 2) rfl ?_
 refine c6 (aK (rM (p := fun _ => true) (g := fun d => T.sh (.int (d.FG - 1))) (d7 .nil Q.d) E.g.calm (fk E.cX Q.b Q.a E.cW) (.inr rfl) (fun C s0 H0 f0 b' d hd => ?apA) (aub (cS Q.c))) (t2 := .lst ((e14.map .int).map T.sh)) rfl) Q.u Q.b rfl rfl (j := 3) rfl ?_
 case apA =>
   obtain ⟨i, hi, rfl⟩ := atj.mp hd
   exact ⟨rfl, fun _ => (dZ Q.af Q.b)⟩
 refine c6 (aK (ug (ds := ((List.range 13).map fun k : Nat => (k : Int) + 1).map .int) (V1 := [.int (-1)]) (bJ (aK (rM (p := fun _ => true) (g := fun d => T.sh (.int (d.FG + 1))) (d7 .nil Q.d) E.g.calm (fk E.cX Q.b Q.a E.cW) (.inr rfl) (fun C s0 H0 f0 b' d hd => ?apB) (aub (cS Q.c))) (t2 := .lst ((((List.range 13).map fun k : Nat => (k : Int) + 1).map .int).map T.sh)) rfl)) (bJ (fO (ay Q.A bK) Q.i)) (gi _) rfl Q.i) (t2 := .lst ((s14.map .int).map T.sh)) rfl) Q.u Q.b rfl rfl (j := 4) rfl (ak (ak (ak (ak (ak (ak (ak (ak (ak (ak ⟨rfl, keepsP ?_⟩))))))))))
 case apB =>
   obtain ⟨i, hi, rfl⟩ := atj.mp hd
   exact ⟨rfl, fun _ => (bW Q.af Q.b)⟩
 rw [st9 e9]
 rfl
theorem eF : pQ (az qj) ([("parts", aF), ("cell", aF), ("many", aF), ("at", aF), ("way", aF), ("k", aF), ("len", aE), ("int", aE), ("range", aE)]) = true := Q.f
theorem zb : aZ ["parts", "cell", "many", "at", "way", "k"] ["parts", "cell"] (az qj) := bB
abbrev uE : Stmt := top 57
abbrev uF : Type := Int × Str
def iH : uF -> List L3.D := fun (c, x) => [.int c, .str x]
def iI : uF -> Prop := fun (c, x) => x.length <= 2000
def iJ : uF -> T := fun (c, x) => (.sh (.str (qf c x)) : T)
structure SN (X : Cx) (CL : Q.g) : Prop extends cT X where
 aH : Ln X 0 "cell"
 jj : Ln X 1 "name"
 Iz : Ln X 2 "some"
theorem SQ {b : Bx} (E : SN X CL) {cz : uF} (h : iI cz) :
   aN X CL b uE ["cell", "name", "some"] (iH cz) (iJ cz) := by
 obtain ⟨c, x⟩ := cz
 dsimp only [aN, iI, iH, iJ] at h ⊢
 obtain ⟨z, hz⟩ : ∃ z : Str, z = x := ⟨x, rfl⟩
 have h : x.length <= 2000 := h
 have c0 := atw c (b := 12) Q.c
 have c1 := atp c (b := 12) Q.c
 have l1 : ((" " : Str)).length = 1 := Q.f
 have l2 : (("_" : Str)).length = 1 := Q.f
 have s1 : x.length + (" " : Str).length <= sizeLine := by rw [aui]; omega
 have s2 : (" " : Str).length + x.length <= sizeLine := by rw [aui]; omega
 have s3 : x.length + ("_" : Str).length <= sizeLine := by rw [aui]; omega
 refine bf E.g E.Iz (aK (cR (tl := ((Ke x).map .str).map T.sh) (ay bz (ay bz (ay bz (ay bz (ay bz (ay bz (ay (t9 (aL E.jj) (ai bz) (s1)) (ay (t9 (ai bz) (aL E.jj) (s2)) (ay bz (ay (t9 (aL E.jj) (ai bz) (s3)) (ay bz (ay bz bK)))))))))))) Q.i) (t2 := .lst (((Ke x).map .str).map T.sh)) rfl) ?_
 exact bx (b7 (bu (vL E.Iz.1) (ai Q.P) (fV Str.empty (l := Ke x) (k := c % 12) c0 (by have e4 : (Ke x).length = 12 := rfl; rw [e4]; omega))) rfl) rfl
theorem wR : pQ (az uE) ([("cell", aF), ("name", aF), ("some", aF)]) = true := Q.f
theorem Qf : aZ ["cell", "name", "some"] ["cell", "name"] (az uE) := bB
abbrev ql : Stmt := top 59
abbrev qm : Type := Addr × Pt × Int × Nat
def jP : qm -> List T := fun (y, p, c, B) => [.pin y (uw p), .sh (.int c)]
def ia : qm -> List T := fun (y, p, c, B) => [.pin y (uw (iF p c)), .sh (.int c)]
def mL : qm -> Prop := fun (y, p, c, B) => qa 1 B p /\ B <= 100
def jQ : qm -> T := fun (y, p, c, B) => (.sh .non : T)
structure MB (X : Cx) (CL : Q.g) : Prop extends cT X where
 aO : Ln X 0 "parts"
 aH : Ln X 1 "cell"
 bq : Ln X 2 "many"
 eS : Ln X 3 "at"
 cJ : Gl X "len"
 dU : Gl X "_law_bad_name"
 cF : X.mg "len" = none
 jR : Fc X CL "_law_bad_name" 1 2 iH iI iJ
theorem MC {b : Bx} (E : MB X CL) (y p c B) (h : mL (y, p, c, B)) :
   dY X CL b (dW ql) (wo ["parts", "cell", "many", "at"] (jP (y, p, c, B))) { nx := fun δ => jQ (y, p, c, B) = .sh .non /\ Keeps δ (ia (y, p, c, B)), rt := fun LV δ => LV = jQ (y, p, c, B) /\ Keeps δ (ia (y, p, c, B)) } := by
 dsimp only [mL, jP, jQ, ia] at h ⊢
 obtain ⟨hA, hB⟩ := h
 have hn := hA.pos
 have Hu := hA.sh
 obtain ⟨i, hi⟩ : ∃ i : Nat, i = (c / 2 % (p.nm.length : Int)).toNat := ⟨_, rfl⟩
 obtain ⟨i1, i2⟩ : i < p.nm.length /\ (i : Int) = c / 2 % (p.nm.length : Int) := by rw [hi]; exact gT (c / 2) hn
 refine bf E.g E.bq (cG (n := p.nm.length) (as4 ..) E.cF Q.bb E.cJ) ?_
 refine bf E.g E.eS (aK (aQ (ai Q.G) (aL E.bq) Q.a) (t2 := .sh (.int (i : Nat))) (by rw [i2])) ?_
 have hk : xQ ((p.nm.map L3.D.str).map T.sh).length (i : Int) = some i := by rw [di]; exact pB Q.a
 have Yv : yW (p.nm.map L3.D.str) (i : Int) = some (.str (p.nm.getD i Str.empty)) := (fV Str.empty Q.a Q.a).trans (by rw [atH])
 have hlen : (p.nm.getD i Str.empty).length <= 2000 := ath (Hu.n1 _ (g8 i1)) Q.a
 refine c6 (aK (c_ (c / 100, p.nm.getD i Str.empty) E.jR E.dU (ao (ai Q.G) (ao (bu Q.bb (aL E.eS) Yv) aG)) hlen rfl) (t2 := .sh (.str Q.aO)) rfl) (ck (j := 1) Q.u rfl rfl Q.b rfl) (aL E.eS) rfl rfl hk ?_
 rw [fK]
 obtain ⟨l, hl⟩ : ∃ l, l = p.nm.set i Q.aO := ⟨_, rfl⟩
 rw [← hl]
 have hll : l.length = p.nm.length := by rw [hl, atz]
 have hk2 : xQ ((l.map L3.D.str).map T.sh).length (i : Int) = some i := by rw [di]; exact pB Q.a
 show dY X CL b _ [some (.pin y (uw { p with nm := l })), some (.sh (.int c)), some (.sh (.int p.nm.length)), some (.sh (.int (i : Nat)))] _
 have esp : iF p c = { p with nm := if c % 2 = 1 /\ 1 < p.nm.length then l.set i (l.getD (((i : Int) + 1 + c / 100 % ((p.nm.length : Int) - 1)) % (p.nm.length : Int)).toNat Str.empty) else l } := by
   rw [hl, hi]
   rfl
 refine b5 (ua (sO (bI (ai Q.P) Q.b).1 (fun hb => (Bw (O2 (aL E.bq) Q.b).1)))) (fun hp => ?_) (fun hp => (ak (ak ⟨rfl, keepsP ?_⟩)))
 . rw [ato] at hp
   have p1 := as6 hp.1
   have p2 := as6 hp.2
   have j0 := atw ((i : Int) + 1 + c / 100 % ((p.nm.length : Int) - 1)) (b := (p.nm.length : Int)) Q.a
   have j1 := atp ((i : Int) + 1 + c / 100 % ((p.nm.length : Int) - 1)) (b := (p.nm.length : Int)) Q.a
   refine c6 (b7 (bu (ds := l.map L3.D.str) (c7 (p := [.ix 1]) (u := T.lst ((l.map L3.D.str).map T.sh)) (ck (j := 1) Q.u rfl rfl Q.b rfl) rfl rfl (bH _)) (ai (aQ (ai (bW (ai (bW (aL E.eS) Q.b)) (ai (aQ (ai Q.G) (ai (dZ (aL E.bq) Q.b)) Q.a)))) (aL E.bq) Q.a)) (fV Str.empty j0 Q.a)) rfl) (ck (j := 1) Q.u rfl rfl Q.b rfl) (aL E.eS) rfl (tl := (l.map L3.D.str).map T.sh) rfl hk2 (ak (ak ⟨rfl, keepsP ?_⟩))
   rw [fK, esp, atb ⟨p1, by omega⟩]
   rfl
 . have hq : ¬ (c % 2 = 1 /\ 1 < p.nm.length) := fun ⟨z1, z2⟩ => by
     rw [ata z1, ata (show (1 : Int) < (p.nm.length : Int) by omega)] at hp
     exact absurd hp Q.c
   rw [esp, as5 hq]
theorem jc : pQ (az ql) ([("parts", aF), ("cell", aF), ("many", aF), ("at", aF), ("len", aE), ("_law_bad_name", aE)]) = true := Q.f
theorem zc : aZ ["parts", "cell", "many", "at"] ["parts", "cell"] (az ql) := bB
theorem MD {b : Bx} {fS : List Stmt} {D : g6} {δr : Q.n} {y a : Addr} (l : Q.D) (k : dY X CL b fS (some (.pin y (uw { p with bs := l })) :: δr) D) : dY X CL b fS (some (.pin y (.lst ((Rn p).set 0 (.pin a (.lst ((l.map kL).map T.sh)))))) :: δr) D := KN (i := 0) (u := .lst ((l.map kL).map T.sh)) 0 rfl rfl k
abbrev rT : Stmt := top 60
abbrev rV : Type := Addr × Pt × Int × Nat
def kW : rV -> List T := fun (y, p, c, B) => [.pin y (uw p), .sh (.int c)]
def jd : rV -> List T := fun (y, p, c, B) => [.pin y (uw (rQ p c)), .sh (.int c)]
def pC : rV -> Prop := fun (y, p, c, B) => qa 2 B p /\ B <= 100
def kX : rV -> T := fun (y, p, c, B) => (.sh .non : T)
structure Qg (X : Cx) (CL : Q.g) : Prop extends cT X where
 aO : Ln X 0 "parts"
 aH : Ln X 1 "cell"
 fP : Ln X 2 "boxes"
 eS : Ln X 3 "at"
 jj : Ln X 4 "name"
 bM : Ln X 5 "way"
 cJ : Gl X "len"
 dU : Gl X "_law_bad_name"
 cF : X.mg "len" = none
 jR : Fc X CL "_law_bad_name" 1 2 iH iI iJ
theorem Qh {b : Bx} (E : Qg X CL) (y p c B) (h : pC (y, p, c, B)) :
   dY X CL b (dW rT) (wo ["parts", "cell", "boxes", "at", "name", "way"] (kW (y, p, c, B))) { nx := fun δ => kX (y, p, c, B) = .sh .non /\ Keeps δ (jd (y, p, c, B)), rt := fun LV δ => LV = kX (y, p, c, B) /\ Keeps δ (jd (y, p, c, B)) } := by
 dsimp only [pC, kW, kX, jd] at h ⊢
 obtain ⟨hA, hB⟩ := h
 have Hu := hA.sh
 have hdp := aeS (hA.Yn Q.a)
 have b2 := Hu.b2
 refine Wc E.g E.fP (ck (j := 0) Q.u rfl rfl Q.b rfl) rfl rfl (by exact atf rfl) fun a => ?_
 have e : RP (.lst (p.bs.map kL)) (.lst []) = decide (p.bs = []) := by
   cases p.bs with
   | nil => decide +kernel
   | cons q l => rw [atn (fun z => by cases z)]; rfl
 refine Hy (fun δ => δ = [some (.pin y (.lst ((Rn p).set 0 (.pin a (.lst (((L8 p.bs).map kL).map T.sh)))))), some (.sh (.int c)), some (.sh (.val (.ref a))), none, none, none]) (aaY E.u (c7 (p := [.ix 0]) (u := T.lst ((p.bs.map kL).map T.sh)) Q.av rfl rfl (bH _)) (bJ (ds := []) (cR cV (atx _))) hdp (pJ [])).1 (fun hp => ?yes) (fun hp => ak ?no) ?_
 case yes =>
   have e0 : p.bs = [] := as6 (e.symm.trans hp)
   refine wu (Rk := (p.bs.map kL).map T.sh) (tl := (p.bs.map kL).map T.sh) Q.av rfl rfl (aK (bG (ay bz (ay aj bK)) Q.i) (t2 := .sh (kL w05)) rfl) rfl rfl (by rw [di]; omega) (ak ?_)
   rw [pM, e0]
   unfold L8
   rw [atb rfl]
   rfl
 case no =>
   unfold L8
   rw [as5 (atd (e.symm.trans hp))]
   rfl
 rintro δ rfl
 have abJ := Wm p.bs
 have esp : rQ p c = { p with bs := PL (L8 p.bs) c } := rfl
 have hl1 : ∀ q ∈ L8 p.bs, q.1.length <= 2000 := by
   unfold L8
   split
   . intro q hq; cases atD.mp hq; exact ath (show w05.1.length <= 10 by decide +kernel) Q.a
   . exact fun q hq => ath (Hu.b1 q hq) Q.a
 have hl2 : (L8 p.bs).length <= 200 := by
   unfold L8
   split
   . show 1 <= 200; omega
   . omega
 rw [esp]
 generalize L8 p.bs = l at *
 obtain ⟨i, hi⟩ : ∃ i : Nat, i = (c / 4 % (l.length : Int)).toNat := ⟨_, rfl⟩
 obtain ⟨i1, i2⟩ : i < l.length /\ (i : Int) = c / 4 % (l.length : Int) := by rw [hi]; exact gT (c / 4) abJ
 refine bf E.g E.eS (aK (aQ (ai Q.G) (ai (cG (n := l.length) (as4 ..) E.cF (c7 (p := [.ix 0]) (u := T.lst ((l.map kL).map T.sh)) Q.av rfl rfl (bH _)) E.cJ)) Q.a) (t2 := .sh (.int (i : Nat))) (by rw [i2])) ?_
 have hbx : yW (l.map kL) (i : Int) = some (kL (l.getD i w05)) := (fV w05 Q.a Q.a).trans (by rw [atH])
 have hk : xQ ((l.map kL).map T.sh).length (i : Int) = some i := by rw [di]; exact pB Q.a
 have Yx : PL l c = if c % 4 = 0 then l.set i (qf (c / 40) (l.getD i w05).1, (l.getD i w05).2) else if c % 4 = 1 then dw i ((l.getD i w05).1, c / 40 % 7) l else if c % 4 = 2 then l.set i ((l.getD i w05).1, 10 ^ (30 : Int).toNat + c / 40 % 5) else l.set i ((l.getD i w05).1, 0 - 10 ^ (30 : Int).toNat - c / 40 % 5) := by
   rw [hi]
   rfl
 have hql : (l.getD i w05).1.length <= 2000 := hl1 _ (g8 i1)
 generalize l.getD i w05 = q at *
 refine bf E.g E.jj (aK (b7 (dN (bu (c7 (p := [.ix 0]) (u := T.lst ((l.map kL).map T.sh)) Q.av rfl rfl (bH _)) (aL E.eS) hbx) Q.b rfl) rfl) (t2 := .sh (.str q.1)) rfl) ?_
 refine bf E.g E.bM Q.P ?_
 refine b5 (bI (aL E.bM) Q.b).1 (fun hp => ?_) (fun Yg => ?_)
 . refine c6 (aK (bG (ds := [.str (qf (c / 40) q.1), .int q.2]) (ay (aK (c_ (c / 40, q.1) E.jR E.dU (ao (ai Q.G) (ao (aL E.jj) aG)) hql rfl) rfl) (ay (b7 (dN (bu (c7 (p := [.ix 0]) (u := T.lst ((l.map kL).map T.sh)) Q.av rfl rfl (bH _)) (aL E.eS) hbx) Q.b rfl) rfl) bK)) Q.i) (t2 := .sh (kL (qf (c / 40) q.1, q.2))) rfl) Q.av (aL E.eS) rfl (tl := (l.map kL).map T.sh) rfl hk ?_
   rw [fK]
   refine MD (a := a) (p := p) (l.set i (qf (c / 40) q.1, q.2)) (ak (ak ⟨rfl, keepsP ?_⟩))
   rw [Yx, atb (as6 hp)]
 refine b5 (bI (aL E.bM) Q.b).1 (fun hp => ?_) (fun ZV => ?_)
 . refine R5 i (Rk := (l.map kL).map T.sh) (tl := (l.map kL).map T.sh) Q.av rfl rfl (aL E.eS) (aK (bG (ay (v_ E.jj.1) (ay (aQ (ai Q.G) Q.b Q.c) bK)) Q.i) (t2 := .sh (kL (q.1, c / 40 % 7))) rfl) rfl rfl rfl (by rw [di]; omega) (by rw [di]; omega) ?_
   rw [Qe]
   refine MD (a := a) (p := p) (dw i (q.1, c / 40 % 7) l) (ak (ak (ak ⟨rfl, keepsP ?_⟩)))
   rw [Yx, as5 (atd Yg), atb (as6 hp)]
 refine b5 (bI (aL E.bM) Q.b).1 (fun hp => ?_) (fun hp2 => ?_)
 . refine c6 (aK (bG (ay (v_ E.jj.1) (ay (bW (ai Q.O) Q.U) bK)) Q.i) (t2 := .sh (kL (q.1, 10 ^ (30 : Int).toNat + c / 40 % 5))) rfl) Q.av (aL E.eS) rfl (tl := (l.map kL).map T.sh) rfl hk ?_
   rw [fK]
   refine MD (a := a) (p := p) (l.set i (q.1, 10 ^ (30 : Int).toNat + c / 40 % 5)) (ak (ak (ak (ak ⟨rfl, keepsP ?_⟩))))
   rw [Yx, as5 (atd Yg), as5 (atd ZV), atb (as6 hp)]
 . refine c6 (aK (bG (ay (v_ E.jj.1) (ay (dZ (ai (dZ Q.b (ai Q.O))) Q.U) bK)) Q.i) (t2 := .sh (kL (q.1, 0 - 10 ^ (30 : Int).toNat - c / 40 % 5))) rfl) Q.av (aL E.eS) rfl (tl := (l.map kL).map T.sh) rfl hk ?_
   rw [fK]
   refine MD (a := a) (p := p) (l.set i (q.1, 0 - 10 ^ (30 : Int).toNat - c / 40 % 5)) (ak (ak (ak (ak ⟨rfl, keepsP ?_⟩))))
   rw [Yx, as5 (atd Yg), as5 (atd ZV), as5 (atd hp2)]
theorem gw : pQ (az rT) ([("parts", aF), ("cell", aF), ("boxes", aF), ("at", aF), ("name", aF), ("way", aF), ("len", aE), ("_law_bad_name", aE)]) = true := Q.f
theorem Cg : aZ ["parts", "cell", "boxes", "at", "name", "way"] ["parts", "cell"] (az rT) := bB
abbrev uG : Stmt := top 61
abbrev uH : Type := Int × Nat
def mO : uH -> List L3.D := fun (c, n) => [.int c, .int n]
def mP : uH -> Prop := fun (c, n) => True
def mQ : uH -> T := fun (c, n) => (.sh (.tup [.int (qS c n).1, .int (qS c n).2]) : T)
structure SR (X : Cx) (CL : Q.g) : Prop extends cT X where
 aH : Ln X 0 "cell"
 bq : Ln X 1 "many"
 MF : Ln X 2 "more"
 IG : Ln X 3 "box"
theorem SV {b : Bx} (E : SR X CL) {cz : uH} (h : mP cz) :
   aN X CL b uG ["cell", "many", "more", "box"] (mO cz) (mQ cz) := by
 obtain ⟨c, n⟩ := cz
 dsimp only [aN, mP, mO, mQ] at h ⊢
 have c0 := atw (c / 4) (b := 4) Q.c
 have c1 := atp (c / 4) (b := 4) Q.c
 have d0 := atw (c / 16) (b := 3) Q.c
 have d1 := atp (c / 16) (b := 3) Q.c
 refine bf E.g E.MF (aK (b7 (bu (bJ (aK (cR (bA aj (bA Q.O (bA (dZ Q.b (ai Q.O)) (bA Q.O cV)))) Q.i) (t2 := .lst ((bmL.map .int).map T.sh)) rfl)) Q.U (fH (bs := bmL) (k := c / 4 % 4) c0 (by have e4 : bmL.length = 4 := rfl; rw [e4]; omega))) rfl) (t2 := .sh (.int (bmN c))) rfl) ?_
 refine bf E.g E.IG (aK (b7 (bu (bJ (aK (cR (bA (v_ E.bq.1) (bA Q.A (bA (bW (aL E.bq) Q.b) cV))) Q.i) (t2 := .lst ((([(n : Int), -2, (n : Int) + 3] : List Int).map .int).map T.sh)) rfl)) Q.U (fH (bs := [(n : Int), -2, (n : Int) + 3]) (k := c / 16 % 3) d0 (show c / 16 % 3 < 3 by omega))) rfl) (t2 := .sh (.int (([(n : Int), -2, (n : Int) + 3] : List Int).getD (c / 16 % 3).toNat 0))) rfl) ?_
 refine b5 (pU (aL E.MF) Q.b).1 (fun hp => ?_) (fun hp => ak ?_)
 . have hb : ¬ bmN c = 0 := by simpa using hp
   refine bf E.g E.IG (dZ (ai (aQ (ai Q.G) (ai (bW (aL E.bq) Q.b)) Q.a)) Q.b) (ak ?_)
   refine bx (bG (ds := [.int _, .int _]) (ay (v_ E.IG.1) (ay (v_ E.MF.1) bK)) Q.i) ?_
   unfold qS
   rw [as5 hb]
 . have hb : bmN c = 0 := by simpa using hp
   refine bx (bG (ds := [.int _, .int _]) (ay (v_ E.IG.1) (ay (v_ E.MF.1) bK)) Q.i) ?_
   unfold qS
   rw [atb hb]
theorem rW : pQ (az uG) ([("cell", aF), ("many", aF), ("more", aF), ("box", aF)]) = true := Q.f
theorem Qi : aZ ["cell", "many", "more", "box"] ["cell", "many"] (az uG) := bB
abbrev uI : Stmt := top 62
abbrev uJ : Type := Int × Nat
def qo : uJ -> List L3.D := fun (c, n) => [.int c, .int n]
def qp : uJ -> Prop := fun (c, n) => n <= 1000
def qq : uJ -> T := fun (c, n) => (.sh (F8 (BQ c n)) : T)
structure SW (X : Cx) (CL : Q.g) : Prop extends cT X where
 aH : Ln X 0 "cell"
 bq : Ln X 1 "many"
 bM : Ln X 2 "way"
 i6 : Gl X "_law_bad_term"
 dU : Gl X "_law_bad_name"
 qX : Fc X CL "_law_bad_term" 1 2 mO mP mQ
 jR : Fc X CL "_law_bad_name" 1 2 iH iI iJ
theorem SX {b : Bx} (E : SW X CL) {cz : uJ} (h : qp cz) :
   aN X CL b uI ["cell", "many", "way"] (qo cz) (qq cz) := by
 obtain ⟨c, n⟩ := cz
 dsimp only [aN, qp, qo, qq] at h ⊢
 have h : n <= 1000 := h
 have gl : ("go" : Str).length <= 2000 := Q.f
 have d0 := atw (c / 6) (b := 5) Q.c
 have d1 := atp (c / 6) (b := 5) Q.c
 have f0 := atw (c / 6) (b := 3) Q.c
 have f1 := atp (c / 6) (b := 3) Q.c
 refine bf E.g E.bM Q.P ?_
 refine bf E.g E.aH Q.G ?_
 refine b5 (bI (aL E.bM) Q.b).1 (fun hp => ?_) (fun hp => ak ?_)
 . refine bx (bG (ds := [.str (wrL.getD (c / 6 % 5).toNat Str.empty), .str "word", .tup [.int (-1), .int 0]]) (ay (b7 (bu (bJ (fO (iD (l := wrL) rfl) Q.i)) (ai Q.P) (fV Str.empty (l := wrL) d0 (show c / 6 % 5 < 5 by omega))) rfl) (ay bz (ay Q.aF bK))) Q.i) ?_
   unfold BQ
   rw [atb (as6 hp)]
   rfl
 have n5 := atd hp
 refine b5 (bI (aL E.bM) Q.b).1 (fun hp => ?_) (fun hp => ak ?_)
 . refine bx (bG (ds := [.str "put", .int (([(n : Int), -1, (n : Int) + 2] : List Int).getD (c / 6 % 3).toNat 0), .tup [.int (-1), .int 4]]) (ay bz (ay (b7 (bu (bJ (aK (cR (bA (v_ E.bq.1) (bA Q.A (bA (bW (aL E.bq) Q.b) cV))) Q.i) (t2 := .lst ((([(n : Int), -1, (n : Int) + 2] : List Int).map .int).map T.sh)) rfl)) (ai Q.P) (fH (bs := [(n : Int), -1, (n : Int) + 2]) (k := c / 6 % 3) f0 (show c / 6 % 3 < 3 by omega))) rfl) (ay Q.aF bK))) Q.i) ?_
   unfold BQ
   rw [as5 n5, atb (as6 hp)]
   rfl
 have n0 := atd hp
 refine b5 (ua (sO (bI (aL E.bM) Q.b).1 (fun hb => (Bw (O2 (aL E.bq) Q.b).1)))) (fun hp => ?_) (fun hp => ak ?_)
 . rw [ato] at hp
   have p1 := as6 hp.1
   have p2 := as6 hp.2
   refine bx (bG (ds := [.str "put", .int (c / 6 % (n : Int)), .tup [.int (qS (c / 6 / (n : Int)) n).1, .int (qS (c / 6 / (n : Int)) n).2]]) (ay bz (ay (aQ (aL E.aH) (aL E.bq) Q.a) (ay (aK (c_ (c / 6 / (n : Int), n) E.qX E.i6 (ao (ai (aR (aL E.aH) (aL E.bq) (⟨by omega, by omega⟩))) (ao (aL E.bq) aG)) trivial rfl) rfl) bK))) Q.i) ?_
   unfold BQ
   rw [as5 n5, as5 n0, atb ⟨p1, by omega⟩]
   rfl
 have n1 : ¬ (c % 6 = 1 /\ 0 < n) := fun ⟨z1, z2⟩ => by
   rw [ata z1, ata (show (0 : Int) < (n : Int) by omega)] at hp
   exact absurd hp Q.c
 refine b5 (bI (aL E.bM) Q.b).1 (fun hp => ?_) (fun hp => ak ?_)
 . refine bx (bG (ds := [.str "call", .str (qf (c / 6) "go")]) (ay bz (ay (aK (c_ (c / 6, ("go" : Str)) E.jR E.dU (ao (aL E.aH) (ao (ai bz) aG)) gl rfl) rfl) bK)) Q.i) ?_
   unfold BQ
   rw [as5 n5, as5 n0, as5 n1, atb (as6 hp)]
   rfl
 have n2 := atd hp
 refine b5 (bI (aL E.bM) Q.b).1 (fun hp => ?_) (fun hp => ak ?_)
 . refine bx (bG (ds := [.str "say", .str (qf (c / 6) "go"), .tup [.int (-1), .int 0]]) (ay bz (ay (aK (c_ (c / 6, ("go" : Str)) E.jR E.dU (ao (aL E.aH) (ao (ai bz) aG)) gl rfl) rfl) (ay Q.aF bK))) Q.i) ?_
   unfold BQ
   rw [as5 n5, as5 n0, as5 n1, as5 n2, atb (as6 hp)]
   rfl
 have n3 := atd hp
 refine bx (bG (ds := [.str "say", .str "word", .tup [.int (qS (c / 6) n).1, .int (qS (c / 6) n).2]]) (ay bz (ay bz (ay (aK (c_ (c / 6, n) E.qX E.i6 (ao (aL E.aH) (ao (aL E.bq) aG)) trivial rfl) rfl) bK))) Q.i) ?_
 unfold BQ
 rw [as5 n5, as5 n0, as5 n1, as5 n2, as5 n3]
 rfl
theorem pN : pQ (az uI) ([("cell", aF), ("many", aF), ("way", aF), ("_law_bad_term", aE), ("_law_bad_name", aE)]) = true := Q.f
theorem Qj : aZ ["cell", "many", "way"] ["cell", "many"] (az uI) := bB
theorem Ci {q : L3.D} {l : List L3.D} (h1 : D.cZ l = true) (h2 : q.qc = true) : D.cZ (dw k q l) = true := GH fun d hd => by
 rcases j9.mp hd with rfl | z
 . exact h2
 . exact Hz h1 d z
abbrev Cj : Stmt := top 63
abbrev Ck : Type := List L3.D × Int × L3.D
def qY : Ck -> List L3.D := fun (l, c, q) => [.tup l, .int c, q]
def jS : Ck -> Prop := fun (l, c, q) => D.cZ l = true /\ q.qc = true /\ l.length <= 1000
def qZ : Ck -> T := fun (l, c, q) => (.sh (.tup (dw (c % ((l.length : Int) + 1)).toNat q l)) : T)
structure acf (X : Cx) (CL : Q.g) : Prop extends cT X where
 II : Ln X 0 "row"
 aH : Ln X 1 "cell"
 afs : Ln X 2 "thing"
 fX : Gl X "list"
 cJ : Gl X "len"
 rR : Gl X "tuple"
 fY : X.mg "list" = none
 cF : X.mg "len" = none
 rS : X.mg "tuple" = none
theorem acg {b : Bx} (E : acf X CL) {cz : Ck} (h : jS cz) :
   aN X CL b Cj ["row", "cell", "thing"] (qY cz) (qZ cz) := by
 obtain ⟨l, c, q⟩ := cz
 dsimp only [aN, jS, qY, qZ] at h ⊢
 obtain ⟨h1, h2, h3⟩ := h
 have c0 := atw c (b := (l.length : Int) + 1) Q.a
 have c1 := atp c (b := (l.length : Int) + 1) Q.a
 refine bf E.g E.II (Kx E.fY (v_ E.II.1) E.fX cN) ?_
 refine R5 (c % ((l.length : Int) + 1)).toNat (aW E.II.1 rfl) rfl rfl (ai (aQ (aL E.aH) (ai (bW (ai (cG (rfl) E.cF (vL E.II.1) E.cJ)) Q.b)) Q.a)) (v_ E.afs.1) rfl rfl Q.a (by rw [as4]; omega) (by rw [as4]; omega) ?_
 generalize (c % ((l.length : Int) + 1)).toNat = k
 have e : T.F6 [] (T.lst (dw k (T.sh q) (l.map T.sh))) (T.lst (l.map T.sh)) = .lst ((dw k q l).map T.sh) := congrArg T.lst (oH T.sh k q l)
 rw [e]
 exact bx (tG E.rS (vL E.II.1) (Ci h1 h2) E.rR) rfl
theorem qF : pQ (az Cj) ([("row", aF), ("cell", aF), ("thing", aF), ("list", aE), ("len", aE), ("tuple", aE)]) = true := Q.f
theorem Yy : aZ ["row", "cell", "thing"] ["row", "cell", "thing"] (az Cj) := bB
theorem WU {l : List α} : cutD l none (some (-2)) = l.take (l.length - 2) := by
 unfold cutD
 have e1 : HT.DS l.length 0 none = 0 := rfl
 have e2 : HT.DS l.length l.length (some (-2)) = l.length - 2 := by
   unfold HT.DS
   simp
   omega
 rw [e1, e2]
 rfl
theorem aft {ws : List pR} (h : ws ≠ []) : yW (ws.map jK) (-1) = some (jK (ws.getLast h)) := by
 have hl := auT.mpr h
 have e : xQ (ws.map jK).length (-1) = some (ws.length - 1) := by
   unfold xQ
   rw [as4, as5 Q.c, atb Q.a]
   congr 1
   omega
 unfold yW
 rw [e]
 show (ws.map jK)[ws.length - 1]? = _
 rw [atE, atm Q.a, List.getLast_eq_getElem]
 rfl
abbrev qt : Stmt := top 64
abbrev qu : Type := Addr × Pt × Int × Nat
def jT : qu -> List T := fun (y, p, c, B) => [.pin y (uw p), .sh (.int c)]
def ic : qu -> List T := fun (y, p, c, B) => [.pin y (uw (gQ p c)), .sh (.int c)]
def mR : qu -> Prop := fun (y, p, c, B) => qa 3 B p /\ B <= 100
def jU : qu -> T := fun (y, p, c, B) => (.sh .non : T)
structure MG (X : Cx) (CL : Q.g) : Prop extends cT X where
 aO : Ln X 0 "parts"
 aH : Ln X 1 "cell"
 jk : Ln X 2 "deed"
 bM : Ln X 3 "way"
 eS : Ln X 4 "at"
 wQ : Ln X 5 "source"
 Ga : Gl X "_law_bad_deed"
 cJ : Gl X "len"
 pD : Gl X "_law_put_in"
 SY : Fc X CL "_law_bad_deed" 2 2 qo qp qq
 cF : X.mg "len" = none
 Cm : Fc X CL "_law_put_in" 1 3 qY jS qZ
theorem MH {b : Bx} (E : MG X CL) (y p c B) (h : mR (y, p, c, B)) :
   dY X CL b (dW qt) (wo ["parts", "cell", "deed", "way", "at", "source"] (jT (y, p, c, B))) { nx := fun δ => jU (y, p, c, B) = .sh .non /\ Keeps δ (ic (y, p, c, B)), rt := fun LV δ => LV = jU (y, p, c, B) /\ Keeps δ (ic (y, p, c, B)) } := by
 dsimp only [mR, jT, jU, ic] at h ⊢
 obtain ⟨hA, hB⟩ := h
 have hn := hA.pos
 have Hu := hA.sh
 obtain ⟨li, lo⟩ := hA.li Q.a
 have b2 := Hu.b2
 have bi := Hu.i1
 have bo := Hu.o1
 have bw := Hu.w1
 obtain ⟨d, hd⟩ : ∃ d, d = BQ (c / 1000) p.bs.length := ⟨_, rfl⟩
 obtain ⟨i, hi⟩ : ∃ i : Nat, i = (c / 4 % (p.is.length : Int)).toNat := ⟨_, rfl⟩
 obtain ⟨i1, i2⟩ : i < p.is.length /\ (i : Int) = c / 4 % (p.is.length : Int) := by rw [hi]; exact gT (c / 4) Q.a
 have J2 : gQ p c = if c % 4 = 0 then { p with is := Sg (c / 300) d p.is i } else if c % 4 = 1 then { p with os := Sg (c / 300) d p.os i } else if c % 4 = 2 then (if c / 4 % 2 = 0 then { p with is := Ed c p.is } else { p with os := Ed c p.os }) else { p with ws := p.ws ++ [⟨Im p.ws, "go", [], [.call "go", d], -1, "new"⟩] } := by
   rw [hd, hi]
   rfl
 refine bf E.g E.jk (aK (c_ (c / 1000, p.bs.length) E.SY E.Ga (ao (ai Q.G) (ao (ai (cG (n := p.bs.length) (as4 ..) E.cF (c7 (p := [.ix 0]) (ck (j := 0) Q.u rfl rfl Q.b rfl) rfl rfl (bH _)) E.cJ)) aG)) (show p.bs.length <= 1000 by omega) (by show (F8 _).qc = true; exact pA _)) (t2 := .sh (F8 d)) (by rw [hd]; rfl)) ?_
 refine bf E.g E.bM Q.P ?_
 refine bf E.g E.eS (aK (aQ (ai Q.G) (ai (cG (n := p.is.length) (as4 ..) E.cF (c7 (p := [.ix 5]) (ck (j := 5) Q.u rfl rfl Q.b rfl) rfl rfl (bH _)) E.cJ)) Q.a) (t2 := .sh (.int (i : Nat))) (by rw [i2])) ?_
 refine b5 (Hw (aL E.bM) Q.b).1 (fun hp => ?_) (fun hp => ?_)
 . have hp := as6 hp
   by_cases hq0 : c % 4 = 0
   . have hq : decide (c % 4 = 0) = true := ata hq0
     have h8 : xQ (Rn p).length (5 + c % 4) = some 5 := by rw [as6 hq]; rfl
     have ajU : yW (p.is.map bX) (i : Int) = some (bX (p.is.getD i [])) := (fV [] Q.a Q.a).trans (by rw [atH])
     have hk : xQ ((p.is.map bX).map T.sh).length (i : Int) = some i := by rw [di]; exact pB Q.a
     have hrl : (p.is.getD i []).length <= 1000 := ath (Hu.d1 _ (as9 _ <| as9 _ (g8 Q.a))).1 Q.a
     refine c6 (aK (c_ ((p.is.getD i []).map F8, c / 300, F8 d) E.Cm E.pD (ao (HF (bu (ds := p.is.map bX) (c7 (p := [.ix 5]) (u := T.lst ((p.is.map bX).map T.sh)) (ck Q.u rfl rfl (ai (bW Q.b (aL E.bM))) h8) rfl rfl (bH _)) (aL E.eS) ajU) rfl) (ao (ai Q.G) (ao (aL E.jk) aG))) (by dsimp only [jS]; exact ⟨bS pA _, pA _, by rw [List.length_map]; exact hrl⟩) (by show D.cZ (dw _ _ _) = true; exact Ci (bS pA _) (pA _))) (t2 := .sh (bX (dw (c / 300 % (((p.is.getD i []).length : Int) + 1)).toNat d (p.is.getD i [])))) ?apD) (ck (p := []) (j := 5) Q.u rfl rfl (ai (bW Q.b (aL E.bM))) h8) (aL E.eS) rfl (tl := (p.is.map bX).map T.sh) rfl hk ?_
     case apD =>
       show T.sh (.tup (dw (c / 300 % ((((p.is.getD i []).map F8).length : Int) + 1)).toNat (F8 d) ((p.is.getD i []).map F8))) = _
       rw [as4, oH]
       rfl
     rw [fK]
     refine (ak (ak ⟨rfl, keepsP ?_⟩))
     rw [J2, atb (as6 hq)]
     rfl
   have hq : decide (c % 4 = 1) = true := ata Q.a
   have h8 : xQ (Rn p).length (5 + c % 4) = some 6 := by rw [as6 hq]; rfl
   have ajU : yW (p.os.map bX) (i : Int) = some (bX (p.os.getD i [])) := (fV [] Q.a Q.a).trans (by rw [atH])
   have hk : xQ ((p.os.map bX).map T.sh).length (i : Int) = some i := by rw [di]; exact pB Q.a
   have hrl : (p.os.getD i []).length <= 1000 := ath (Hu.d1 _ (as9 _ <| as7 _ (g8 Q.a))).1 Q.a
   refine c6 (aK (c_ ((p.os.getD i []).map F8, c / 300, F8 d) E.Cm E.pD (ao (HF (bu (ds := p.os.map bX) (c7 (p := [.ix 6]) (u := T.lst ((p.os.map bX).map T.sh)) (ck Q.u rfl rfl (ai (bW Q.b (aL E.bM))) h8) rfl rfl (bH _)) (aL E.eS) ajU) rfl) (ao (ai Q.G) (ao (aL E.jk) aG))) (by dsimp only [jS]; exact ⟨bS pA _, pA _, by rw [List.length_map]; exact hrl⟩) (by show D.cZ (dw _ _ _) = true; exact Ci (bS pA _) (pA _))) (t2 := .sh (bX (dw (c / 300 % (((p.os.getD i []).length : Int) + 1)).toNat d (p.os.getD i [])))) ?apE) (ck (p := []) (j := 6) Q.u rfl rfl (ai (bW Q.b (aL E.bM))) h8) (aL E.eS) rfl (tl := (p.os.map bX).map T.sh) rfl hk ?_
   case apE =>
     show T.sh (.tup (dw (c / 300 % ((((p.os.getD i []).map F8).length : Int) + 1)).toNat (F8 d) ((p.os.getD i []).map F8))) = _
     rw [as4, oH]
     rfl
   rw [fK]
   refine (ak (ak ⟨rfl, keepsP ?_⟩))
   rw [J2, as5 (by rw [as6 hq]; decide), atb (as6 hq)]
   rfl
 have hp := atd hp
 have n0 : ¬ c % 4 = 0 := by omega
 have n1 : ¬ c % 4 = 1 := by omega
 refine b5 (bI (aL E.bM) Q.b).1 (fun hp2 => ?_) (fun hp2 => ?_)
 . have n2 := as6 hp2
   by_cases hr : c / 4 % 2 = 0
   . skip
     have h8 : xQ (Rn p).length (5 + c / 4 % 2) = some 5 := by rw [hr]; rfl
     refine wu (p := [.ix 5]) (Rk := (p.is.map bX).map T.sh) (tl := (p.is.map bX).map T.sh) Q.aC rfl rfl (aK (bG (ds := []) bK Q.i) (t2 := .sh (bX [])) rfl) rfl rfl (by rw [di]; omega) ?_
     rw [pM]
     show dY X CL b _ [some (.pin y (uw { p with is := p.is ++ [[]] })), some (.sh (.int c)), some (.sh (F8 d)), some (.sh (.int (c % 4))), some (.sh (.int (i : Nat))), none] _
     refine b5 (bI Q.U Q.b).1 (fun hz => ?_) (fun hz => (ak (ak (ak (ak ⟨rfl, keepsP ?_⟩)))))
     . refine c6 (qP (ds := (p.is ++ [[]]).map bX) (c7 (p := [.ix 5]) (u := T.lst (((p.is ++ [[]]).map bX).map T.sh)) Q.aC rfl rfl (bH _)) (bS iY _) oZ (pe (ai Q.A))) Q.u (ai (bW Q.b Q.U)) rfl rfl h8 (ak (ak (ak (ak ⟨rfl, keepsP ?_⟩))))
       rw [WU, as4, ← ava, J2, as5 n0, as5 n1, atb n2, atb hr]
       unfold Ed
       rw [atb (as6 hz)]
       rfl
     . rw [J2, as5 n0, as5 n1, atb n2, atb hr]
       unfold Ed
       rw [as5 (atd hz)]
   have hr : c / 4 % 2 = 1 := by omega
   have h8 : xQ (Rn p).length (5 + c / 4 % 2) = some 6 := by rw [hr]; rfl
   refine wu (p := [.ix 6]) (Rk := (p.os.map bX).map T.sh) (tl := (p.os.map bX).map T.sh) Q.aC rfl rfl (aK (bG (ds := []) bK Q.i) (t2 := .sh (bX [])) rfl) rfl rfl (by rw [di]; omega) ?_
   rw [pM]
   show dY X CL b _ [some (.pin y (uw { p with os := p.os ++ [[]] })), some (.sh (.int c)), some (.sh (F8 d)), some (.sh (.int (c % 4))), some (.sh (.int (i : Nat))), none] _
   refine b5 (bI Q.U Q.b).1 (fun hz => ?_) (fun hz => (ak (ak (ak (ak ⟨rfl, keepsP ?_⟩)))))
   . refine c6 (qP (ds := (p.os ++ [[]]).map bX) (c7 (p := [.ix 6]) (u := T.lst (((p.os ++ [[]]).map bX).map T.sh)) Q.aC rfl rfl (bH _)) (bS iY _) oZ (pe (ai Q.A))) Q.u (ai (bW Q.b Q.U)) rfl rfl h8 (ak (ak (ak (ak ⟨rfl, keepsP ?_⟩))))
     rw [WU, as4, ← ava, J2, as5 n0, as5 n1, atb n2, as5 (by rw [hr]; decide)]
     unfold Ed
     rw [atb (as6 hz)]
     rfl
   . rw [J2, as5 n0, as5 n1, atb n2, as5 (by rw [hr]; decide)]
     unfold Ed
     rw [as5 (atd hz)]
 have n2 := atd hp2
 refine bf E.g E.wQ aj ?_
 have e : RP (.lst (p.ws.map jK)) (.lst []) = decide (p.ws = []) := by
   cases p.ws with
   | nil => decide +kernel
   | cons q l => rw [atn (fun z => by cases z)]; rfl
 refine Hy (fun δ => δ = [some (.pin y (uw p)), some (.sh (.int c)), some (.sh (F8 d)), some (.sh (.int (c % 4))), some (.sh (.int (i : Nat))), some (.sh (.int (Im p.ws)))]) (Lx E.u (d2 := .lst []) Q.bj (bJ (ds := []) (cR cV (atx _))) (Ym.deps (hA.stw Q.a)) (pJ [])).1 (fun hz => ?yes) (fun hz => ak ?no) ?_
 case yes =>
   have ZS : p.ws ≠ [] := atd (e.symm.trans (ZZ hz))
   refine bf E.g E.wQ (aK (b7 (dN (HF (bu (ds := p.ws.map jK) Q.bj (ai Q.A) (aft ZS)) rfl) Q.b rfl) rfl) (t2 := .sh (.int (Im p.ws))) ?leq) (ak rfl)
   case leq =>
     unfold Im
     rw [List.getLast?_eq_some_getLast ZS]
 case no =>
   have ZS : p.ws = [] := as6 (e.symm.trans (nbT hz))
   rw [ZS]
   rfl
 rintro δ rfl
 refine wu (p := [.ix 7]) (Rk := (p.ws.map jK).map T.sh) (tl := (p.ws.map jK).map T.sh) (ck (j := 7) Q.u rfl rfl Q.b rfl) rfl rfl (aK (bG (ds := [.int (Im p.ws), .str "go", .tup [], .tup [.tup [.str "call", .str "go"], F8 d], .int (-1), .str "new"]) (ay (v_ E.wQ.1) (ay bz (ay (bG (ds := []) bK Q.i) (ay (bG (ds := [.tup [.str "call", .str "go"], F8 d]) (ay (bG (ay bz (ay bz bK)) Q.i) (ay (v_ E.jk.1) bK)) Q.i) (ay Q.A (ay bz bK)))))) Q.i) (t2 := .sh (jK ⟨Im p.ws, "go", [], [.call "go", d], -1, "new"⟩)) rfl) rfl rfl (by rw [di]; omega) (ak (ak (ak ⟨rfl, keepsP ?_⟩)))
 rw [pM, J2, as5 n0, as5 n1, as5 n2]
 rfl
theorem eG : pQ (az qt) ([("parts", aF), ("cell", aF), ("deed", aF), ("way", aF), ("at", aF), ("source", aF), ("_law_bad_deed", aE), ("len", aE), ("_law_put_in", aE)]) = true := Q.f
theorem zf : aZ ["parts", "cell", "deed", "way", "at", "source"] ["parts", "cell"] (az qt) := bB
abbrev yj : Stmt := top 65
abbrev yk : Type := Int × Nat × Nat
def rX : yk -> List L3.D := fun (c, m, n) => [.int c, .int m, .int n]
def rY : yk -> Prop := fun (c, m, n) => True
def rZ : yk -> T := fun (c, m, n) => (.sh (xX (wB c m n)) : T)
structure Yz (X : Cx) (CL : Q.g) : Prop extends cT X where
 aH : Ln X 0 "cell"
 bq : Ln X 1 "many"
 eV : Ln X 2 "moods"
 bM : Ln X 3 "way"
 i6 : Gl X "_law_bad_term"
 qX : Fc X CL "_law_bad_term" 1 2 mO mP mQ
theorem YB {b : Bx} (E : Yz X CL) {cz : yk} (h : rY cz) :
   aN X CL b yj ["cell", "many", "moods", "way"] (rX cz) (rZ cz) := by
 obtain ⟨c, m, n⟩ := cz
 dsimp only [aN, rY, rX, rZ] at h ⊢
 have a0 := atw (c / 4) (b := 2) Q.c
 have a1 := atp (c / 4) (b := 2) Q.c
 have d0 := atw (c / 4) (b := 4) Q.c
 have d1 := atp (c / 4) (b := 4) Q.c
 have f0 := atw (c / 4 / 2) (b := 2) Q.c
 have f1 := atp (c / 4 / 2) (b := 2) Q.c
 refine bf E.g E.bM Q.P ?_
 refine bf E.g E.aH Q.G ?_
 refine b5 (bI (aL E.bM) Q.b).1 (fun hp => ?_) (fun hp => ak ?_)
 . refine bx (bG (ds := [.str ((["open", "shut"] : List Str).getD (c / 4 % 2).toNat Str.empty), .int (([(n : Int), -1] : List Int).getD (c / 4 / 2 % 2).toNat 0)]) (ay (b7 (bu (bJ (fO (iD (l := (["open", "shut"] : List Str)) rfl) Q.i)) (ai Q.P) (fV Str.empty (l := (["open", "shut"] : List Str)) a0 (show c / 4 % 2 < 2 by omega))) rfl) (ay (b7 (bu (bJ (aK (cR (bA (v_ E.eV.1) (bA Q.A cV)) Q.i) (t2 := .lst ((([(n : Int), -1] : List Int).map .int).map T.sh)) rfl)) Q.U (fH (bs := [(n : Int), -1]) (k := c / 4 / 2 % 2) f0 (show c / 4 / 2 % 2 < 2 by omega))) rfl) bK)) Q.i) ?_
   unfold wB
   rw [atb (as6 hp)]
   rfl
 have n0 := atd hp
 refine b5 (bI (aL E.bM) Q.b).1 (fun hp => ?_) (fun hp => ak ?_)
 . refine bx (bG (ds := [.str (baL.getD (c / 4 % 4).toNat Str.empty), .tup [.int (-1), .int 1], .tup [.int (-1), .int 2]]) (ay (b7 (bu (bJ (fO (iD (l := baL) rfl) Q.i)) (ai Q.P) (fV Str.empty (l := baL) d0 (show c / 4 % 4 < 4 by omega))) rfl) (ay Q.aF (ay Q.aF bK))) Q.i) ?_
   unfold wB
   rw [as5 n0, atb (as6 hp)]
   rfl
 have n1 := atd hp
 refine b5 (bI (aL E.bM) Q.b).1 (fun hp => ?_) (fun hp => ak ?_)
 . refine bx (bG (ds := [.str "<=", .tup [.int (qS (c / 4) m).1, .int (qS (c / 4) m).2], .tup [.int (-1), .int 0]]) (ay bz (ay (aK (c_ (c / 4, m) E.qX E.i6 (ao (aL E.aH) (ao (aL E.bq) aG)) trivial rfl) rfl) (ay Q.aF bK))) Q.i) ?_
   unfold wB
   rw [as5 n0, as5 n1, atb (as6 hp)]
   rfl
 have n2 := atd hp
 refine bx (bG (ds := [.str "!=", .tup [.int (-1), .int 0], .tup [.int (qS (c / 4) m).1, .int (qS (c / 4) m).2]]) (ay bz (ay Q.aF (ay (aK (c_ (c / 4, m) E.qX E.i6 (ao (aL E.aH) (ao (aL E.bq) aG)) trivial rfl) rfl) bK))) Q.i) ?_
 unfold wB
 rw [as5 n0, as5 n1, as5 n2]
 rfl
theorem rg : pQ (az yj) ([("cell", aF), ("many", aF), ("moods", aF), ("way", aF), ("_law_bad_term", aE)]) = true := Q.f
theorem S6 : aZ ["cell", "many", "moods", "way"] ["cell", "many", "moods"] (az yj) := bB
def wyL (w : pR) : List L3.D := [.int w.src, .str w.sign, .tup (w.al.map xX), bX w.dl, .int w.tgt, .str w.mode]
theorem Qk (w : pR) : D.cZ (wyL w) = true := GH fun d hd => by
 simp only [wyL, atl, att, avi] at hd
 rcases hd with rfl | rfl | rfl | rfl | rfl | rfl
 . rfl
 . rfl
 . exact tK w.al
 . exact iY w.dl
 . rfl
 . rfl
theorem ajW {b : Bx} {fS : List Stmt} {D : g6} {δr : Q.n} {y a : Addr} (l : List pR) (k : dY X CL b fS (some (.pin y (uw { p with ws := l })) :: δr) D) : dY X CL b fS (some (.pin y (.lst ((Rn p).set 7 (.pin a (.lst ((l.map jK).map T.sh)))))) :: δr) D := KN (i := 0) (u := .lst ((l.map jK).map T.sh)) 7 rfl rfl k
theorem S7 (q : ZW) : (xX q).qc = true := by cases q <;> rfl
abbrev r6 : Stmt := top 66
abbrev r9 : Type := Addr × Pt × Int × Nat
def kY : r9 -> List T := fun (y, p, c, B) => [.pin y (uw p), .sh (.int c)]
def je : r9 -> List T := fun (y, p, c, B) => [.pin y (uw (kI p c)), .sh (.int c)]
def pF : r9 -> Prop := fun (y, p, c, B) => qa 4 B p /\ B <= 100
def kZ : r9 -> T := fun (y, p, c, B) => (.sh .non : T)
structure Ql (X : Cx) (CL : Q.g) : Prop extends cT X where
 aO : Ln X 0 "parts"
 aH : Ln X 1 "cell"
 eV : Ln X 2 "moods"
 qW : Ln X 3 "ways"
 eS : Ln X 4 "at"
 bM : Ln X 5 "way"
 dD : Ln X 6 "kind"
 cJ : Gl X "len"
 fX : Gl X "list"
 dU : Gl X "_law_bad_name"
 pD : Gl X "_law_put_in"
 IJ : Gl X "_law_bad_ask"
 rR : Gl X "tuple"
 cF : X.mg "len" = none
 fY : X.mg "list" = none
 jR : Fc X CL "_law_bad_name" 1 2 iH iI iJ
 Cm : Fc X CL "_law_put_in" 1 3 qY jS qZ
 YC : Fc X CL "_law_bad_ask" 2 3 rX rY rZ
 rS : X.mg "tuple" = none
theorem Qm {b : Bx} (E : Ql X CL) (y p c B) (h : pF (y, p, c, B)) :
   dY X CL b (dW r6) (wo ["parts", "cell", "moods", "ways", "at", "way", "kind"] (kY (y, p, c, B))) { nx := fun δ => kZ (y, p, c, B) = .sh .non /\ Keeps δ (je (y, p, c, B)), rt := fun LV δ => LV = kZ (y, p, c, B) /\ Keeps δ (je (y, p, c, B)) } := by
 dsimp only [pF, kY, kZ, je] at h ⊢
 obtain ⟨hA, hB⟩ := h
 have Hu := hA.sh
 have bw := Hu.w1
 have gl : ("go" : Str).length <= 2000 := Q.f
 refine bf E.g E.eV (cG (n := p.nm.length) (as4 ..) E.cF Q.bb E.cJ) ?_
 have e : RP (.lst (p.ws.map jK)) (.lst []) = decide (p.ws = []) := by
   cases p.ws with
   | nil => decide +kernel
   | cons q l => rw [atn (fun z => by cases z)]; rfl
 refine Hy (fun δ => δ = [some (.pin y (uw { p with ws := Bh p.ws })), some (.sh (.int c)), some (.sh (.int p.nm.length)), none, none, none, none]) (aaY E.u (d2 := .lst []) Q.bj (bJ (ds := []) (cR cV (atx _))) (Ym.deps (hA.stw Q.a)) (pJ [])).1 (fun hz => ?yes) (fun hz => ak ?no) ?_
 case yes =>
   have e0 : p.ws = [] := as6 (e.symm.trans hz)
   refine wu (p := [.ix 7]) (Rk := (p.ws.map jK).map T.sh) (tl := (p.ws.map jK).map T.sh) (ck (j := 7) Q.u rfl rfl Q.b rfl) rfl rfl (aK (bG (ds := [.int 0, .str "go", .tup [], .tup [], .int 0, .str "new"]) (ay aj (ay bz (ay (bG (ds := []) bK Q.i) (ay (bG (ds := []) bK Q.i) (ay aj (ay bz bK)))))) Q.i) (t2 := .sh (jK Wi)) rfl) rfl rfl (by rw [di]; omega) (ak ?_)
   rw [pM, e0]
   unfold Bh
   rw [atb rfl]
   rfl
 case no =>
   unfold Bh
   rw [as5 (atd (e.symm.trans hz))]
   rfl
 rintro δ rfl
 have abJ := Wn p.ws
 have esp : kI p c = { p with ws := zE (Bh p.ws) c p.bs.length p.nm.length } := rfl
 have hal : ∀ w ∈ Bh p.ws, w.al.length <= 200 := by
   unfold Bh
   split
   . intro w hw; cases atD.mp hw; exact atx _
   . exact fun w hw => ath (Hu.w2 w hw).2 Q.a
 have hl2 : (Bh p.ws).length <= 200 := by
   unfold Bh
   split
   . show 1 <= 200; omega
   . omega
 rw [esp]
 generalize Bh p.ws = l at *
 refine Wc E.g E.qW (tl2 := (l.map jK).map T.sh) (ck (j := 7) Q.u rfl rfl Q.b rfl) rfl rfl (by exact atf rfl) fun a => ?_
 obtain ⟨i, hi⟩ : ∃ i : Nat, i = (c / 9 % (l.length : Int)).toNat := ⟨_, rfl⟩
 obtain ⟨i1, i2⟩ : i < l.length /\ (i : Int) = c / 9 % (l.length : Int) := by rw [hi]; exact gT (c / 9) abJ
 show dY X CL b _ [some (.pin y (.lst ((Rn p).set 7 (.pin a (.lst ((l.map jK).map T.sh)))))), some (.sh (.int c)), some (.sh (.int p.nm.length)), some (.sh (.val (.ref a))), none, none, none] _
 refine bf E.g E.eS (aK (aQ (ai Q.G) (ai (cG (n := l.length) (as4 ..) E.cF (c7 (p := [.ix 7]) (u := T.lst ((l.map jK).map T.sh)) (g7 (i := 0) (j := 7) E.qW.1 rfl rfl rfl) rfl rfl (bH _)) E.cJ)) Q.a) (t2 := .sh (.int (i : Nat))) (by rw [i2])) ?_
 have hat : yW (l.map jK) (i : Int) = some (jK (l.getD i Wi)) := (fV Wi Q.a Q.a).trans (by rw [atH])
 have Yx : zE l c p.bs.length p.nm.length = (if c % 9 = 8 then l ++ [w01] else l).set i (sR (c / 1000) (c % 9) p.bs.length p.nm.length (l.getD i Wi)) := by
   rw [hi]
   rfl
 have hqa : (l.getD i Wi).al.length <= 200 := hal _ (g8 i1)
 generalize l.getD i Wi = w at *
 have k0 := atw c (b := 9) Q.c
 have k1 := atp c (b := 9) Q.c
 refine bf E.g E.bM (aK (Kx E.fY (ds := wyL w) (b7 (bu (ds := l.map jK) (c7 (p := [.ix 7]) (u := T.lst ((l.map jK).map T.sh)) (g7 (i := 0) (j := 7) E.qW.1 rfl rfl rfl) rfl rfl (bH _)) (aL E.eS) hat) (show D.cZ (wyL w) = true from Qk w)) E.fX cN) (t2 := .lst ((wyL w).map T.sh)) rfl) ?_
 refine bf E.g E.dD Q.P ?_
 refine bf E.g E.aH Q.G ?_
 obtain ⟨C, hC⟩ : ∃ C : Int, C = c / 1000 := ⟨_, rfl⟩
 have c20 := atw (c / 1000) (b := 2) Q.c
 have c21 := atp (c / 1000) (b := 2) Q.c
 have c30 := atw (c / 1000) (b := 3) Q.c
 have c31 := atp (c / 1000) (b := 3) Q.c
 refine Hy (fun δ => δ = [some (.pin y (.lst ((Rn p).set 7 (.pin a (.lst (((if c % 9 = 8 then l ++ [w01] else l).map jK).map T.sh)))))), some (.sh (.int (c / 1000))), some (.sh (.int p.nm.length)), some (.sh (.val (.ref a))), some (.sh (.int (i : Nat))), some (.lst ((wyL (sR (c / 1000) (c % 9) p.bs.length p.nm.length w)).map T.sh)), some (.sh (.int (c % 9)))]) (Hw (aL E.dD) Q.b).1 (fun hp => ?_) (fun Yg => ?_) ?rest
 . have hk := as6 hp
   have e8 : ¬ c % 9 = 8 := by omega
   have eb : sR (c / 1000) (c % 9) p.bs.length p.nm.length w = { w with src := ([-1, (p.nm.length : Int), (p.nm.length : Int) + 1] : List Int).getD (c % 9).toNat 0 } := by unfold sR; rw [atb hk]
   refine c6 (b7 (bu (bJ (aK (cR (bA Q.A (bA (v_ E.eV.1) (bA (bW (aL E.eV) Q.b) cV))) Q.i) (t2 := .lst ((([-1, (p.nm.length : Int), (p.nm.length : Int) + 1] : List Int).map .int).map T.sh)) rfl)) (aL E.dD) (fH (bs := [-1, (p.nm.length : Int), (p.nm.length : Int) + 1]) (k := c % 9) k0 (show c % 9 < 3 by omega))) rfl) (aW E.bM.1 rfl) Q.b rfl rfl (j := 0) rfl (ak ?_)
   rw [eb, as5 e8]
   rfl
 refine b5 (bI (aL E.dD) Q.b).1 (fun hp => ?_) (fun hp3 => ?_)
 . have hk := as6 hp
   have e8 : ¬ c % 9 = 8 := by omega
   have eb : sR (c / 1000) (c % 9) p.bs.length p.nm.length w = { w with sign := qf (c / 1000) "go" } := by rw [hk]; rfl
   refine c6 (aK (c_ (c / 1000, ("go" : Str)) E.jR E.dU (ao (aL E.aH) (ao (ai bz) aG)) gl rfl) (t2 := .sh (.str (qf (c / 1000) "go"))) rfl) (aW E.bM.1 rfl) Q.b rfl rfl (j := 1) rfl (ak (ak ?_))
   rw [eb, as5 e8]
   rfl
 refine b5 (bI (aL E.dD) Q.b).1 (fun hp => ?_) (fun hp4 => ?_)
 . have hk := as6 hp
   have e8 : ¬ c % 9 = 8 := by omega
   have eb : sR (c / 1000) (c % 9) p.bs.length p.nm.length w = { w with tgt := ([(p.nm.length : Int), -2] : List Int).getD (c / 1000 % 2).toNat 0 } := by rw [hk]; rfl
   refine c6 (b7 (bu (bJ (aK (cR (bA (v_ E.eV.1) (bA Q.A cV)) Q.i) (t2 := .lst ((([(p.nm.length : Int), -2] : List Int).map .int).map T.sh)) rfl)) (ai Q.P) (fH (bs := [(p.nm.length : Int), -2]) (k := c / 1000 % 2) c20 (show c / 1000 % 2 < 2 by omega))) rfl) (aW E.bM.1 rfl) Q.b rfl rfl (j := 4) rfl (ak (ak (ak ?_)))
   rw [eb, as5 e8]
   rfl
 refine b5 (bI (aL E.dD) Q.b).1 (fun hp => ?_) (fun hp5 => ?_)
 . have hk := as6 hp
   have e8 : ¬ c % 9 = 8 := by omega
   have eb : sR (c / 1000) (c % 9) p.bs.length p.nm.length w = { w with mode := (["", "fresh", "New"] : List Str).getD (c / 1000 % 3).toNat Str.empty } := by rw [hk]; rfl
   refine c6 (b7 (bu (bJ (fO (iD (l := (["", "fresh", "New"] : List Str)) rfl) Q.i)) (ai Q.P) (fV Str.empty (l := (["", "fresh", "New"] : List Str)) c30 (show c / 1000 % 3 < 3 by omega))) rfl) (aW E.bM.1 rfl) Q.b rfl rfl (j := 5) rfl (ak (ak (ak (ak ?_))))
   rw [eb, as5 e8]
   rfl
 refine b5 (bI (aL E.dD) Q.b).1 (fun hp => ?_) (fun hp6 => ?_)
 . have hk := as6 hp
   have e8 : ¬ c % 9 = 8 := by omega
   have eb : sR (c / 1000) (c % 9) p.bs.length p.nm.length w = { w with tgt := -1, mode := (["near", "far"] : List Str).getD (c / 1000 % 2).toNat Str.empty } := by rw [hk]; rfl
   refine c6 Q.A (aW E.bM.1 rfl) Q.b rfl rfl (j := 4) rfl ?_
   refine c6 (b7 (bu (bJ (fO (iD (l := (["near", "far"] : List Str)) rfl) Q.i)) (ai Q.P) (fV Str.empty (l := (["near", "far"] : List Str)) c20 (show c / 1000 % 2 < 2 by omega))) rfl) (aW E.bM.1 rfl) Q.b rfl rfl (j := 5) rfl (ak (ak (ak (ak (ak ?_)))))
   rw [eb, as5 e8]
   rfl
 refine b5 (bI (aL E.dD) Q.b).1 (fun hp => ?_) (fun hp7 => ?_)
 . have hk := as6 hp
   have e8 : ¬ c % 9 = 8 := by omega
   have eb : sR (c / 1000) (c % 9) p.bs.length p.nm.length w = { w with al := dw (c / 1000 % ((w.al.length : Int) + 1)).toNat (wB (c / 1000 / 4) p.bs.length p.nm.length) w.al } := by rw [hk]; rfl
   refine c6 (aK (c_ (w.al.map xX, c / 1000, xX (wB (c / 1000 / 4) p.bs.length p.nm.length)) E.Cm E.pD (ao (bu (ds := wyL w) (vL E.bM.1) Q.b (d := .tup (w.al.map xX)) rfl) (ao (aL E.aH) (ao (ai (aK (c_ (c / 1000 / 4, p.bs.length, p.nm.length) E.YC E.IJ (ao (ai Q.G) (ao (ai (cG (n := p.bs.length) (List.length_map ..) E.cF (c7 (p := [.ix 0]) (ck (j := 0) Q.u rfl rfl Q.b rfl) rfl rfl (bH _)) E.cJ)) (ao (aL E.eV) aG))) trivial (by show (xX _).qc = true; exact S7 _)) (t2 := .sh (xX (wB (c / 1000 / 4) p.bs.length p.nm.length))) rfl)) aG))) (by dsimp only [jS]; exact ⟨tK w.al, S7 _, by rw [List.length_map]; omega⟩) (by show D.cZ (dw _ _ _) = true; exact Ci (tK w.al) (S7 _))) (t2 := .sh (.tup ((dw (c / 1000 % ((w.al.length : Int) + 1)).toNat (wB (c / 1000 / 4) p.bs.length p.nm.length) w.al).map xX))) ?apF) (aW E.bM.1 rfl) Q.b rfl rfl (j := 2) rfl (ak (ak (ak (ak (ak (ak ?_))))))
   case apF =>
     show T.sh (.tup (dw (c / 1000 % (((w.al.map xX).length : Int) + 1)).toNat (xX (wB (c / 1000 / 4) p.bs.length p.nm.length)) (w.al.map xX))) = _
     rw [as4, oH]
   rw [eb, as5 e8]
   rfl
 . have e8 : c % 9 = 8 := by
     have a0 := atd Yg
     have a3 := atd hp3
     have a4 := atd hp4
     have a5 := atd hp5
     have a6 := atd hp6
     have a7 := atd hp7
     omega
   have eb : sR (c / 1000) (c % 9) p.bs.length p.nm.length w = { w with src := 1 } := by rw [e8]; rfl
   refine c6 aj (aW E.bM.1 rfl) Q.b rfl rfl (j := 0) rfl ?_
   refine wu (p := [.ix 7]) (Rk := (l.map jK).map T.sh) (tl := (l.map jK).map T.sh) (g7 (i := 0) (j := 7) E.qW.1 rfl rfl rfl) rfl rfl (aK (bG (ds := [.int 0, .str "go", .tup [], .tup [], .int (-1), .str "new"]) (ay aj (ay bz (ay (bG (ds := []) bK Q.i) (ay (bG (ds := []) bK Q.i) (ay Q.A (ay bz bK)))))) Q.i) (t2 := .sh (jK w01)) rfl) rfl rfl (by rw [di]; omega) (ak (ak (ak (ak (ak (ak ?_))))))
   rw [pM, eb, atb e8]
   rfl
 case rest =>
   rintro δ rfl
   have hk2 : xQ (((if c % 9 = 8 then l ++ [w01] else l).map jK).map T.sh).length (i : Int) = some i := by
     rw [di]
     refine pB ?_
     split
     . rw [ats]; omega
     . exact i1
   refine c6 (aK (tG E.rS (vL E.bM.1) (Qk _) E.rR) (t2 := .sh (jK (sR (c / 1000) (c % 9) p.bs.length p.nm.length w))) rfl) (g7 (i := 0) (j := 7) E.qW.1 rfl rfl rfl) (aL E.eS) rfl (tl := ((if c % 9 = 8 then l ++ [w01] else l).map jK).map T.sh) rfl hk2 ?_
   rw [fK]
   refine ajW (a := a) (p := p) _ (ak ⟨rfl, keepsP ?_⟩)
   rw [Yx]
theorem cY : pQ (az r6) ([("parts", aF), ("cell", aF), ("moods", aF), ("ways", aF), ("at", aF), ("way", aF), ("kind", aF), ("len", aE), ("list", aE), ("_law_bad_name", aE), ("_law_put_in", aE), ("_law_bad_ask", aE), ("tuple", aE)]) = true := Q.f
theorem Cp : aZ ["parts", "cell", "moods", "ways", "at", "way", "kind"] ["parts", "cell"] (az r6) := bB
abbrev G6 : Stmt := top 67
abbrev G7 : Type := Addr × Pt × Nat × Int × Nat
def tP : G7 -> List T := fun (y, p, w, c, B) => [.pin y (uw p), .sh (.int w), .sh (.int c)]
def qG : G7 -> List T := fun (y, p, w, c, B) => [.pin y (uw (spK w p c)), .sh (.int w), .sh (.int c)]
def ym : G7 -> Prop := fun (y, p, w, c, B) => qa w B p /\ B <= 100 /\ w <= 4
def tQ : G7 -> T := fun (y, p, w, c, B) => (.sh .non : T)
structure afu (X : Cx) (CL : Q.g) : Prop extends cT X where
 aO : Ln X 0 "parts"
 sd : Ln X 1 "which"
 aH : Ln X 2 "cell"
 Cq : Gl X "_law_spoil_tree"
 Cr : Gl X "_law_spoil_name"
 Eg : Gl X "_law_spoil_box"
 Ct : Gl X "_law_spoil_deed"
 Eh : Gl X "_law_spoil_way"
 MJ : FcM X CL "_law_spoil_tree" 1 2 jN mK jO g9
 MK : FcM X CL "_law_spoil_name" 2 2 jP mL jQ ia
 Qn : FcM X CL "_law_spoil_box" 2 2 kW pC kX jd
 ML : FcM X CL "_law_spoil_deed" 3 2 jT mR jU ic
 Qo : FcM X CL "_law_spoil_way" 3 2 kY pF kZ je
theorem afv {b : Bx} (E : afu X CL) (y p w c B) (h : ym (y, p, w, c, B)) :
   dY X CL b (dW G6) (wo ["parts", "which", "cell"] (tP (y, p, w, c, B))) { nx := fun δ => tQ (y, p, w, c, B) = .sh .non /\ Keeps δ (qG (y, p, w, c, B)), rt := fun LV δ => LV = tQ (y, p, w, c, B) /\ Keeps δ (qG (y, p, w, c, B)) } := by
 dsimp only [ym, tP, tQ, qG] at h ⊢
 obtain ⟨hA, hB, hw⟩ := h
 refine b5 (bI (aL E.sd) Q.b).1 (fun hp => ?_) (fun Yg => ?_)
 . have e : w = 0 := by have := as6 hp; omega
   subst e
   exact xW (cMp (t := .sh .non) (y, p, c, B) (.pin y (uw (dP p c))) E.MJ E.Cq (Px E.aO.1 rfl (HQ (v_ E.aH.1) D3)) ⟨hA, hB⟩ rfl ⟨rfl, .inr rfl, trivial⟩) (ak (ak ⟨rfl, D4 (ds := [_, _])⟩))
 refine b5 (bI (aL E.sd) Q.b).1 (fun hp => ?_) (fun ZV => ?_)
 . have e : w = 1 := by have := as6 hp; omega
   subst e
   exact xW (cMp (t := .sh .non) (y, p, c, B) (.pin y (uw (iF p c))) E.MK E.Cr (Px E.aO.1 rfl (HQ (v_ E.aH.1) D3)) ⟨hA, hB⟩ rfl ⟨rfl, .inr rfl, trivial⟩) (ak (ak (ak ⟨rfl, D4 (ds := [_, _])⟩)))
 refine b5 (bI (aL E.sd) Q.b).1 (fun hp => ?_) (fun hp2 => ?_)
 . have e : w = 2 := by have := as6 hp; omega
   subst e
   exact xW (cMp (t := .sh .non) (y, p, c, B) (.pin y (uw (rQ p c))) E.Qn E.Eg (Px E.aO.1 rfl (HQ (v_ E.aH.1) D3)) ⟨hA, hB⟩ rfl ⟨rfl, .inr rfl, trivial⟩) (ak (ak (ak (ak ⟨rfl, D4 (ds := [_, _])⟩))))
 refine b5 (bI (aL E.sd) Q.b).1 (fun hp => ?_) (fun hp3 => ?_)
 . have e : w = 3 := by have := as6 hp; omega
   subst e
   exact xW (cMp (t := .sh .non) (y, p, c, B) (.pin y (uw (gQ p c))) E.ML E.Ct (Px E.aO.1 rfl (HQ (v_ E.aH.1) D3)) ⟨hA, hB⟩ rfl ⟨rfl, .inr rfl, trivial⟩) (ak (ak (ak (ak (ak ⟨rfl, D4 (ds := [_, _])⟩)))))
 . have e : w = 4 := by
     have a0 := atd Yg
     have a1 := atd ZV
     have a2 := atd hp2
     have a3 := atd hp3
     omega
   subst e
   exact xW (cMp (t := .sh .non) (y, p, c, B) (.pin y (uw (kI p c))) E.Qo E.Eh (Px E.aO.1 rfl (HQ (v_ E.aH.1) D3)) ⟨hA, hB⟩ rfl ⟨rfl, .inr rfl, trivial⟩) (ak (ak (ak (ak (ak ⟨rfl, D4 (ds := [_, _])⟩)))))
theorem pO : pQ (az G6) ([("parts", aF), ("which", aF), ("cell", aF), ("_law_spoil_tree", aE), ("_law_spoil_name", aE), ("_law_spoil_box", aE), ("_law_spoil_deed", aE), ("_law_spoil_way", aE)]) = true := Q.f
theorem Qp : aZ ["parts", "which", "cell"] ["parts", "which", "cell"] (az G6) := bB
abbrev se : Stmt := inClass (top 21) 0
abbrev wU : Type := List Str × List Int × List Int
def zg : wU -> List L3.D := fun (ks, es, ss) => [.lst (ks.map .str), .lst (es.map .int), .lst (ss.map .int)]
def zj : wU -> Prop := fun (ks, es, ss) => True
def zk : wU -> List Q.t := fun (ks, es, ss) => (BJ ks es ss : List Q.t)
structure Qq (X : Cx) (CL : Q.g) : Prop extends cT X where
 sU : Ln X 0 "self"
 qi : Ln X 1 "kinds"
 dI : Ln X 2 "elders"
 tL : Ln X 3 "starts"
 fX : Gl X "list"
 fY : X.mg "list" = none
 eZ : DQ X.K (CL "Tree")
 iK : bQ X.K (CL "Tree") "kinds"
 bY : bQ X.K (CL "Tree") "elders"
 k6 : bQ X.K (CL "Tree") "starts"
theorem Qs {b : Bx} (E : Qq X CL) (ks : Q.h) (es ss : Q.e) (y : Addr) (h : True) :
   dY X CL b (dW se) (aa2 ["self", "kinds", "elders", "starts"] y "Tree" [.lst (ks.map .str), .lst (es.map .int), .lst (ss.map .int)]) { nx := fun δ => δ[0]? = some (some (.pin y (.ins "Tree" (BJ ks es ss)))), rt := fun _ _ => False } := by
 have hi : D.cZ (ks.map L3.D.str) = true := bS (fun _ => rfl) _
 refine BE E.eZ E.iK E.sU.1 (fj E.fY (aL E.qi) hi E.fX cN) rfl (atf rfl) ?_
 rw [mH]
 refine BE E.eZ E.bY E.sU.1 (fj E.fY (aL E.dI) (gi _) E.fX cN) rfl (atf rfl) ?_
 rw [c9 Q.d, mH]
 refine BE E.eZ E.k6 E.sU.1 (fj E.fY (aL E.tL) (gi _) E.fX cN) rfl (atf rfl) ?_
 rw [c9 Q.d, c9 Q.d, mH]
 exact ak rfl
theorem mS : pQ (az se) ([("self", aF), ("kinds", aF), ("elders", aF), ("starts", aF), ("list", aE)]) = true := Q.f
theorem Cu : aZ ["self", "kinds", "elders", "starts"] ["self", "kinds", "elders", "starts"] (az se) := bB
abbrev qv : Stmt := inClass (top 11) 0
abbrev uK : Type := List L3.D × List L3.D × V × List L3.D × List L3.D × List L3.D
def wV : uK -> List L3.D := fun (bs, nm, tv, is, os, ws) => [.lst bs, .lst nm, .val tv, .lst is, .lst os, .lst ws]
def wW : uK -> Prop := fun (bs, nm, tv, is, os, ws) => D.cZ bs = true /\ D.cZ nm = true /\ D.cZ is = true /\ D.cZ os = true /\ D.cZ ws = true
def wX : uK -> List Q.t := fun (bs, nm, tv, is, os, ws) => (wA bs nm (.sh (.val tv)) is os ws : List Q.t)
structure MN (X : Cx) (CL : Q.g) : Prop extends cT X where
 sU : Ln X 0 "self"
 fP : Ln X 1 "boxes"
 dX : Ln X 2 "names"
 dF : Ln X 3 "tree"
 WR : Ln X 4 "ins"
 Mw : Ln X 5 "outs"
 qW : Ln X 6 "ways"
 fX : Gl X "list"
 fY : X.mg "list" = none
 b8 : DQ X.K Q.F
 fD : bQ X.K Q.F "boxes"
 cI : bQ X.K Q.F "names"
 qw : bQ X.K Q.F "tree"
 sf : bQ X.K Q.F "ins"
 qx : bQ X.K Q.F "outs"
 mU : bQ X.K Q.F "ways"
theorem MP {b : Bx} (E : MN X CL) (bs nm : List L3.D) (tv : V) (is os ws : List L3.D) (y : Addr) (h : D.cZ bs = true /\ D.cZ nm = true /\ D.cZ is = true /\ D.cZ os = true /\ D.cZ ws = true) :
   dY X CL b (dW qv) (aa2 ["self", "boxes", "names", "tree", "ins", "outs", "ways"] y "Chart" [.lst bs, .lst nm, .val tv, .lst is, .lst os, .lst ws]) { nx := fun δ => δ[0]? = some (some (.pin y (.ins "Chart" (wA bs nm (.sh (.val tv)) is os ws)))), rt := fun _ _ => False } := by
 obtain ⟨h1, h2, h3, h4, h5⟩ := h
 refine BE E.b8 E.fD E.sU.1 (fj E.fY (aL E.fP) h1 E.fX cN) rfl (atf rfl) ?_
 rw [mH]
 refine BE E.b8 E.cI E.sU.1 (fj E.fY (aL E.dX) h2 E.fX cN) rfl (atf rfl) ?_
 rw [c9 Q.d, mH]
 refine BE E.b8 E.qw E.sU.1 (v_ E.dF.1) rfl (atf rfl) ?_
 rw [c9 Q.d, c9 Q.d, mH]
 refine BE E.b8 E.sf E.sU.1 (fj E.fY (aL E.WR) h3 E.fX cN) rfl (atf rfl) ?_
 rw [c9 Q.d, c9 Q.d, c9 Q.d, mH]
 refine BE E.b8 E.qx E.sU.1 (fj E.fY (aL E.Mw) h4 E.fX cN) rfl (atf rfl) ?_
 rw [c9 Q.d, c9 Q.d, c9 Q.d, c9 Q.d, mH]
 refine BE E.b8 E.mU E.sU.1 (fj E.fY (aL E.qW) h5 E.fX cN) rfl (atf rfl) ?_
 rw [c9 Q.d, c9 Q.d, c9 Q.d, c9 Q.d, c9 Q.d, mH]
 exact ak rfl
theorem fE : pQ (az qv) ([("self", aF), ("boxes", aF), ("names", aF), ("tree", aF), ("ins", aF), ("outs", aF), ("ways", aF), ("list", aE)]) = true := Q.f
theorem zl : aZ ["self", "boxes", "names", "tree", "ins", "outs", "ways"] ["self", "boxes", "names", "tree", "ins", "outs", "ways"] (az qv) := bB
abbrev G8 : Stmt := top 68
abbrev G9 : Type := Q.D × List Str × List Str × List Int × List Int × List (List pV) × List (List pV) × List pR
def yo : G9 -> List L3.D := fun (bs, nm, ks, es, ss, is, os, ws) => [prV bs nm ks es ss is os ws]
def yp : G9 -> Prop := fun (bs, nm, ks, es, ss, is, os, ws) => True
def yq : G9 -> T := fun (bs, nm, ks, es, ss, is, os, ws) => (.ins "Chart" (wA (bs.map kL) (nm.map .str) (.ins "Tree" (BJ ks es ss)) (is.map bX) (os.map bX) (ws.map jK)) : T)
structure afw (X : Cx) (CL : Q.g) : Prop extends cT X where
 aO : Ln X 0 "parts"
 dF : Ln X 1 "tree"
 ajX : Gl X "Tree"
 fX : Gl X "list"
 afx : Gl X "Chart"
 ajY : Fm X CL "Tree" 1 4 zg zj zk
 fY : X.mg "list" = none
 afy : Fm X CL "Chart" 1 7 wV wW wX
theorem afz {b : Bx} (E : afw X CL) {cz : G9} (h : yp cz) :
   aN X CL b G8 ["parts", "tree"] (yo cz) (yq cz) := by
 obtain ⟨bs, nm, ks, es, ss, is, os, ws⟩ := cz
 dsimp only [aN, yp, yo, yq] at h ⊢
 have ib : D.cZ (bs.map kL) = true := bS (fun _ => rfl) _
 have ii : ∀ l : List (List pV), D.cZ (l.map bX) = true := fun l => bS iY l
 have iw : D.cZ (ws.map jK) = true := bS (fun w => by
   show (true && (true && (D.cZ (w.al.map xX) && ((bX w.dl).qc && (true && (true && true)))))) = true
   rw [show D.cZ (w.al.map xX) = true from tK w.al, iY]
   rfl) _
 refine bf E.g E.dF (aK (mk_ (ks, es, ss) E.ajY E.ajX (ao (bJ (fj E.fY (bu (aL E.aO) Q.b (b6 (j := 2) rfl)) (pH _) E.fX cN)) (ao (bJ (fj E.fY (bu (aL E.aO) Q.b (b6 (j := 3) rfl)) (gi _) E.fX cN)) (ao (bJ (fj E.fY (bu (aL E.aO) Q.b (b6 (j := 4) rfl)) (gi _) E.fX cN)) aG))) trivial (FT ks es ss)) (t2 := .ins "Tree" (BJ ks es ss)) rfl) ?_
 exact bx (mkP (f := "tree") (Pu := D7 (bs.map kL) (nm.map .str)) (ZT := D8 (is.map bX) (os.map bX) (ws.map jK)) (fun v => (bs.map kL, nm.map .str, v, is.map bX, os.map bX, ws.map jK)) E.afy E.afx
   (Pw (bJ (fj E.fY (bu (aL E.aO) Q.b (b6 (j := 0) rfl)) ib E.fX cN)) (Pw (bJ (fj E.fY (bu (aL E.aO) Q.b (b6 (j := 1) rfl)) (pH _) E.fX cN))
     (abd (vM E.dF.1)
       (ao (bJ (fj E.fY (bu (aL E.aO) Q.b (b6 (j := 5) rfl)) (ii is) E.fX cN)) (ao (bJ (fj E.fY (bu (aL E.aO) Q.b (b6 (j := 6) rfl)) (ii os) E.fX cN)) (ao (bJ (fj E.fY (bu (aL E.aO) Q.b (b6 (j := 7) rfl)) iw E.fX cN)) aG))))))
   (fun v => rfl) (fun v => ⟨ib, pH _, ii is, ii os, iw⟩) (fun v => rfl) (L5 ib (pH _)) (L6 (ii is) (ii os) iw)) rfl
theorem wY : pQ (az G8) ([("parts", aF), ("tree", aF), ("Tree", aE), ("list", aE), ("Chart", aE)]) = true := Q.f
theorem ach : aZ ["parts", "tree"] ["parts"] (az G8) := bB
abbrev Hf : Stmt := top 22
abbrev Hg : Type := List Str × List Int × List Int × Int
def tR : Hg -> List L3.D := fun (ks, es, ss, m) => [fJ ks es ss, .int m]
def qH : Hg -> Prop := fun (ks, es, ss, m) => Sf es m /\ 0 <= m /\ m < es.length /\ es.length <= 1000
def tS : Hg -> T := fun (ks, es, ss, m) => (.lst (((oB es m).map .int).map T.sh) : T)
structure afA (X : Cx) (CL : Q.g) : Prop extends cT X where
 dF : Ln X 0 "tree"
 kM : Ln X 1 "mood"
 uz : Ln X 2 "found"
 sj : Ln X 3 "elder"
 eZ : DQ X.K (CL "Tree")
 bY : bQ X.K (CL "Tree") "elders"
theorem afB {b : Bx} (E : afA X CL) {cz : Hg} (h : qH cz) :
   aN X CL b Hf ["tree", "mood", "found", "elder"] (tR cz) (tS cz) := by
 obtain ⟨ks, es, ss, m⟩ := cz
 dsimp only [aN, qH, tR, tS] at h ⊢
 obtain ⟨ht, h0, h1, hlen⟩ := h
 refine bf E.g E.uz (cR cV (atx _)) ?_
 refine bf E.g E.sj (b7 (bu Q.ax (aL E.kM) (fH h0 h1)) rfl) ?_
 have hm := ht.at h0 h1 (avb _)
 refine V2 E.g (fun n δ => ∃ (k : Int) (l : Q.e), δ = [some (.sh (fJ ks es ss)), some (.sh (.int m)), some (.lst ((l.map .int).map T.sh)), some (.sh (.int k))] /\ -1 <= k /\ k < n /\ k < m /\ l ++ D5 n es k = oB es m /\ l.length + n <= es.length + 1) (es.length + 1)
   ⟨es.getD m.toNat 0, [], rfl, hm.1, by omega, by omega, rfl, by simp⟩ ?_
 rintro n δ ⟨k, l, rfl, k0, k1, k2, k3, k4⟩
 refine ⟨_, _, (pU (aL E.sj) (ai Q.A)).1, fun hp => ?_, fun hp => ?_⟩
 . have hk : ¬ k = -1 := by simpa using hp
   have ha := ht.at (k := k) Q.a Q.a Q.a
   cases n with
   | zero => omega
   | succ n =>
     refine y9 E.uz.1 rfl (v_ E.sj.1) rfl Q.Z ?_
     refine bf E.g E.sj (b7 (bu Q.ax (aL E.sj) (fH Q.a Q.a)) rfl) ?_
     refine ak ⟨n, au8 _, es.getD k.toNat 0, l ++ [k], ?_, ha.1, by omega, by omega, ?_, by simp; omega⟩
     . show [_, _, some (T.lst (((l.map D.int).map T.sh) ++ [T.sh (.int k)])), _] = _
       simp
     . rw [← k3, D5, as5 hk, atc]
       rfl
 . have hk : k = -1 := by simpa using hp
   subst hk
   have e : l = oB es m := by
     rw [← k3]
     cases n with
     | zero => rw [D5, atY]
     | succ n => rw [D5, atb rfl, atY]
   subst e
   exact bx (vM E.uz.1) rfl
theorem Cv : pQ (az Hf) ([("tree", aF), ("mood", aF), ("found", aF), ("elder", aF)]) = true := Q.f
theorem aci : aZ ["tree", "mood", "found", "elder"] ["tree", "mood"] (az Hf) := bB
abbrev Hh : Stmt := top 23
abbrev Hi : Type := List Str × List Int × List Int × Int
def yr : Hi -> List L3.D := fun (ks, es, ss, m) => [fJ ks es ss, .int m]
def tU : Hi -> Prop := fun (ks, es, ss, m) => Sf es m /\ 0 <= m /\ m < es.length /\ es.length <= 1000
def yt : Hi -> T := fun (ks, es, ss, m) => (.sh (.int ((oB es m).length : Nat)) : T)
structure afC (X : Cx) (CL : Q.g) : Prop extends cT X where
 dF : Ln X 0 "tree"
 kM : Ln X 1 "mood"
 cJ : Gl X "len"
 Cw : Gl X "above"
 cF : X.mg "len" = none
 MQ : Fc X CL "above" 1 2 tR qH tS
theorem afD {b : Bx} (E : afC X CL) {cz : Hi} (h : tU cz) :
   aN X CL b Hh ["tree", "mood"] (yr cz) (yt cz) := by
 obtain ⟨ks, es, ss, m⟩ := cz
 dsimp only [aN, tU, yr, yt] at h ⊢
 have hl : ((oB es m).map L3.D.int).length = (oB es m).length := by simp
 exact bx (cG hl E.cF (bJ (c_ (ks, es, ss, m) E.MQ E.Cw (ao (aL E.dF) (ao (aL E.kM) aG)) h (by show (T.lst _).clean = true; rw [tF]; exact FH _))) E.cJ) rfl
theorem Cy : pQ (az Hh) ([("tree", aF), ("mood", aF), ("len", aE), ("above", aE)]) = true := Q.f
theorem acj : aZ ["tree", "mood"] ["tree", "mood"] (az Hh) := bB
abbrev iL : Stmt := top 31
abbrev iM : Type := List Str × List Int × List Int
def gy : iM -> List L3.D := fun (ks, es, ss) => [fJ ks es ss]
def eN : iM -> Prop := fun (ks, es, ss) => 1 <= es.length /\ es.length <= 900
def gA : iM -> T := fun (ks, es, ss) => (.sh (.bl (GN es (es.length - 1))) : T)
structure zJ (X : Cx) (CL : Q.g) : Prop extends cT X where
 dF : Ln X 0 "tree"
 kM : Ln X 1 "mood"
 ack : Ln X 2 "line"
 cW : Gl X "range"
 cJ : Gl X "len"
 Cw : Gl X "above"
 MR : Gl X "depth"
 YD : Gl X "DEEPEST"
 cX : X.mg "range" = none
 cF : X.mg "len" = none
 MQ : Fc X CL "above" 1 2 tR qH tS
 afE : Fc X CL "depth" 2 2 yr tU yt
 YF : ∃ u, X.mg "DEEPEST" = some (.int 12 u)
 eZ : DQ X.K (CL "Tree")
 bY : bQ X.K (CL "Tree") "elders"
theorem zK {b : Bx} (E : zJ X CL) {cz : iM} (h : eN cz) :
   aN X CL b iL ["tree", "mood", "line"] (gy cz) (gA cz) := by
 obtain ⟨ks, es, ss⟩ := cz
 dsimp only [aN, eN, gy, gA] at h ⊢
 obtain ⟨h1, h2⟩ := h
 refine b5 (pU (i := es.getD 0 0) (bu Q.ax Q.b (fH Q.a Q.a)) (ai Q.A)).1 (fun hq => ?_) (fun hq => ak ?_)
 . have e : GN es 0 = false := by
     show decide (es.getD 0 0 = -1) = false
     have hq : (!decide (es.getD 0 0 = -1)) = true := hq
     cases hd : decide (es.getD 0 0 = -1) with
     | false => rfl
     | true => rw [hd] at hq; cases hq
   exact bx gf (by rw [BO (atx _) e])
 have e0 : GN es 0 = true := by
   show decide (es.getD 0 0 = -1) = true
   have hq : (!decide (es.getD 0 0 = -1)) = false := hq
   cases hd : decide (es.getD 0 0 = -1) with
   | false => rw [hd] at hq; cases hq
   | true => rfl
 refine oA E.g E.kM (fun j δ => ∃ o1 o2, GN es j = true /\ δ = [some (.sh (fJ ks es ss)), o1, o2])
   (DV E.cX Q.b (ai (cG (as4 ..) E.cF Q.ax E.cJ)) Q.a E.cW) ⟨_, _, e0, rfl⟩ Q.aX ?turn ?fin
 case turn =>
   rintro j d δ hj ⟨o1, o2, hE, rfl⟩
   obtain ⟨rfl, FU⟩ := kR hj
   have FU : j + 1 < es.length := by simp at FU; omega
   have hT := Ik Q.a hE
   have ha := hT.at (k := (j : Int)) Q.a Q.a Q.a
   have hcl : (oB es (j : Int)).length <= es.length + 1 := L1 _ _ _
   have ej : (1 + (j : Int)) - 1 = (j : Int) := by omega
   refine bf E.g E.ack (aK (ug (ds := [.int (j : Int)]) (V1 := (oB es (j : Int)).map .int) (bJ (ds := [.int (j : Int)]) (aK (cR (bA (dZ (aL E.kM) Q.b) cV) Q.i) (by rw [ej]; rfl))) (bJ (aK (c_ (ks, es, ss, (j : Int)) E.MQ E.Cw (ao (aL E.dF) (ao (HF (ai (dZ (aL E.kM) Q.b)) (congrArg L3.D.int ej)) aG)) (by dsimp only [qH]; exact ⟨hT, by omega, by omega, by omega⟩) (lD _)) rfl)) rfl (gi _) (Nat.le_of_lt (cS Q.Z))) (t2 := .lst ((((j : Int) :: oB es (j : Int)).map .int).map T.sh)) rfl) ?_
   have en : (1 + (j : Int)).toNat = j + 1 := by omega
   have e1j : (1 + (j : Int)) = (j : Int) + 1 := by omega
   have eB : GN es (j + 1) = (decide Q.aJ && decide ((oB es (1 + (j : Int))).length <= 12)) := by
     rw [GN, hE, en, e1j]
     rfl
   refine b5 (ua (tD (q := decide (((oB es (1 + (j : Int))).length : Int) > 12)) (aeb (i := es.getD (1 + (j : Int)).toNat 0) (bu Q.ax (aL E.kM) (fH Q.a Q.a)) (vL E.ack.1) rfl rfl).1 (fun hn => wg (O2 (ai (aK (c_ (ks, es, ss, 1 + (j : Int)) E.afE E.MR (ao (aL E.dF) (ao (aL E.kM) aG)) ?pd rfl) (t2 := .sh (.int ((oB es (1 + (j : Int))).length : Nat))) rfl)) (ai (kT E.YF E.YD))).1))) (fun hq => ?_) (fun hq => ak (ak ⟨_, _, ?_, rfl⟩))
   case pd =>
     dsimp only [tU]
     refine ⟨fun k hk hm => ?_, by omega, by omega, by omega⟩
     by_cases e : k = j + 1
     . subst e
       have hn : (!decide Q.aJ) = false := hn
       have hin : es.getD (1 + (j : Int)).toNat 0 ∈ (j : Int) :: oB es (j : Int) := as6 (nbT hn)
       rw [en] at hin
       rcases atl.mp hin with z | z
       . omega
       . have := hT.uq (es.length + 1) ha.1 Q.a Q.a _ z
         omega
     . exact hT k hk Q.a
   . refine bx gf ?_
     have hq : (!decide Q.aJ || decide (((oB es (1 + (j : Int))).length : Int) > 12)) = true := hq
     have e : GN es (j + 1) = false := by
       rw [eB]
       cases hd : decide Q.aJ with
       | false => rfl
       | true =>
         rw [hd] at hq
         have : ((oB es (1 + (j : Int))).length : Int) > 12 := as6 hq
         rw [atn Q.a]
         rfl
     rw [BO (j := es.length - 1) Q.a e]
   . have hq : (!decide Q.aJ || decide (((oB es (1 + (j : Int))).length : Int) > 12)) = false := hq
     rw [aup] at hq
     rw [eB, show decide Q.aJ = true from nbT hq.1, ata (by have := atd hq.2; omega)]
     rfl
 case fin =>
   rintro δ ⟨o1, o2, hE, rfl⟩
   have e : (cO 1 (((es.length : Nat) : Int) - 1).toNat).length = es.length - 1 := by simp [cO]
   have hE2 : GN es (es.length - 1) = true := by
     first
       | (rw [e] at hE; exact hE)
       | (simp [cO] at hE; exact hE)
   exact bx gf (by rw [hE2])
theorem cK : pQ (az iL) ([("tree", aF), ("mood", aF), ("line", aF), ("range", aE), ("len", aE), ("above", aE), ("depth", aE), ("DEEPEST", aE)]) = true := Q.f
theorem yS : aZ ["tree", "mood", "line"] ["tree"] (az iL) := bB
abbrev jr : Stmt := top 32
abbrev jt : Type := List Str × List Int × List Int
def gU : jt -> List L3.D := fun (ks, es, ss) => [fJ ks es ss]
def fq : jt -> Prop := fun (ks, es, ss) => ks.length <= 900 /\ es.length <= 900
def gV : jt -> T := fun (ks, es, ss) => (.sh (.bl (Se ks es)) : T)
structure Cz (X : Cx) (CL : Q.g) : Prop extends cT X where
 dF : Ln X 0 "tree"
 uL : Ln X 1 "with_inner"
 sj : Ln X 2 "elder"
 kM : Ln X 3 "mood"
 dD : Ln X 4 "kind"
 wZ : Gl X "enumerate"
 afF : Gl X "KINDS"
 w4 : X.mg "enumerate" = none
 MS : GT X "KINDS" ["leaf", "one", "all"]
 eZ : DQ X.K (CL "Tree")
 bY : bQ X.K (CL "Tree") "elders"
 iK : bQ X.K (CL "Tree") "kinds"
theorem CB {b : Bx} (E : Cz X CL) {cz : jt} (h : fq cz) :
   aN X CL b jr ["tree", "with_inner", "elder", "mood", "kind"] (gU cz) (gV cz) := by
 obtain ⟨ks, es, ss⟩ := cz
 dsimp only [aN, fq, gU, gV] at h ⊢
 obtain ⟨h1, h2⟩ := h
 refine bf E.g E.uL aem ?_
 refine oA E.g E.sj (fun j δ => ∃ o2 o3 o4, δ = [some (.sh (fJ ks es ss)), some (.vC (ZY (adds (es.take j)))), o2, o3, o4])
   (ud (HC E.eZ E.bY (v_ E.dF.1) fC)) ⟨_, _, _, rfl⟩ Q.aX ?turn ?fin
 case turn =>
   rintro j d δ hj ⟨o2, o3, o4, rfl⟩
   obtain ⟨x, rfl, _, _, FU, _, htk⟩ := aiH hj
   have hl := (Eb (es.take j) []).1
   have hl2 : (es.take j).length <= 900 := by rw [at9]; omega
   have hkl : (ZY (adds (es.take j))).length <= 1000000 := by unfold ZY adds; rw [as4]; simp at hl; omega
   refine aiO (.inl x) E.u E.uL.1 gf (aL E.sj) rfl hkl (ak ?_)
   rw [aeD, ← Yj, ← htk]
   exact ⟨_, _, _, rfl⟩
 case fin =>
 rintro δ ⟨o2, o3, o4, rfl⟩
 rw [as4, List.take_length]
 have hin : ∀ x : Int, decide (x ∈ adds es) = decide (x ∈ es) := fun x => decide_eq_decide.mpr (((Eb es []).2 x).trans Q.r)
 refine aa4 E.g (V6 E.g.nd E.g.calm E.kM E.dD) (fun j δ => ∃ o2 o3 o4, yQ (kdO ks es) (List.range ks.length) j /\ δ = [some (.sh (fJ ks es ss)), some (.vC (ZY (adds es))), o2, o3, o4])
   (Pp (f := L3.D.str) (l := ks) Str.empty E.w4 (HC E.eZ E.iK (v_ E.dF.1) zB) E.wZ) ⟨_, _, _, .zero, rfl⟩ (fun j δ ⟨_, _, _, _, e⟩ => by subst e; intro i hi; simp only [atl, att, avi] at hi; rcases hi with rfl | rfl <;> exact atf rfl) ?P9 ?fin2
 case P9 =>
   rintro j d δ hj ⟨o2, o3, o4, hU, rfl⟩
   obtain ⟨i, hij, rfl⟩ : ∃ i, (List.range ks.length)[j]? = some i /\ _ = d := by rw [atE] at hj; exact auc.mp hj
   have him : i ∈ List.range ks.length := at6 hij
   have hil : i < ks.length := atP.mp him
   refine ⟨_, rfl, ?_⟩
   refine b5 (ua (tD (V4 (l := Ec) (aL E.dD) (ai (BG E.MS E.afF)) rfl rfl).1 (fun _ => wg (alB (w1 := .bl (decide (ks.getD i Str.empty = "leaf"))) (w2 := .bl (decide ((i : Int) ∈ es))) (ai (qN (aL E.dD) (ai bz)).2) (ai (aK (aiW (.inl (i : Int)) E.u (aL E.kM) (vE E.uL.1 rfl (by rw [T.iU])) rfl) (t2 := .sh (.bl (decide ((i : Int) ∈ es)))) (congrArg (fun z => T.sh (.bl z)) ((aeE _ _).trans (hin _))))) rfl rfl rfl).1))) (fun hp => ?_) (fun hp => ak (ak ⟨_, _, _, hU.next hij ?_, rfl⟩))
   . refine bx gf ?_
     unfold Se
     rw [F7 (p := kdO ks es) him ?_]
     unfold kdO
     generalize decide (ks.getD i Str.empty ∈ Ec) = b1 at hp ⊢
     generalize decide (ks.getD i Str.empty = "leaf") = b2 at hp ⊢
     generalize decide ((i : Int) ∈ es) = b3 at hp ⊢
     revert hp
     cases b1 <;> cases b2 <;> cases b3 <;> first | (intro _; rfl) | (intro hp; simp at hp)
   . unfold kdO
     generalize decide (ks.getD i Str.empty ∈ Ec) = b1 at hp ⊢
     generalize decide (ks.getD i Str.empty = "leaf") = b2 at hp ⊢
     generalize decide ((i : Int) ∈ es) = b3 at hp ⊢
     revert hp
     cases b1 <;> cases b2 <;> cases b3 <;> first | (intro _; rfl) | (intro hp; simp at hp)
 case fin2 =>
   rintro δ ⟨o2, o3, o4, hU, rfl⟩
   refine bx gf ?_
   unfold Se
   rw [yQ.all (by simpa using hU)]
theorem dG : pQ (az jr) ([("tree", aF), ("with_inner", aF), ("elder", aF), ("mood", aF), ("kind", aF), ("enumerate", aE), ("KINDS", aE)]) = true := Q.f
theorem zL : aZ ["tree", "with_inner", "elder", "mood", "kind"] ["tree"] (az jr) := bB
abbrev uM : Stmt := top 42
abbrev uN : Type := Int × List L3.D
def gB : uN -> List L3.D := fun (i, ds) => [.int i, .lst ds]
def gC : uN -> Prop := fun (i, ds) => True
def gD : uN -> T := fun (i, ds) => (.sh (.bl (rP i ds.length)) : T)
structure S8 (X : Cx) (CL : Q.g) : Prop extends cT X where
 IK : Ln X 0 "number"
 II : Ln X 1 "row"
 cJ : Gl X "len"
 cF : X.mg "len" = none
theorem S9 {b : Bx} (E : S8 X CL) {cz : uN} (h : gC cz) :
   aN X CL b uM ["number", "row"] (gB cz) (gD cz) := by
 obtain ⟨i, ds⟩ := cz
 dsimp only [aN, gC, gB, gD] at h ⊢
 exact bx (ag4 ald VC Q.b (aL E.IK) (ai (cG rfl E.cF (aL E.II) E.cJ)) (by with_unfolding_all rfl)).2 rfl
theorem w6 : pQ (az uM) ([("number", aF), ("row", aF), ("len", aE)]) = true := Q.f
theorem Qt : aZ ["number", "row"] ["number", "row"] (az uM) := bB
abbrev iN : Stmt := top 33
abbrev iO : Type := List Str × List Int × List Int
def gE : iO -> List L3.D := fun (ks, es, ss) => [fJ ks es ss]
def eO : iO -> Prop := fun (ks, es, ss) => ks.length = es.length /\ ss.length = es.length /\ es.length <= 900
def gF : iO -> T := fun (ks, es, ss) => (.sh (.bl (PK ks es ss)) : T)
structure zM (X : Cx) (CL : Q.g) : Prop extends cT X where
 dF : Ln X 0 "tree"
 kM : Ln X 1 "mood"
 CD : Ln X 2 "start"
 wZ : Gl X "enumerate"
 d9 : Gl X "is_place"
 w4 : X.mg "enumerate" = none
 fL : Fc X CL "is_place" 1 2 gB gC gD
 eZ : DQ X.K (CL "Tree")
 k6 : bQ X.K (CL "Tree") "starts"
 iK : bQ X.K (CL "Tree") "kinds"
 bY : bQ X.K (CL "Tree") "elders"
theorem zN {b : Bx} (E : zM X CL) {cz : iO} (h : eO cz) :
   aN X CL b iN ["tree", "mood", "start"] (gE cz) (gF cz) := by
 obtain ⟨ks, es, ss⟩ := cz
 dsimp only [aN, eO, gE, gF] at h ⊢
 obtain ⟨h1, h2, h3⟩ := h
 refine aa4 E.g (V6 E.g.nd E.g.calm E.kM E.CD) (fun j δ => ∃ o1 o2, yQ (Z6 ks es ss) (List.range ss.length) j /\ δ = [some (.sh (fJ ks es ss)), o1, o2])
   (Pp (f := L3.D.int) (l := ss) 0 E.w4 (HC E.eZ E.k6 (v_ E.dF.1) FQ) E.wZ) ⟨_, _, .zero, rfl⟩ (fun j δ ⟨_, _, _, e⟩ => by subst e; intro i hi; simp only [atl, att, avi] at hi; rcases hi with rfl | rfl <;> exact atf rfl) ?turn ?fin
 case turn =>
   rintro j d δ hj ⟨o1, o2, hU, rfl⟩
   obtain ⟨i, hij, rfl⟩ : ∃ i, (List.range ss.length)[j]? = some i /\ _ = d := by rw [atE] at hj; exact auc.mp hj
   have him : i ∈ List.range ss.length := at6 hij
   have hil : i < ss.length := atP.mp him
   refine ⟨_, rfl, ?_⟩
   have hk : yW (ks.map L3.D.str) (i : Int) = some (.str (ks.getD i Str.empty)) := (fV Str.empty Q.a Q.a).trans (by rw [atH])
   have bad : Z6 ks es ss i = false -> (T.sh (.bl false)) = T.sh (.bl (PK ks es ss)) := fun e => by
     unfold PK
     rw [F7 (p := Z6 ks es ss) him e]
   refine b5 (aaQ (bu (dJ E.eZ E.iK (aL E.dF) zB) (aL E.kM) hk) (ai bz)).1 (fun hp => ?_) (fun hp => ?_)
   . have e1 : ¬ ks.getD i Str.empty = "one" := by simpa using hp
     refine b5 (pU (aL E.CD) (ai Q.A)).1 (fun hp => ?_) (fun hp => ak (ak (ak ⟨_, _, hU.next hij ?_, rfl⟩)))
     . refine bx gf (bad ?_)
       unfold Z6
       rw [as5 e1]
       simpa using hp
     . unfold Z6
       rw [as5 e1]
       simpa using hp
   . have e1 : ks.getD i Str.empty = "one" := by simpa using hp
     by_cases e2 : rP (ss.getD i 0) es.length = true
     . have e4 := e2
       unfold rP at e4
       rw [ato] at e4
       have p0 := as6 e4.1
       have p1 := as6 e4.2
       have eL : rP (ss.getD i 0) (es.map L3.D.int).length = true := by rw [as4]; exact e2
       refine b5 (ua (tD (gP (kQ (aK (c_ (ss.getD i 0, es.map L3.D.int) E.fL E.d9 (ao (aL E.CD) (ao Q.ax aG)) trivial rfl) (t2 := .sh (.bl true)) (congrArg (fun z => T.sh (.bl z)) eL)))) (fun _ => wg (pU (bu Q.ax (aL E.CD) (fH p0 p1)) (aL E.kM)).1))) (fun hp => ?_) (fun hp => ak (ak (ak ⟨_, _, hU.next hij ?_, rfl⟩)))
       . refine bx gf (bad ?_)
         unfold Z6
         rw [atb e1, e2]
         simpa using hp
       . unfold Z6
         rw [atb e1, e2]
         simpa using hp
     . have e2 : rP (ss.getD i 0) es.length = false := by simpa using e2
       have eL : rP (ss.getD i 0) (es.map L3.D.int).length = false := by rw [as4]; exact e2
       refine b5 (ua (tD (q := true) (gP (kQ (aK (c_ (ss.getD i 0, es.map L3.D.int) E.fL E.d9 (ao (aL E.CD) (ao Q.ax aG)) trivial rfl) (t2 := .sh (.bl false)) (congrArg (fun z => T.sh (.bl z)) eL)))) (fun hz => by cases hz))) (fun hp => ?_) Q.az
       refine bx gf (bad ?_)
       unfold Z6
       rw [atb e1, e2]
       rfl
 case fin =>
   rintro δ ⟨o1, o2, hU, rfl⟩
   refine bx gf ?_
   unfold PK
   rw [yQ.all (by simpa using hU)]
theorem fu : pQ (az iN) ([("tree", aF), ("mood", aF), ("start", aF), ("enumerate", aE), ("is_place", aE)]) = true := Q.f
theorem yT : aZ ["tree", "mood", "start"] ["tree"] (az iN) := bB
abbrev k9 : Stmt := top 30
abbrev lg : Type := List Str × List Int × List Int × List L3.D
def ju : lg -> List L3.D := fun (ks, es, ss, nm) => [fJ ks es ss, .lst nm]
def jv : lg -> Prop := fun (ks, es, ss, nm) => ks.length <= 900
def jw : lg -> T := fun (ks, es, ss, nm) => (.sh (.bl (BL ks es ss nm.length)) : T)
structure Gb (X : Cx) (CL : Q.g) : Prop extends cT X where
 dF : Ln X 0 "tree"
 dX : Ln X 1 "names"
 bq : Ln X 2 "many"
 cJ : Gl X "len"
 lG : Gl X "are_elders_right"
 mV : Gl X "are_kinds_right"
 lH : Gl X "are_starts_right"
 cF : X.mg "len" = none
 zO : Fc X CL "are_elders_right" 3 1 gy eN gA
 CF : Fc X CL "are_kinds_right" 1 1 gU fq gV
 zP : Fc X CL "are_starts_right" 2 1 gE eO gF
 eZ : DQ X.K (CL "Tree")
 iK : bQ X.K (CL "Tree") "kinds"
 bY : bQ X.K (CL "Tree") "elders"
 k6 : bQ X.K (CL "Tree") "starts"
theorem Gd {b : Bx} (E : Gb X CL) {cz : lg} (h : jv cz) :
   aN X CL b k9 ["tree", "names", "many"] (ju cz) (jw cz) := by
 obtain ⟨ks, es, ss, nm⟩ := cz
 dsimp only [aN, jv, ju, jw] at h ⊢
 refine bf E.g E.bq (cG (n := ks.length) (as4 ..) E.cF (dJ E.eZ E.iK (aL E.dF) zB) E.cJ) ?_
 refine b5 (ua (tD (bI (aL E.bq) Q.b).1 (fun _ => tD (pU (ai (cG (n := es.length) (as4 ..) E.cF Q.ax E.cJ)) (aL E.bq)).1 (fun _ => tD (pU (ai (cG (n := ss.length) (as4 ..) E.cF (dJ E.eZ E.k6 (aL E.dF) FQ) E.cJ)) (aL E.bq)).1 (fun _ => wg (pU (ai (cG (n := nm.length) rfl E.cF (aL E.dX) E.cJ)) (aL E.bq)).1))))) (fun hp => ?_) (fun hp => ak ?_)
 . refine bx gf ?_
   simp only [Bool.or_eq_true, Bool.not_eq_true', aur, avo] at hp
   unfold BL
   by_cases h1 : 0 < ks.length
   . by_cases h2 : es.length = ks.length
     . by_cases h3 : ss.length = ks.length
       . by_cases h4 : nm.length = ks.length
         . exfalso; omega
         . rw [atn h4, aua, atr, atr, atr]
       . rw [atn h3, aua, atr, atr]
     . rw [atn h2, aua, atr]
   . rw [atn h1, aua]
 simp only [aup, Bool.not_eq_false', aur, avo] at hp
 have h2 : es.length = ks.length := by omega
 have h3 : ss.length = ks.length := by omega
 refine bx (uc (aK (c_ (ks, es, ss) E.zO E.lG (ao (aL E.dF) aG) (by dsimp only [eN]; omega) rfl) (t2 := .sh (.bl (GN es (es.length - 1)))) rfl) (fun _ => uc (aK (c_ (ks, es, ss) E.CF E.mV (ao (aL E.dF) aG) (by dsimp only [fq]; omega) rfl) (t2 := .sh (.bl (Se ks es))) rfl) (fun _ => zv (aK (c_ (ks, es, ss) E.zP E.lH (ao (aL E.dF) aG) (by dsimp only [eO]; omega) rfl) (t2 := .sh (.bl (PK ks es ss))) rfl)))) ?_
 unfold BL
 rw [ata (show 0 < ks.length by omega), ata h2, ata h3, ata (show nm.length = ks.length by omega)]
 rfl
theorem ef : pQ (az k9) ([("tree", aF), ("names", aF), ("many", aF), ("len", aE), ("are_elders_right", aE), ("are_kinds_right", aE), ("are_starts_right", aE)]) = true := Q.f
theorem Ei : aZ ["tree", "names", "many"] ["tree", "names"] (az k9) := bB
abbrev yu : Stmt := top 12
abbrev Ej : Type := Str
def mC : Ej -> List L3.D := fun x => [.str x]
def mD : Ej -> Prop := fun x => x.length <= 1000
def mE : Ej -> T := fun x => (.sh (.bl (dO x)) : T)
structure YG (X : Cx) (CL : Q.g) : Prop extends cT X where
 IL : Ln X 0 "text"
 acm : Ln X 1 "sign"
 cJ : Gl X "len"
 IQ : Gl X "LONGEST_NAME"
 afG : Gl X "WORDS"
 YH : Gl X "LETTERS"
 vP : Gl X "LETTERS_AND_FIGURES"
 cF : X.mg "len" = none
 IU : ∃ u, X.mg "LONGEST_NAME" = some (.int 12 u)
 MT : GT X "WORDS" ["all", "and", "box", "call", "do", "far", "if", "in", "leaf", "near", "on", "one", "open", "out", "put", "say", "shut", "then", "to"]
 YJ : ∃ u, X.mg "LETTERS" = some (.str "abcdefghijklmnopqrstuvwxyz" u)
 vQ : ∃ u, X.mg "LETTERS_AND_FIGURES" = some (.str "abcdefghijklmnopqrstuvwxyz0123456789" u)
theorem YK {b : Bx} (E : YG X CL) {x} (h : mD x) :
   aN X CL b yu ["text", "sign"] (mC x) (mE x) := by
 dsimp only [aN, mD, mC, mE] at h ⊢
 have hz : x.length <= sizeLine := aub (cS h)
 refine b5 (ua (tD (qN (aL E.IL) (ai bz)).1 (fun hb => (tD (O2 (ai (ad3 E.cF (aL E.IL) (hz) E.cJ)) (ai (kT E.IU E.IQ))).1 (fun hb2 => (wg (V3 (aL E.IL) (ai (BG E.MT E.afG)) (rfl) rfl).1)))))) (fun hp => ?_) (fun hp => ak ?_)
 . refine bx gf ?_
   have hp : (decide (x = "") || (decide ((12 : Int) < (x.length : Nat)) || decide (x ∈ BK))) = true := hp
   show T.sh _ = T.sh (.bl (dO x))
   refine congrArg (fun z => T.sh (.bl z)) ?_
   simp only [Bool.or_eq_true, aur] at hp
   unfold dO
   rcases hp with z | z | z
   . subst z; decide +kernel
   . rw [atn (p := x.length <= 12) Q.a, aua, atr]
   . rw [ata z, Bool.not_true, aua, atr, atr]
 have hp : (decide (x = "") || (decide ((12 : Int) < (x.length : Nat)) || decide (x ∈ BK))) = false := hp
 simp only [aup, avo] at hp
 obtain ⟨h1, h2, h3⟩ := hp
 have hl1 : 1 <= x.length := by
   rcases Nat.eq_zero_or_pos x.length with z | z
   . exact absurd (aeC z) h1
   . exact z
 have hll : x.cps.toList.length = x.length := by simp [Str.length]
 have Yv : dO x = (isLt (x.cps.toList.getD 0 0) && x.cps.toList.all (fun c => isLt c || ur c)) := by
   unfold dO
   rw [ata hl1, ata (show x.length <= 12 by omega), atn h3]
   rfl
 refine b5 (FN (ai (aaU (aL E.IL) Q.b hz (aa1 0 Q.a Q.a))) (ai (Pq E.YJ E.YH)) rfl).1 (fun hp => ?_) (fun hp => ak ?_)
 . refine bx gf ?_
   rw [Ii] at hp
   have hp : (!isLt (x.cps.toList.getD 0 0)) = true := hp
   rw [Bool.not_eq_true'] at hp
   show T.sh _ = T.sh (.bl (dO x))
   rw [Yv, hp]
   rfl
 rw [Ii] at hp
 have hp : (!isLt (x.cps.toList.getD 0 0)) = false := hp
 rw [Bool.not_eq_false'] at hp
 refine oA E.g E.acm (fun j δ => (∃ o, δ = [some (.sh (.str x)), o]) /\ (x.cps.toList.take j).all (fun c => isLt c || ur c) = true)
   (aiJ (v_ E.IL.1)) ⟨⟨_, rfl⟩, rfl⟩ (fun j δ ⟨⟨_, e⟩, _⟩ => by subst e; exact atf rfl) ?turn ?fin
 case turn =>
   rintro j d δ hj ⟨⟨o, rfl⟩, XA⟩
   obtain ⟨c, rfl, hc⟩ := R8 hj
   refine b5 (FN (aL E.acm) (ai (Pq E.vQ E.vP)) rfl).1 (fun hq => ?_) (fun hq => ak (ak ⟨⟨_, rfl⟩, ?_⟩))
   . refine bx gf ?_
     rw [Wg] at hq
     have hq : (isLt c || ur c) = false := by simpa using hq
     show T.sh _ = T.sh (.bl (dO x))
     have ha : x.cps.toList.all (fun c => isLt c || ur c) = false := by
       rw [List.all_eq_false]
       exact ⟨c, at6 hc, by rw [hq]; decide⟩
     rw [Yv, ha, atr]
   . rw [Wg] at hq
     have hq : (!(isLt c || ur c)) = false := hq
     rw [Bool.not_eq_false'] at hq
     rw [au0, hc, auZ, XA]
     show (true && ([c].all fun c => isLt c || ur c)) = true
     rw [aun, hq]
     rfl
 case fin =>
   rintro δ ⟨⟨o, rfl⟩, XA⟩
   refine bx gf ?_
   rw [show (pI x).length = x.cps.toList.length by simp [pI], List.take_length] at XA
   show T.sh _ = T.sh (.bl (dO x))
   rw [Yv, hp, XA]
   rfl
theorem lI : pQ (az yu) ([("text", aF), ("sign", aF), ("len", aE), ("LONGEST_NAME", aE), ("WORDS", aE), ("LETTERS", aE), ("LETTERS_AND_FIGURES", aE)]) = true := Q.f
theorem Tc : aZ ["text", "sign"] ["text"] (az yu) := bB
abbrev jx : Stmt := top 34
abbrev mW : Type := List Str
def fz : mW -> List L3.D := fun l => [.lst (l.map .str)]
def cL : mW -> Prop := fun l => (∀ x ∈ l, x.length <= 1000) /\ l.length <= 1000
def fB : mW -> T := fun l => (.sh (.bl (lF l)) : T)
structure CG (X : Cx) (CL : Q.g) : Prop extends cT X where
 dX : Ln X 0 "names"
 jj : Ln X 1 "name"
 mF : Gl X "is_name"
 cJ : Gl X "len"
 amA : Gl X "set"
 qI : Fc X CL "is_name" 1 1 mC mD mE
 cF : X.mg "len" = none
 amB : X.mg "set" = none
theorem CH {b : Bx} (E : CG X CL) {l} (h : cL l) :
   aN X CL b jx ["names", "name"] (fz l) (fB l) := by
 dsimp only [aN, cL, fz, fB] at h ⊢
 obtain ⟨h1, h3⟩ := h
 refine oA E.g E.jj (fun j δ => ∃ o, yQ dO l j /\ δ = [some (.sh (.lst (l.map .str))), o]) (ud (v_ E.dX.1)) ⟨_, .zero, rfl⟩ Q.at ?turn ?fin
 case turn =>
   rintro j d δ hj ⟨o, hU, rfl⟩
   obtain ⟨x, hxj, rfl⟩ : ∃ x, l[j]? = some x /\ L3.D.str x = d := by rw [atE] at hj; exact auc.mp hj
   have hx : x ∈ l := at6 hxj
   refine b5 (gP (kQ (aK (c_ x E.qI E.mF (ao (aL E.jj) aG) (h1 x hx) rfl) (t2 := .sh (.bl (dO x))) rfl))) (fun hp => ?_) (fun hp => ak (ak ⟨_, hU.next hxj (by simpa using hp), rfl⟩))
   refine bx gf ?_
   unfold lF
   rw [F7 hx (by simpa using hp)]
   rfl
 case fin =>
   rintro δ ⟨o, hU, rfl⟩
   rw [as4] at hU
   refine bx (aK (bI (ai (R1 E.g E.cF E.amB (aL E.dX) h3 E.cJ E.amA)) (ai (cG (as4 ..) E.cF (aL E.dX) E.cJ))).2 (t2 := .sh (.bl (lF l))) (congrArg (fun z => T.sh (.bl z)) ?_)) rfl
   unfold lF
   rw [hU.all, Bool.true_and]
   refine decide_eq_decide.mpr ?_
   rw [← ai4]
   omega
theorem fM : pQ (az jx) ([("names", aF), ("name", aF), ("is_name", aE), ("len", aE), ("set", aE)]) = true := Q.f
theorem zQ : aZ ["names", "name"] ["names"] (az jx) := bB
abbrev qy : Stmt := top 43
abbrev uO : Type := Int
def jV : uO -> List L3.D := fun i => [.int i]
def jW : uO -> Prop := fun i => True
def jX : uO -> T := fun i => (.sh (.bl (Rm i)) : T)
structure MV (X : Cx) (CL : Q.g) : Prop extends cT X where
 IK : Ln X 0 "number"
theorem MX {b : Bx} (E : MV X CL) {i} (h : jW i) :
   aN X CL b qy ["number"] (jV i) (jX i) := by
 dsimp only [aN, jW, jV, jX] at h ⊢
 exact bx (ag4 VC VC (ai (cg (ai Q.O))) (aL E.IK) (ai Q.O) (by with_unfolding_all rfl)).2 rfl
theorem Kl : pQ (az qy) ([("number", aF)]) = true := Q.f
theorem Km : aZ ["number"] ["number"] (az qy) := bB
abbrev jy : Stmt := top 35
abbrev mX : Type := Q.D
def gW : mX -> List L3.D := fun l => [.lst (l.map kL)]
def dQ : mX -> Prop := fun l => (∀ q ∈ l, q.1.length <= 1000) /\ l.length <= 1000
def gX : mX -> T := fun l => (.sh (.bl (pK l)) : T)
structure CJ (X : Cx) (CL : Q.g) : Prop extends cT X where
 fP : Ln X 0 "boxes"
 IG : Ln X 1 "box"
 mY : Gl X "is_bounded"
 eW : Gl X "are_names_right"
 uP : Fc X CL "is_bounded" 1 1 jV jW jX
 jz : Fc X CL "are_names_right" 2 1 fz cL fB
theorem CK {b : Bx} (E : CJ X CL) {l} (h : dQ l) :
   aN X CL b jy ["boxes", "box"] (gW l) (gX l) := by
 dsimp only [aN, dQ, gW, gX] at h ⊢
 obtain ⟨h1, h3⟩ := h
 refine oA E.g E.IG (fun j δ => ∃ o, yQ (fun q : Str × Int => Rm q.2) l j /\ δ = [some (.sh (.lst (l.map kL))), o]) (ud (v_ E.fP.1)) ⟨_, .zero, rfl⟩ Q.at ?turn ?fin
 case turn =>
   rintro j d δ hj ⟨o, hU, rfl⟩
   obtain ⟨q, hqj, rfl⟩ : ∃ q, l[j]? = some q /\ kL q = d := by rw [atE] at hj; exact auc.mp hj
   refine b5 (gP (kQ (aK (c_ q.2 E.uP E.mY (ao (dN (aL E.IG) Q.b (b6 (j := 1) rfl)) aG) trivial rfl) (t2 := .sh (.bl (Rm q.2))) rfl))) (fun hp => ?_) (fun hp => ak (ak ⟨_, hU.next hqj (by simpa using hp), rfl⟩))
   refine bx gf ?_
   unfold pK
   rw [F7 (p := fun q : Str × Int => Rm q.2) (List.mem_of_getElem? hqj) (by simpa using hp)]
   rfl
 case fin =>
   rintro δ ⟨o, hU, rfl⟩
   rw [as4] at hU
   have hl : ∀ x ∈ l.map (·.1), x.length <= 1000 := fun x hx => by
     obtain ⟨q, hq, rfl⟩ := atj.mp hx
     exact h1 q hq
   refine bx (aK (c_ (l.map (·.1)) E.jz E.eW (ao (bJ (aK (rM (p := fun _ => true) (g := fun d => T.sh (.str d.at1.toS)) (d7 .nil Q.d) E.g.calm (ud (v_ E.fP.1)) (.inr rfl) (fun C s0 H0 f0 b' d hd => ?Ys) (Nat.le_of_lt (cS (by rw [List.length_map]; omega)))) ?ceq)) aG) (by dsimp only [cL]; exact ⟨hl, by rw [List.length_map]; exact h3⟩) rfl) (t2 := .sh (.bl (lF (l.map (·.1))))) rfl) ?res
   case Ys =>
     obtain ⟨q, hq, rfl⟩ := atj.mp hd
     exact ⟨rfl, fun _ => b7 (dN Q.af Q.b (b6 (j := 0) rfl)) rfl⟩
   case ceq =>
     rw [mz, atF, atF, atF]
     rfl
   case res =>
     unfold pK
     rw [hU.all]
     rfl
theorem iP : pQ (az jy) ([("boxes", aF), ("box", aF), ("is_bounded", aE), ("are_names_right", aE)]) = true := Q.f
theorem zR : aZ ["boxes", "box"] ["boxes"] (az jy) := bB
abbrev lq : Stmt := top 41
abbrev lu : Type := List L3.D × List L3.D × L3.D × List L3.D × List L3.D × List L3.D × Int × Int
def gG : lu -> List L3.D := fun (bs, nm, tr, is, os, ws, i, c) => [d8 bs nm tr is os ws, .tup [.int i, .int c]]
def gH : lu -> Prop := fun (bs, nm, tr, is, os, ws, i, c) => True
def gI : lu -> T := fun (bs, nm, tr, is, os, ws, i, c) => (.sh (.bl (D9 bs.length i c)) : T)
structure Ge (X : Cx) (CL : Q.g) : Prop extends cT X where
 aY : Ln X 0 "chart"
 IV : Ln X 1 "term"
 d9 : Gl X "is_place"
 mY : Gl X "is_bounded"
 fL : Fc X CL "is_place" 1 2 gB gC gD
 uP : Fc X CL "is_bounded" 1 1 jV jW jX
 b8 : DQ X.K Q.F
 fD : bQ X.K Q.F "boxes"
theorem Gf {b : Bx} (E : Ge X CL) {cz : lu} (h : gH cz) :
   aN X CL b lq ["chart", "term"] (gG cz) (gI cz) := by
 obtain ⟨bs, nm, tr, is, os, ws, i, c⟩ := cz
 dsimp only [aN, gH, gG, gI] at h ⊢
 exact bx (uc (alC (bI (dN (aL E.IV) Q.b rfl) (ai Q.A)).2 (fun _ => zv (aK (c_ (i, bs) E.fL E.d9 (ao (dN (aL E.IV) Q.b rfl) (ao (dJ E.b8 E.fD (aL E.aY) rO) aG)) trivial rfl) (t2 := .sh (.bl (rP i bs.length))) rfl))) (fun _ => zv (aK (c_ c E.uP E.mY (ao (dN (aL E.IV) Q.b rfl) aG) trivial rfl) (t2 := .sh (.bl (Rm c))) rfl))) rfl
theorem kh : pQ (az lq) ([("chart", aF), ("term", aF), ("is_place", aE), ("is_bounded", aE)]) = true := Q.f
theorem Ek : aZ ["chart", "term"] ["chart", "term"] (az lq) := bB
abbrev ly : Stmt := top 40
abbrev lz : Type := List L3.D × List L3.D × L3.D × List L3.D × List L3.D × List L3.D × pV
def jA : lz -> List L3.D := fun (bs, nm, tr, is, os, ws, q) => [d8 bs nm tr is os ws, F8 q]
def jB : lz -> Prop := fun (bs, nm, tr, is, os, ws, q) => Kd q
def jC : lz -> T := fun (bs, nm, tr, is, os, ws, q) => (.sh (.bl (Yk bs.length q)) : T)
structure Gg (X : Cx) (CL : Q.g) : Prop extends cT X where
 aY : Ln X 0 "chart"
 jk : Ln X 1 "deed"
 sV : Ln X 2 "word"
 d9 : Gl X "is_place"
 e7 : Gl X "is_term_right"
 mF : Gl X "is_name"
 fL : Fc X CL "is_place" 1 2 gB gC gD
 i7 : Fc X CL "is_term_right" 2 2 gG gH gI
 qI : Fc X CL "is_name" 1 1 mC mD mE
 b8 : DQ X.K Q.F
 fD : bQ X.K Q.F "boxes"
theorem Gh {b : Bx} (E : Gg X CL) {cz : lz} (h : jB cz) :
   aN X CL b ly ["chart", "deed", "word"] (jA cz) (jC cz) := by
 obtain ⟨bs, nm, tr, is, os, ws, q⟩ := cz
 dsimp only [aN, jB, jA, jC] at h ⊢
 cases q with
 | put i a' c =>
   refine bf E.g E.sV (b7 (dN (aL E.jk) Q.b (b6 (j := 0) rfl)) rfl) ?_
   refine b5 (qN (aL E.sV) (ai bz)).1 (fun _ => ?_) (fun hp => absurd (atd hp) Q.d)
   exact bx (uc (aK (c_ (i, bs) E.fL E.d9 (ao (dN (aL E.jk) Q.b (b6 (j := 1) rfl)) (ao (dJ E.b8 E.fD (aL E.aY) rO) aG)) trivial rfl) (t2 := .sh (.bl (rP i bs.length))) rfl) Q.bn) rfl
 | say w x a' c =>
   obtain ⟨⟨w1, w2⟩, hx⟩ : (w ≠ "put" /\ w ≠ "call") /\ x.length <= 1000 := h
   refine bf E.g E.sV (b7 (dN (aL E.jk) Q.b (b6 (j := 0) rfl)) rfl) ?_
   refine b5 (qN (aL E.sV) (ai bz)).1 (fun hp => absurd (as6 hp) w1) (fun _ => ak ?_)
   refine b5 (qN (aL E.sV) (ai bz)).1 (fun hp => ?_) (fun hp => ak ?_)
   . refine bx (uc (aK (c_ x E.qI E.mF (ao (dN (aL E.jk) Q.b (b6 (j := 1) rfl)) aG) hx rfl) (t2 := .sh (.bl (dO x))) rfl) Q.bn) ?_
     have hp : decide (w = "say") = true := hp
     show T.sh (.bl (dO x && D9 bs.length a' c)) = T.sh (.bl (decide (w = "say") && (dO x && D9 bs.length a' c)))
     rw [hp]
     rfl
   . refine bx (uc (q := false) (qN (aL E.sV) (ai bz)).2 (fun hq => absurd (as6 hq) w2)) ?_
     have hp : decide (w = "say") = false := hp
     show T.sh (.bl (_ && false)) = T.sh (.bl (decide (w = "say") && (dO x && D9 bs.length a' c)))
     rw [hp, atr]
     rfl
 | call x =>
   have hx : x.length <= 1000 := h
   refine bf E.g E.sV (b7 (dN (aL E.jk) Q.b (b6 (j := 0) rfl)) rfl) ?_
   refine b5 (qN (aL E.sV) (ai bz)).1 (fun hp => absurd (as6 hp) Q.d) (fun _ => ak ?_)
   refine b5 (qN (aL E.sV) (ai bz)).1 (fun hp => absurd (as6 hp) Q.d) (fun _ => ak ?_)
   exact bx (aK (uc (qN (aL E.sV) (ai bz)).2 (fun _ => zv (aK (c_ x E.qI E.mF (ao (dN (aL E.jk) Q.b (b6 (j := 1) rfl)) aG) hx rfl) (t2 := .sh (.bl (dO x))) rfl))) (t2 := .sh (.bl (dO x))) (congrArg (fun z => T.sh (.bl z)) (by rw [ata rfl]; rfl))) rfl
theorem fF : pQ (az ly) ([("chart", aF), ("deed", aF), ("word", aF), ("is_place", aE), ("is_term_right", aE), ("is_name", aE)]) = true := Q.f
theorem El : aZ ["chart", "deed", "word"] ["chart", "deed"] (az ly) := bB
abbrev jD : Stmt := top 36
abbrev jE : Type := List L3.D × List L3.D × L3.D × List (List pV) × List (List pV) × List pR
def gY : jE -> List L3.D := fun (bs, nm, tr, is, os, ws) => [d8 bs nm tr (is.map bX) (os.map bX) (ws.map jK)]
def dR : jE -> Prop := fun (bs, nm, tr, is, os, ws) => is.length <= 300 /\ os.length <= 300 /\ ws.length <= 100 /\ (∀ l ∈ is ++ os ++ ws.map (·.dl), ∀ q ∈ l, Kd q)
def gZ : jE -> T := fun (bs, nm, tr, is, os, ws) => (.sh (.bl (oz nm.length bs.length is os ws)) : T)
structure CM (X : Cx) (CL : Q.g) : Prop extends cT X where
 aY : Ln X 0 "chart"
 bq : Ln X 1 "many"
 ye : Ln X 2 "deeds"
 jk : Ln X 3 "deed"
 cJ : Gl X "len"
 pW : Gl X "is_deed_right"
 cF : X.mg "len" = none
 Gi : Fc X CL "is_deed_right" 3 2 jA jB jC
 afH : ∃ u, X.mg "DEEDS" = some (.int 3 u)
 b8 : DQ X.K Q.F
 cI : bQ X.K Q.F "names"
 sf : bQ X.K Q.F "ins"
 qx : bQ X.K Q.F "outs"
 mU : bQ X.K Q.F "ways"
theorem CN {b : Bx} (E : CM X CL) {cz : jE} (h : dR cz) :
   aN X CL b jD ["chart", "many", "deeds", "deed"] (gY cz) (gZ cz) := by
 obtain ⟨bs, nm, tr, is, os, ws⟩ := cz
 dsimp only [aN, dR, gY, gZ] at h ⊢
 obtain ⟨h1, h2, h4, h5⟩ := h
 refine bf E.g E.bq (cG (n := nm.length) rfl E.cF (dJ E.b8 E.cI (aL E.aY) iz) E.cJ) ?_
 refine b5 (ua (tD (pU (ai (cG (n := is.length) (as4 ..) E.cF (dJ E.b8 E.sf (aL E.aY) KP) E.cJ)) (aL E.bq)).1 (fun _ => wg (pU (ai (cG (n := os.length) (as4 ..) E.cF (dJ E.b8 E.qx (aL E.aY) Ig) E.cJ)) (aL E.bq)).1))) (fun hp => ?_) (fun hp => ak ?_)
 . refine bx gf ?_
   have hp : (!decide (((is.length : Nat) : Int) = (nm.length : Nat)) || !decide (((os.length : Nat) : Int) = (nm.length : Nat))) = true := hp
   unfold oz
   by_cases e1 : is.length = nm.length
   . by_cases e2 : os.length = nm.length
     . rw [ata (show ((is.length : Nat) : Int) = (nm.length : Nat) by omega), ata (show ((os.length : Nat) : Int) = (nm.length : Nat) by omega)] at hp
       cases hp
     . rw [atn e2, aua, atr]
   . rw [atn e1, aua]
 have hp : (!decide (((is.length : Nat) : Int) = (nm.length : Nat)) || !decide (((os.length : Nat) : Int) = (nm.length : Nat))) = false := hp
 rw [aup] at hp
 have e1 : is.length = nm.length := by have : ((is.length : Nat) : Int) = (nm.length : Nat) := by simpa using hp.1
                                       omega
 have e2 : os.length = nm.length := by have : ((os.length : Nat) : Int) = (nm.length : Nat) := by simpa using hp.2
                                       omega
 have hdd : oz nm.length bs.length is os ws = (is ++ os ++ ws.map (·.dl)).all fun l => l.all (Yk bs.length) := by
   unfold oz
   rw [ata e1, ata e2]
   rfl
 have im : ∀ l : List (List pV), D.cZ (l.map bX) = true := fun l => bS iY l
 rw [hdd]
 refine oA E.g E.ye (fun j δ => ∃ o1 o2, yQ (fun l => l.all (Yk bs.length)) (is ++ os ++ ws.map (·.dl)) j /\ δ = [some (.sh (d8 bs nm tr (is.map bX) (os.map bX) (ws.map jK))), some (.sh (.int nm.length)), o1, o2])
   (ud (LD (ds := (is ++ os ++ ws.map (·.dl)).map bX) (aK (ug (ds := (is ++ os).map bX) (V1 := (ws.map (·.dl)).map bX) (bJ (aK (ug (dJ E.b8 E.sf (aL E.aY) KP) (dJ E.b8 E.qx (aL E.aY) Ig) (im is) (im os) (aub (cS Q.Z))) (by rw [← auJ]))) (bJ (aK (rM (p := fun _ => true) (g := fun d => T.sh (apd d)) (d7 .nil Q.d) E.g.calm (ud (HC E.b8 E.mU (v_ E.aY.1) Ih)) (.inr rfl) (fun C s0 H0 f0 b' d hd => ?Ys) (aub (cS (by rw [as4]; omega)))) ?ceq)) (im _) (im _) (aub (cS Q.Z))) (by rw [← auJ])))) ⟨_, _, .zero, rfl⟩ Q.aX ?turn ?fin
 case Ys =>
   obtain ⟨w, hw, rfl⟩ := atj.mp hd
   exact ⟨rfl, fun _ => b7 (dN Q.af (ai (kT (by exact E.afH) (qd Q.d))) (b6 (j := 3) rfl)) (iY w.dl)⟩
 case ceq =>
   rw [mz, atF, atF, atF]
   rfl
 case turn =>
   rintro j d δ hj ⟨o1, o2, hU, rfl⟩
   obtain ⟨l, hlj, rfl⟩ : ∃ l, (is ++ os ++ ws.map (·.dl))[j]? = some l /\ bX l = d := by rw [atE] at hj; exact auc.mp hj
   have hlm := at6 hlj
   have hq := h5 l hlm
   refine oA E.g E.jk (fun j δ => ∃ o2, yQ (Yk bs.length) l j /\ δ = [some (.sh (d8 bs nm tr (is.map bX) (os.map bX) (ws.map jK))), some (.sh (.int nm.length)), some (.sh (bX l)), o2]) (aaW (v_ E.ye.1)) ⟨_, .zero, rfl⟩ Q.at ?P9 ?fin2
   case P9 =>
     rintro i d δ hi ⟨o2, hU2, rfl⟩
     obtain ⟨q, hqj, rfl⟩ : ∃ q, l[i]? = some q /\ F8 q = d := by rw [atE] at hi; exact auc.mp hi
     have hqm := at6 hqj
     refine b5 (gP (kQ (aK (c_ (bs, nm, tr, is.map bX, os.map bX, ws.map jK, q) E.Gi E.pW (ao (aL E.aY) (ao (aL E.jk) aG)) (hq q hqm) rfl) (t2 := .sh (.bl (Yk bs.length q))) rfl))) (fun hp => ?_) (fun hp => ak (ak ⟨_, hU2.next hqj (by simpa using hp), rfl⟩))
     refine bx gf ?_
     rw [F7 (p := fun l : List pV => l.all (Yk bs.length)) hlm (F7 hqm (by simpa using hp))]
   case fin2 =>
     rintro δ ⟨o2, hU2, rfl⟩
     rw [as4] at hU2
     exact ak ⟨_, _, hU.next hlj hU2.all, rfl⟩
 case fin =>
   rintro δ ⟨o1, o2, hU, rfl⟩
   rw [as4] at hU
   exact bx gf (by rw [hU.all])
theorem eo : pQ (az jD) ([("chart", aF), ("many", aF), ("deeds", aF), ("deed", aF), ("len", aE), ("is_deed_right", aE)]) = true := Q.f
theorem zS : aZ ["chart", "many", "deeds", "deed"] ["chart"] (az jD) := bB
abbrev mZ : Stmt := top 39
abbrev m5 : Type := List L3.D × List L3.D × L3.D × List L3.D × List L3.D × List L3.D × ZW
def ki : m5 -> List L3.D := fun (bs, nm, tr, is, os, ws, q) => [d8 bs nm tr is os ws, xX q]
def ko : m5 -> Prop := fun (bs, nm, tr, is, os, ws, q) => Sb q
def kr : m5 -> T := fun (bs, nm, tr, is, os, ws, q) => (.sh (.bl (ZX nm.length bs.length q)) : T)
structure IW (X : Cx) (CL : Q.g) : Prop extends cT X where
 aY : Ln X 0 "chart"
 zm : Ln X 1 "ask"
 IX : Ln X 2 "mark"
 d9 : Gl X "is_place"
 afI : Gl X "MARKS"
 e7 : Gl X "is_term_right"
 fL : Fc X CL "is_place" 1 2 gB gC gD
 MY : GT X "MARKS" ["<", "<=", "=", "!="]
 i7 : Fc X CL "is_term_right" 2 2 gG gH gI
 b8 : DQ X.K Q.F
 cI : bQ X.K Q.F "names"
theorem IY {b : Bx} (E : IW X CL) {cz : m5} (h : ko cz) :
   aN X CL b mZ ["chart", "ask", "mark"] (ki cz) (kr cz) := by
 obtain ⟨bs, nm, tr, is, os, ws, q⟩ := cz
 dsimp only [aN, ko, ki, kr] at h ⊢
 cases q with
 | R9 x m =>
   refine bf E.g E.IX (b7 (dN (aL E.zm) Q.b (b6 (j := 0) rfl)) rfl) ?_
   refine b5 (aa0 (l := ["open", "shut"]) (aL E.IX) (iD rfl)).1 (fun _ => ?_) (fun hp => absurd (show x ∈ (["open", "shut"] : List Str) from h) (atd hp))
   exact bx (aK (c_ (m, nm) E.fL E.d9 (ao (dN (aL E.zm) Q.b (b6 (j := 1) rfl)) (ao (dJ E.b8 E.cI (aL E.aY) iz) aG)) trivial rfl) rfl) rfl
 | num mk a1 c1 a2 c2 =>
   refine bf E.g E.IX (b7 (dN (aL E.zm) Q.b (b6 (j := 0) rfl)) rfl) ?_
   refine b5 (aa0 (l := ["open", "shut"]) (aL E.IX) (iD rfl)).1 (fun hp => absurd (as6 hp) h) (fun _ => ak ?_)
   exact bx (uc (V3 (l := ["<", "<=", "=", "!="]) (aL E.IX) (ai (BG E.MY E.afI)) rfl rfl).2 (fun _ => uc (aK (c_ (bs, nm, tr, is, os, ws, a1, c1) E.i7 E.e7 (ao (aL E.aY) (ao (dN (aL E.zm) Q.b (b6 (j := 1) rfl)) aG)) trivial rfl) (t2 := .sh (.bl (D9 bs.length a1 c1))) rfl) (fun _ => zv (aK (c_ (bs, nm, tr, is, os, ws, a2, c2) E.i7 E.e7 (ao (aL E.aY) (ao (dN (aL E.zm) Q.b (b6 (j := 2) rfl)) aG)) trivial rfl) (t2 := .sh (.bl (D9 bs.length a2 c2))) rfl)))) rfl
theorem fZ : pQ (az mZ) ([("chart", aF), ("ask", aF), ("mark", aF), ("is_place", aE), ("MARKS", aE), ("is_term_right", aE)]) = true := Q.f
theorem Gj : aZ ["chart", "ask", "mark"] ["chart", "ask"] (az mZ) := bB
abbrev m7 : Stmt := top 38
abbrev m8 : Type := List L3.D × List L3.D × L3.D × List L3.D × List L3.D × List L3.D × pR
def ku : m8 -> List L3.D := fun (bs, nm, tr, is, os, ws, w) => [d8 bs nm tr is os ws, jK w]
def kB : m8 -> Prop := fun (bs, nm, tr, is, os, ws, w) => w.ok
def kC : m8 -> T := fun (bs, nm, tr, is, os, ws, w) => (.sh (.bl (Sd nm.length bs.length w)) : T)
structure IZ (X : Cx) (CL : Q.g) : Prop extends cT X where
 aY : Ln X 0 "chart"
 bM : Ln X 1 "way"
 qV : Ln X 2 "target"
 zH : Ln X 3 "mode"
 zm : Ln X 4 "ask"
 acn : Gl X "TARGET"
 ajZ : Gl X "MODE"
 d9 : Gl X "is_place"
 CP : Gl X "SOURCE"
 mF : Gl X "is_name"
 aj0 : Gl X "SIGN"
 afJ : Gl X "MODES"
 aj1 : Gl X "ASKS"
 rm : Gl X "is_ask_right"
 aco : ∃ u, X.mg "TARGET" = some (.int 4 u)
 aj2 : ∃ u, X.mg "MODE" = some (.int 5 u)
 fL : Fc X CL "is_place" 1 2 gB gC gD
 CQ : ∃ u, X.mg "SOURCE" = some (.int 0 u)
 qI : Fc X CL "is_name" 1 1 mC mD mE
 aj3 : ∃ u, X.mg "SIGN" = some (.int 1 u)
 MZ : GT X "MODES" ["new", "near", "far"]
 aj4 : ∃ u, X.mg "ASKS" = some (.int 2 u)
 I0 : Fc X CL "is_ask_right" 3 2 ki ko kr
 b8 : DQ X.K Q.F
 cI : bQ X.K Q.F "names"
theorem Ja {b : Bx} (E : IZ X CL) {cz : m8} (h : kB cz) :
   aN X CL b m7 ["chart", "way", "target", "mode", "ask"] (ku cz) (kC cz) := by
 obtain ⟨bs, nm, tr, is, os, ws, w⟩ := cz
 dsimp only [aN, kB, ku, kC] at h ⊢
 obtain ⟨src, sg, al, dl, tg, md⟩ := w
 obtain ⟨h2, h6⟩ : sg.length <= 1000 /\ ∀ q ∈ al, Sb q := h
 have hW : Sd nm.length bs.length ⟨src, sg, al, dl, tg, md⟩ = (rP src nm.length && (dO sg && (decide (md ∈ uv) && ((if tg = -1 then decide (md = "new") else rP tg nm.length) && al.all (ZX nm.length bs.length))))) := rfl
 rw [hW]
 refine bf E.g E.qV (b7 (dN (aL E.bM) (ai (kT E.aco E.acn)) (b6 (j := 4) rfl)) rfl) ?_
 refine bf E.g E.zH (b7 (dN (aL E.bM) (ai (kT E.aj2 E.ajZ)) (b6 (j := 5) rfl)) rfl) ?_
 refine b5 (ua (tD (gP (kQ (aK (c_ (src, nm) E.fL E.d9 (ao (dN (aL E.bM) (ai (kT E.CQ E.CP)) (b6 (j := 0) rfl)) (ao (dJ E.b8 E.cI (aL E.aY) iz) aG)) trivial rfl) (t2 := .sh (.bl (rP src nm.length))) rfl))) (fun _ => tD (gP (kQ (aK (c_ sg E.qI E.mF (ao (dN (aL E.bM) (ai (kT E.aj3 E.aj0)) (b6 (j := 1) rfl)) aG) h2 rfl) (t2 := .sh (.bl (dO sg))) rfl))) (fun _ => wg (V4 (l := uv) (aL E.zH) (ai (BG E.MZ E.afJ)) rfl rfl).1)))) (fun hp => ?_) (fun hp => ak ?_)
 . have hp : (!rP src nm.length || (!dO sg || !decide (md ∈ uv))) = true := hp
   refine bx gf ?_
   generalize decide (md ∈ uv) = b3 at hp ⊢
   generalize rP src nm.length = b1 at hp ⊢
   generalize dO sg = b2 at hp ⊢
   cases b1
   . rfl
   . cases b2
     . rfl
     . cases b3
       . rfl
       . cases hp
 have hp : (!rP src nm.length || (!dO sg || !decide (md ∈ uv))) = false := hp
 rw [aup, aup] at hp
 rw [show rP src nm.length = true from by simpa using hp.1, show dO sg = true from by simpa using hp.2.1, show decide (md ∈ uv) = true from by simpa using hp.2.2]
 refine aoD (fun δ => (if tg = -1 then decide (md = "new") else rP tg nm.length) = true /\ δ = [some (.sh (d8 bs nm tr is os ws)), some (.sh (jK ⟨src, sg, al, dl, tg, md⟩)), some (.sh (.int tg)), some (.sh (.str md)), none]) (fun δ2 e2 => ?_) (fun k => ?_)
 . obtain ⟨e1, rfl⟩ := e2
   rw [e1]
   refine oA E.g E.zm (fun j δ => ∃ o, yQ (ZX nm.length bs.length) al j /\ δ = [some (.sh (d8 bs nm tr is os ws)), some (.sh (jK ⟨src, sg, al, dl, tg, md⟩)), some (.sh (.int tg)), some (.sh (.str md)), o])
     (aaW (b7 (dN (aL E.bM) (ai (kT E.aj4 E.aj1)) (b6 (j := 2) rfl)) (tK al))) ⟨_, .zero, rfl⟩ Q.at ?turn ?fin
   case turn =>
     rintro j d δ hj ⟨o, hU, rfl⟩
     obtain ⟨q, hqj, rfl⟩ : ∃ q, al[j]? = some q /\ xX q = d := by rw [atE] at hj; exact auc.mp hj
     have hqm := at6 hqj
     refine b5 (gP (kQ (aK (c_ (bs, nm, tr, is, os, ws, q) E.I0 E.rm (ao (aL E.aY) (ao (aL E.zm) aG)) (h6 q hqm) rfl) (t2 := .sh (.bl (ZX nm.length bs.length q))) rfl))) (fun hp => ?_) (fun hp => ak (ak ⟨_, hU.next hqj (by simpa using hp), rfl⟩))
     exact bx gf (by rw [F7 hqm (by simpa using hp)]; rfl)
   case fin =>
     rintro δ ⟨o, hU, rfl⟩
     rw [as4] at hU
     exact bx gf (by rw [hU.all]; rfl)
 refine b5 (bI (aL E.qV) (ai Q.A)).1 (fun hp => ?_) (fun hp => ?_)
 . have e1 : tg = -1 := as6 hp
   refine b5 (aaQ (aL E.zH) (ai bz)).1 (fun hp => ?_) (fun hp => ak (ak (k _ ⟨by rw [if_pos e1]; simpa using hp, rfl⟩)))
   refine bx gf ?_
   rw [if_pos e1, show decide (md = "new") = false from by simpa using hp]
   rfl
 . have e1 : ¬ tg = -1 := atd hp
   refine b5 (gP (kQ (aK (c_ (tg, nm) E.fL E.d9 (ao (aL E.qV) (ao (dJ E.b8 E.cI (aL E.aY) iz) aG)) trivial rfl) (t2 := .sh (.bl (rP tg nm.length))) rfl))) (fun hp => ?_) (fun hp => ak (ak (k _ ⟨by rw [if_neg e1]; simpa using hp, rfl⟩)))
   refine bx gf ?_
   rw [if_neg e1, show rP tg nm.length = false from by simpa using hp]
   rfl
theorem bT : pQ (az m7) ([("chart", aF), ("way", aF), ("target", aF), ("mode", aF), ("ask", aF), ("TARGET", aE), ("MODE", aE), ("is_place", aE), ("SOURCE", aE), ("is_name", aE), ("SIGN", aE), ("MODES", aE), ("ASKS", aE), ("is_ask_right", aE)]) = true := Q.f
theorem Gk : aZ ["chart", "way", "target", "mode", "ask"] ["chart", "way"] (az m7) := bB
abbrev kD : Stmt := top 37
abbrev kE : Type := List L3.D × List L3.D × L3.D × List L3.D × List L3.D × List pR
def iQ : kE -> List L3.D := fun (bs, nm, tr, is, os, ws) => [d8 bs nm tr is os (ws.map jK)]
def iR : kE -> Prop := fun (bs, nm, tr, is, os, ws) => ∀ w ∈ ws, w.ok
def iS : kE -> T := fun (bs, nm, tr, is, os, ws) => (.sh (.bl (Ij nm.length bs.length 0 ws)) : T)
structure Em (X : Cx) (CL : Q.g) : Prop extends cT X where
 aY : Ln X 0 "chart"
 Td : Ln X 1 "last"
 bM : Ln X 2 "way"
 CP : Gl X "SOURCE"
 rq : Gl X "is_way_right"
 CQ : ∃ u, X.mg "SOURCE" = some (.int 0 u)
 Jb : Fc X CL "is_way_right" 4 2 ku kB kC
 b8 : DQ X.K Q.F
 mU : bQ X.K Q.F "ways"
theorem En {b : Bx} (E : Em X CL) {cz : kE} (h : iR cz) :
   aN X CL b kD ["chart", "last", "way"] (iQ cz) (iS cz) := by
 obtain ⟨bs, nm, tr, is, os, ws⟩ := cz
 dsimp only [aN, iR, iQ, iS] at h ⊢
 refine bf E.g E.Td aj ?_
 refine oA E.g E.bM (fun j δ => ∃ (l : Int) (o : Option T), Ij nm.length bs.length 0 ws = Ij nm.length bs.length l (ws.drop j) /\ δ = [some (.sh (d8 bs nm tr is os (ws.map jK))), some (.sh (.int l)), o])
   (ud (HC E.b8 E.mU (v_ E.aY.1) Ih)) ⟨0, none, rfl, rfl⟩ Q.aX ?turn ?fin
 case turn =>
   rintro j d δ hj ⟨l, o, hl, rfl⟩
   obtain ⟨w, hw, rfl⟩ : ∃ w, ws[j]? = some w /\ jK w = d := by rw [atE] at hj; exact auc.mp hj
   have FU : j < ws.length := (atM.mp hw).1
   have hdr : ws.drop j = w :: ws.drop (j + 1) := by rw [ave FU, (atM.mp hw).2]
   have hwm : w ∈ ws := at6 hw
   rw [hdr, Ij] at hl
   refine b5 (ua (tD (Hw (dN (aL E.bM) (ai (kT E.CQ E.CP)) (b6 (j := 0) rfl)) (aL E.Td)).1 (fun _ => wg (gP (kQ (aK (c_ (bs, nm, tr, is, os, ws.map jK, w) E.Jb E.rq (ao (aL E.aY) (ao (aL E.bM) aG)) (h w hwm) rfl) (t2 := .sh (.bl (Sd nm.length bs.length w))) rfl)))))) (fun hp => ?_) (fun hp => ak ?_)
   . have hp : (decide (w.src < l) || !Sd nm.length bs.length w) = true := hp
     refine bx gf ?_
     rw [hl]
     cases hd : decide (w.src < l) with
     | true => rfl
     | false =>
       rw [hd] at hp
       rw [show Sd nm.length bs.length w = false from by simpa using hp]
       rfl
   . have hp : (decide (w.src < l) || !Sd nm.length bs.length w) = false := hp
     rw [aup] at hp
     rw [hp.1, show Sd nm.length bs.length w = true from by simpa using hp.2] at hl
     exact bf E.g E.Td (b7 (dN (aL E.bM) (ai (kT E.CQ E.CP)) (b6 (j := 0) rfl)) rfl) (ak ⟨w.src, _, hl, rfl⟩)
 case fin =>
   rintro δ ⟨l, o, hl, rfl⟩
   rw [as4, List.drop_length] at hl
   exact bx gf (by rw [hl]; rfl)
theorem gJ : pQ (az kD) ([("chart", aF), ("last", aF), ("way", aF), ("SOURCE", aE), ("is_way_right", aE)]) = true := Q.f
theorem CT : aZ ["chart", "last", "way"] ["chart"] (az kD) := bB
abbrev w9 : Stmt := top 29
abbrev CV : Type := Q.D × List Str × List Str × List Int × List Int × List (List pV) × List (List pV) × List pR
def rz : CV -> List L3.D := fun (bs, nm, ks, es, ss, is, os, ws) => [d8 (bs.map kL) (nm.map .str) (fJ ks es ss) (is.map bX) (os.map bX) (ws.map jK)]
def oJ : CV -> Prop := fun (bs, nm, ks, es, ss, is, os, ws) => BP bs nm ks is os ws /\ iE bs nm ks es ss is os ws = -1
def rA : CV -> T := fun (bs, nm, ks, es, ss, is, os, ws) => (.sh .non : T)
structure Qu (X : Cx) (CL : Q.g) : Prop extends cT X where
 aY : Ln X 0 "chart"
 lA : Gl X "is_tree_right"
 fG : Gl X "BadTree"
 eW : Gl X "are_names_right"
 f9 : Gl X "BadName"
 jF : Gl X "are_boxes_right"
 jY : Gl X "BadBox"
 jG : Gl X "are_deeds_right"
 jf : Gl X "BadDeed"
 kF : Gl X "are_ways_right"
 m9 : Gl X "BadWay"
 vD : Fc X CL "is_tree_right" 4 2 ju jv jw
 ez : X.mg "BadTree" = some Q.H
 zT : fW X.K (CL "BadTree")
 jz : Fc X CL "are_names_right" 2 1 fz cL fB
 fc : X.mg "BadName" = some Q.I
 zU : fW X.K (CL "BadName")
 sq : Fc X CL "are_boxes_right" 3 1 gW dQ gX
 ig : X.mg "BadBox" = some Q.K
 Eo : fW X.K (CL "BadBox")
 su : Fc X CL "are_deeds_right" 4 1 gY dR gZ
 gR : X.mg "BadDeed" = some Q.J
 zV : fW X.K (CL "BadDeed")
 tV : Fc X CL "are_ways_right" 5 1 iQ iR iS
 kG : X.mg "BadWay" = some Q.L
 Ep : fW X.K (CL "BadWay")
 b8 : DQ X.K Q.F
 qw : bQ X.K Q.F "tree"
 cI : bQ X.K Q.F "names"
 fD : bQ X.K Q.F "boxes"
theorem acp {b : Bx} (E : Qu X CL) {cz : CV} (h : oJ cz) :
   aN X CL b w9 ["chart"] (rz cz) (rA cz) := by
 obtain ⟨bs, nm, ks, es, ss, is, os, ws⟩ := cz
 dsimp only [aN, oJ, rz, rA] at h ⊢
 obtain ⟨hs, hr⟩ := h
 have el : (nm.map L3.D.str).length = nm.length := as4 ..
 have eb : (bs.map kL).length = bs.length := as4 ..
 unfold iE at hr
 refine b5 Q.bm (fun hp => ?_) (fun hp => ak ?_)
 . rw [atb (show BL ks es ss nm.length = false from ZZ hp)] at hr
   exact absurd hr Q.c
 rw [as5 (show ¬ BL ks es ss nm.length = false from nbF hp)] at hr
 refine b5 (gP (kQ (aK (c_ nm E.jz E.eW (ao (dJ E.b8 E.cI (aL E.aY) iz) aG) (by dsimp only [cL]; exact ⟨hs.n1, hs.n2⟩) rfl) (t2 := .sh (.bl (lF nm))) rfl))) (fun hp => ?_) (fun hp => ak ?_)
 . rw [atb (show lF nm = false from ZZ hp)] at hr
   exact absurd hr Q.c
 rw [as5 (show ¬ lF nm = false from nbF hp)] at hr
 refine b5 (gP (kQ (aK (c_ bs E.sq E.jF (ao (dJ E.b8 E.fD (aL E.aY) rO) aG) (by dsimp only [dQ]; exact ⟨hs.b1, hs.b2⟩) rfl) (t2 := .sh (.bl (pK bs))) rfl))) (fun hp => ?_) (fun hp => ak ?_)
 . rw [atb (show pK bs = false from ZZ hp)] at hr
   exact absurd hr Q.c
 rw [as5 (show ¬ pK bs = false from nbF hp)] at hr
 refine b5 Q.bk (fun hp => ?_) (fun hp => ak ?_)
 . rw [atb (show oz nm.length bs.length is os ws = false from ZZ hp)] at hr
   exact absurd hr Q.c
 rw [as5 (show ¬ oz nm.length bs.length is os ws = false from nbF hp)] at hr
 refine b5 Q.bl (fun hp => ?_) (fun hp => ak ?_)
 . rw [atb (show Ij nm.length bs.length 0 ws = false from ZZ hp)] at hr
   exact absurd hr Q.c
 rw [as5 (show ¬ Ij nm.length bs.length 0 ws = false from nbF hp)] at hr
 exact ak rfl
abbrev zW : Type := Q.D × List Str × List Str × List Int × List Int × List (List pV) × List (List pV) × List pR
def ng : zW -> List L3.D := fun (bs, nm, ks, es, ss, is, os, ws) => [d8 (bs.map kL) (nm.map .str) (fJ ks es ss) (is.map bX) (os.map bX) (ws.map jK)]
def cA : zW -> Prop := fun (bs, nm, ks, es, ss, is, os, ws) => BP bs nm ks is os ws /\ iE bs nm ks es ss is os ws ≠ -1
def nh : zW -> Str := fun (bs, nm, ks, es, ss, is, os, ws) => Il Q.ad
theorem YL {b : Bx} {W : XK} (E : Qu (X.wish (XE X W)) CL) (bs nm ks es ss is os ws) (h : cA (bs, nm, ks, es, ss, is, os, ws)) (hE : GK b W (CL (nh (bs, nm, ks, es, ss, is, os, ws)))) :
   dY (X.wish (XE X W)) CL b (dW w9) (entry ["chart"] (ng (bs, nm, ks, es, ss, is, os, ws))) { nx := fun _ => False, rt := fun _ _ => False } := by
 dsimp only [cA, ng, nh] at h hE ⊢
 obtain ⟨hs, hr⟩ := h
 have el : (nm.map L3.D.str).length = nm.length := as4 ..
 have eb : (bs.map kL).length = bs.length := as4 ..
 unfold iE at hr hE
 refine b5 Q.bm (fun hp => ?_) (fun hp => ak ?_)
 . rw [atb (show BL ks es ss nm.length = false from ZZ hp)] at hE
   exact BH (X := X) E.g.calm E.fG E.ez E.zT hE
 rw [as5 (show ¬ BL ks es ss nm.length = false from nbF hp)] at hr hE
 refine b5 (gP (kQ (aK (c_ nm E.jz E.eW (ao (dJ E.b8 E.cI (aL E.aY) iz) aG) (by dsimp only [cL]; exact ⟨hs.n1, hs.n2⟩) rfl) (t2 := .sh (.bl (lF nm))) rfl))) (fun hp => ?_) (fun hp => ak ?_)
 . rw [atb (show lF nm = false from ZZ hp)] at hE
   exact BH (X := X) E.g.calm E.f9 E.fc E.zU hE
 rw [as5 (show ¬ lF nm = false from nbF hp)] at hr hE
 refine b5 (gP (kQ (aK (c_ bs E.sq E.jF (ao (dJ E.b8 E.fD (aL E.aY) rO) aG) (by dsimp only [dQ]; exact ⟨hs.b1, hs.b2⟩) rfl) (t2 := .sh (.bl (pK bs))) rfl))) (fun hp => ?_) (fun hp => ak ?_)
 . rw [atb (show pK bs = false from ZZ hp)] at hE
   exact BH (X := X) E.g.calm E.jY E.ig E.Eo hE
 rw [as5 (show ¬ pK bs = false from nbF hp)] at hr hE
 refine b5 Q.bk (fun hp => ?_) (fun hp => ak ?_)
 . rw [atb (show oz nm.length bs.length is os ws = false from ZZ hp)] at hE
   exact BH (X := X) E.g.calm E.jf E.gR E.zV hE
 rw [as5 (show ¬ oz nm.length bs.length is os ws = false from nbF hp)] at hr hE
 refine b5 Q.bl (fun hp => ?_) (fun hp => ak ?_)
 . rw [atb (show Ij nm.length bs.length 0 ws = false from ZZ hp)] at hE
   exact BH (X := X) E.g.calm E.m9 E.kG E.Ep hE
 rw [as5 (show ¬ Ij nm.length bs.length 0 ws = false from nbF hp)] at hr hE
 exact absurd rfl hr
theorem cy : pQ (az w9) ([("chart", aF), ("is_tree_right", aE), ("BadTree", aE), ("are_names_right", aE), ("BadName", aE), ("are_boxes_right", aE), ("BadBox", aE), ("are_deeds_right", aE), ("BadDeed", aE), ("are_ways_right", aE), ("BadWay", aE)]) = true := Q.f
theorem yw : aZ ["chart"] ["chart"] (az w9) := bB
abbrev yx : Stmt := top 69
abbrev yy : Type := Q.D × List Str × List Str × List Int × List Int × List (List pV) × List (List pV) × List pR
def sA : yy -> List L3.D := fun (bs, nm, ks, es, ss, is, os, ws) => [d8 (bs.map kL) (nm.map .str) (fJ ks es ss) (is.map bX) (os.map bX) (ws.map jK)]
def sC : yy -> Prop := fun (bs, nm, ks, es, ss, is, os, ws) => BP bs nm ks is os ws
def sE : yy -> T := fun (bs, nm, ks, es, ss, is, os, ws) => (.sh (.int Q.ad) : T)
structure YM (X : Cx) (CL : Q.g) : Prop extends cT X where
 aY : Ln X 0 "chart"
 dD : Ln X 1 "kind"
 sF : Ln X 2 "right"
 gK : Gl X "looked"
 fG : Gl X "BadTree"
 f9 : Gl X "BadName"
 jY : Gl X "BadBox"
 jf : Gl X "BadDeed"
 m9 : Gl X "BadWay"
 Qv : Fc X CL "looked" 6 1 rz oJ rA
 ez : X.mg "BadTree" = some Q.H
 zT : fW X.K (CL "BadTree")
 fc : X.mg "BadName" = some Q.I
 zU : fW X.K (CL "BadName")
 ig : X.mg "BadBox" = some Q.K
 Eo : fW X.K (CL "BadBox")
 gR : X.mg "BadDeed" = some Q.J
 zV : fW X.K (CL "BadDeed")
 kG : X.mg "BadWay" = some Q.L
 Ep : fW X.K (CL "BadWay")
 iu : FcR X CL "looked" 6 1 ng cA nh
 st : X.stack = X.env :: X.outer
 fm : X.env.frame = some X.env.locals
 nx : X.xe = fun _ _ => False
 WV : PySem.W.exmOne X.K Q.H Q.K = some false
 Te : PySem.W.exmOne X.K Q.H Q.J = some false
 Tf : PySem.W.exmOne X.K Q.H Q.I = some false
 zX : PySem.W.exmOne X.K Q.H Q.H = some true
 WW : PySem.W.exmOne X.K Q.H Q.L = some false
 WX : PySem.W.exmOne X.K Q.I Q.K = some false
 Tg : PySem.W.exmOne X.K Q.I Q.J = some false
 zY : PySem.W.exmOne X.K Q.I Q.I = some true
 zZ : PySem.W.exmOne X.K Q.I Q.H = some false
 WY : PySem.W.exmOne X.K Q.I Q.L = some false
 Er : PySem.W.exmOne X.K Q.K Q.K = some true
 WZ : PySem.W.exmOne X.K Q.K Q.J = some false
 CW : PySem.W.exmOne X.K Q.K Q.I = some false
 CY : PySem.W.exmOne X.K Q.K Q.H = some false
 YN : PySem.W.exmOne X.K Q.K Q.L = some false
 CZ : PySem.W.exmOne X.K Q.J Q.K = some false
 z6 : PySem.W.exmOne X.K Q.J Q.J = some true
 z7 : PySem.W.exmOne X.K Q.J Q.I = some false
 z8 : PySem.W.exmOne X.K Q.J Q.H = some false
 W0 : PySem.W.exmOne X.K Q.J Q.L = some false
 Es : PySem.W.exmOne X.K Q.L Q.K = some false
 C1 : PySem.W.exmOne X.K Q.L Q.J = some false
 C2 : PySem.W.exmOne X.K Q.L Q.I = some false
 C3 : PySem.W.exmOne X.K Q.L Q.H = some false
 Et : PySem.W.exmOne X.K Q.L Q.L = some true
theorem YQ {b : Bx} (E : YM X CL) {cz : yy} (h : sC cz) :
   aN X CL b yx ["chart", "kind", "right"] (sA cz) (sE cz) := by
 obtain ⟨bs, nm, ks, es, ss, is, os, ws⟩ := cz
 dsimp only [aN, sC, sA, sE] at h ⊢
 refine bf E.g E.dD Q.A ?_
 refine bf E.g E.sF gf ?_
 by_cases hr : iE bs nm ks es ss is os ws = -1
 . refine ai0 E.nx ?_
   refine bf E.g E.sF (aiV (ai (aK (c_ (bs, nm, ks, es, ss, is, os, ws) E.Qv E.gK (ao (aL E.aY) aG) (by dsimp only [oJ]; exact ⟨h, hr⟩) rfl) (t2 := .sh .non) rfl))).2 (ak ?_)
   refine b5 (ua (sO (bI (aL E.dD) (ai Q.A)).1 (fun _ => Bw (gP (kQ (v_ E.sF.1)))))) Q.az (fun _ => ak ?_)
   exact bx (v_ E.dD.1) (by rw [hr])
 have hk : iE bs nm ks es ss is os ws = 0 \/ iE bs nm ks es ss is os ws = 1 \/ iE bs nm ks es ss is os ws = 2 \/ iE bs nm ks es ss is os ws = 3 \/ iE bs nm ks es ss is os ws = 4 := by
   revert hr
   unfold iE
   intro hr
   split
   . exact .inl rfl
   . split
     . exact .inr (.inl rfl)
     . split
       . exact .inr (.inr (.inl rfl))
       . split
         . exact .inr (.inr (.inr (.inl rfl)))
         . split
           . exact .inr (.inr (.inr (.inr rfl)))
           . rename_i h1 h2 h3 h4 h5
             rw [as5 h1, as5 h2, as5 h3, as5 h4, as5 h5] at hr
             exact absurd rfl hr
 rcases hk with e | e | e | e | e
 . have M0 : Il Q.ad = "BadTree" := by rw [e]; rfl
   refine HW (c := "BadTree") (δ1 := [some Q.an, some (.sh (.int (-1))), some (.sh (.bl false))]) E.st E.fm E.nx Q.ba (.hit E.fG E.ez E.zX Q.c) fun ev => ?_
   refine sQ E.g.nd E.dD.hand aj (ak ?_)
   refine b5 Q.bd Q.az (fun _ => ak ?_)
   exact bx (v_ E.dD.1) (by rw [e])
 . have M0 : Il Q.ad = "BadName" := by rw [e]; rfl
   refine HW (c := "BadName") (δ1 := [some Q.an, some (.sh (.int (-1))), some (.sh (.bl false))]) E.st E.fm E.nx Q.ba (.miss E.fG E.ez E.zZ Q.c (.hit E.f9 E.fc E.zY Q.c)) fun ev => ?_
   refine sQ E.g.nd E.dD.hand aj (ak ?_)
   refine b5 Q.bd Q.az (fun _ => ak ?_)
   exact bx (v_ E.dD.1) (by rw [e])
 . have M0 : Il Q.ad = "BadBox" := by rw [e]; rfl
   refine HW (c := "BadBox") (δ1 := [some Q.an, some (.sh (.int (-1))), some (.sh (.bl false))]) E.st E.fm E.nx Q.ba (.miss E.fG E.ez E.CY Q.c (.miss E.f9 E.fc E.CW Q.c (.hit E.jY E.ig E.Er Q.c))) fun ev => ?_
   refine sQ E.g.nd E.dD.hand aj (ak ?_)
   refine b5 Q.bd Q.az (fun _ => ak ?_)
   exact bx (v_ E.dD.1) (by rw [e])
 . have M0 : Il Q.ad = "BadDeed" := by rw [e]; rfl
   refine HW (c := "BadDeed") (δ1 := [some Q.an, some (.sh (.int (-1))), some (.sh (.bl false))]) E.st E.fm E.nx Q.ba (.miss E.fG E.ez E.z8 Q.c (.miss E.f9 E.fc E.z7 Q.c (.miss E.jY E.ig E.CZ Q.c (.hit E.jf E.gR E.z6 Q.c)))) fun ev => ?_
   refine sQ E.g.nd E.dD.hand aj (ak ?_)
   refine b5 Q.bd Q.az (fun _ => ak ?_)
   exact bx (v_ E.dD.1) (by rw [e])
 . have M0 : Il Q.ad = "BadWay" := by rw [e]; rfl
   refine HW (c := "BadWay") (δ1 := [some Q.an, some (.sh (.int (-1))), some (.sh (.bl false))]) E.st E.fm E.nx Q.ba (.miss E.fG E.ez E.C3 Q.c (.miss E.f9 E.fc E.C2 Q.c (.miss E.jY E.ig E.Es Q.c (.miss E.jf E.gR E.C1 Q.c (.hit E.m9 E.kG E.Et Q.c))))) fun ev => ?_
   refine sQ E.g.nd E.dD.hand aj (ak ?_)
   refine b5 Q.bd Q.az (fun _ => ak ?_)
   exact bx (v_ E.dD.1) (by rw [e])
theorem iT : pQ (az yx) ([("chart", aF), ("kind", aF), ("right", aF), ("looked", aE), ("BadTree", aE), ("BadName", aE), ("BadBox", aE), ("BadDeed", aE), ("BadWay", aE)]) = true := Q.f
theorem Ti : aZ ["chart", "kind", "right"] ["chart"] (az yx) := bB
def bsL (r : Int) : List Bool := true :: (List.range 5).map fun k : Nat => decide ((k : Int) = r)
theorem acq {bs : Q.D} {nm : Q.h} {is os : List (List pV)} {ws : List pR} (hr : iE bs nm ks es ss is os ws ≠ -1) : iE bs nm ks es ss is os ws = 0 \/ iE bs nm ks es ss is os ws = 1 \/ iE bs nm ks es ss is os ws = 2 \/ iE bs nm ks es ss is os ws = 3 \/ iE bs nm ks es ss is os ws = 4 := by
 revert hr
 unfold iE
 intro hr
 split
 . exact .inl rfl
 . split
   . exact .inr (.inl rfl)
   . split
     . exact .inr (.inr (.inl rfl))
     . split
       . exact .inr (.inr (.inr (.inl rfl)))
       . split
         . exact .inr (.inr (.inr (.inr rfl)))
         . rename_i h1 h2 h3 h4 h5
           rw [as5 h1, as5 h2, as5 h3, as5 h4, as5 h5] at hr
           exact absurd rfl hr
abbrev Hj : Stmt := top 70
abbrev Hl : Type := Q.D × List Str × List Str × List Int × List Int × List (List pV) × List (List pV) × List pR
def yz : Hl -> List L3.D := fun (bs, nm, ks, es, ss, is, os, ws) => [d8 (bs.map kL) (nm.map .str) (fJ ks es ss) (is.map bX) (os.map bX) (ws.map jK)]
def tW : Hl -> Prop := fun (bs, nm, ks, es, ss, is, os, ws) => BP bs nm ks is os ws /\ iE bs nm ks es ss is os ws ≠ -1
def yC : Hl -> T := fun (bs, nm, ks, es, ss, is, os, ws) => (.lst (((bsL Q.ad).map .bl).map T.sh) : T)
structure afK (X : Cx) (CL : Q.g) : Prop extends cT X where
 aY : Ln X 0 "chart"
 ni : Ln X 1 "marks"
 xg : Ln X 2 "e"
 gK : Gl X "looked"
 pP : Gl X "MoodError"
 aU : Gl X "isinstance"
 nj : Gl X "ValueError"
 fG : Gl X "BadTree"
 f9 : Gl X "BadName"
 jY : Gl X "BadBox"
 jf : Gl X "BadDeed"
 m9 : Gl X "BadWay"
 Qv : Fc X CL "looked" 6 1 rz oJ rA
 nk : X.mg "MoodError" = some (.ref (CL "MoodError"))
 aV : X.mg "isinstance" = none
 nq : X.mg "ValueError" = none
 ez : X.mg "BadTree" = some Q.H
 zT : fW X.K (CL "BadTree")
 fc : X.mg "BadName" = some Q.I
 zU : fW X.K (CL "BadName")
 ig : X.mg "BadBox" = some Q.K
 Eo : fW X.K (CL "BadBox")
 gR : X.mg "BadDeed" = some Q.J
 zV : fW X.K (CL "BadDeed")
 kG : X.mg "BadWay" = some Q.L
 Ep : fW X.K (CL "BadWay")
 iu : FcR X CL "looked" 6 1 ng cA nh
 st : X.stack = X.env :: X.outer
 fm : X.env.frame = some X.env.locals
 nx : X.xe = fun _ _ => False
 xh : PySem.W.exmOne X.K Q.H (.ref (CL "MoodError")) = some true
 xj : PySem.W.exmOne X.K Q.I (.ref (CL "MoodError")) = some true
 yU : PySem.W.exmOne X.K Q.K (.ref (CL "MoodError")) = some true
 xm : PySem.W.exmOne X.K Q.J (.ref (CL "MoodError")) = some true
 yV : PySem.W.exmOne X.K Q.L (.ref (CL "MoodError")) = some true
 ex0 : X.ex = []
 acr : X.env.kindOf "e" = some .local
 C4 : PySem.W.kitOne X.K Q.H Q.K = some false
 C5 : PySem.W.kitOne X.K Q.I Q.K = some false
 Eu : PySem.W.kitOne X.K Q.K Q.K = some true
 C6 : PySem.W.kitOne X.K Q.J Q.K = some false
 Ew : PySem.W.kitOne X.K Q.L Q.K = some false
 z9 : PySem.W.kitOne X.K Q.H Q.J = some false
 Aa : PySem.W.kitOne X.K Q.I Q.J = some false
 C7 : PySem.W.kitOne X.K Q.K Q.J = some false
 Ab : PySem.W.kitOne X.K Q.J Q.J = some true
 C8 : PySem.W.kitOne X.K Q.L Q.J = some false
 Ac : PySem.W.kitOne X.K Q.H Q.I = some false
 Ad : PySem.W.kitOne X.K Q.I Q.I = some true
 C9 : PySem.W.kitOne X.K Q.K Q.I = some false
 Ae : PySem.W.kitOne X.K Q.J Q.I = some false
 Dc : PySem.W.kitOne X.K Q.L Q.I = some false
 Af : PySem.W.kitOne X.K Q.H Q.H = some true
 Ag : PySem.W.kitOne X.K Q.I Q.H = some false
 De : PySem.W.kitOne X.K Q.K Q.H = some false
 Ah : PySem.W.kitOne X.K Q.J Q.H = some false
 Df : PySem.W.kitOne X.K Q.L Q.H = some false
 Dg : PySem.W.kitOne X.K Q.H Q.L = some false
 Dh : PySem.W.kitOne X.K Q.I Q.L = some false
 Ex : PySem.W.kitOne X.K Q.K Q.L = some false
 Di : PySem.W.kitOne X.K Q.J Q.L = some false
 Ey : PySem.W.kitOne X.K Q.L Q.L = some true
 vR : PySem.W.kitOne X.K Q.H (.type "ValueError") = some true
 vS : PySem.W.kitOne X.K Q.I (.type "ValueError") = some true
 xo : PySem.W.kitOne X.K Q.K (.type "ValueError") = some true
 vU : PySem.W.kitOne X.K Q.J (.type "ValueError") = some true
 xq : PySem.W.kitOne X.K Q.L (.type "ValueError") = some true
 oK : kK X.K (CL "BadTree")
 oM : kK X.K (CL "BadName")
 qJ : kK X.K (CL "BadBox")
 oN : kK X.K (CL "BadDeed")
 qK : kK X.K (CL "BadWay")
theorem afL {b : Bx} (E : afK X CL) {cz : Hl} (h : tW cz) :
   aN X CL b Hj ["chart", "marks", "e"] (yz cz) (yC cz) := by
 obtain ⟨bs, nm, ks, es, ss, is, os, ws⟩ := cz
 dsimp only [aN, tW, yz, yC] at h ⊢
 obtain ⟨h, hr⟩ := h
 refine bf E.g E.ni (cR cV (atx _)) ?_
 rcases acq hr with e | e | e | e | e
 . have M0 : Il Q.ad = "BadTree" := by rw [e]; rfl
   refine HY (c := "BadTree") (δ1 := [some Q.an, some (.lst []), none]) E.st E.fm E.nx E.ex0 E.g.nd E.xg E.acr (fun p => by rw [← M0]; exact HV Q.aG) E.pP E.nk E.xh (by exact Nat.le_of_ble_eq_true rfl) (fun a b' hz => ?_)
   refine sQ E.g.nd E.ni.hand (fO (X := X.hand a) (ds := [.bl true, .bl true, .bl false, .bl false, .bl false, .bl false]) (ay (dM (X := X.hand a) hz (by exact E.oK) Q.y Q.z (ao Q.x Q.aQ) (.one rfl (by exact E.vR))) (ay (dM (X := X.hand a) hz (by exact E.oK) Q.y Q.z (ao Q.x Q.aR) (.one rfl (by exact E.Af))) (ay (dM (X := X.hand a) hz (by exact E.oK) Q.y Q.z (ao Q.x Q.aS) (.one rfl (by exact E.Ac))) (ay (dM (X := X.hand a) hz (by exact E.oK) Q.y Q.z (ao Q.x Q.aU) (.one rfl (by exact E.C4))) (ay (dM (X := X.hand a) hz (by exact E.oK) Q.y Q.z (ao Q.x Q.aT) (.one rfl (by exact E.z9))) (ay (dM (X := X.hand a) hz (by exact E.oK) Q.y Q.z (ao Q.x Q.aV) (.one rfl (by exact E.Dg))) bK)))))) Q.i) (ak ⟨.inr ⟨_, rfl⟩, ?_⟩)
   exact bx (vM E.ni.1) (by rw [e]; rfl)
 . have M0 : Il Q.ad = "BadName" := by rw [e]; rfl
   refine HY (c := "BadName") (δ1 := [some Q.an, some (.lst []), none]) E.st E.fm E.nx E.ex0 E.g.nd E.xg E.acr (fun p => by rw [← M0]; exact HV Q.aG) E.pP E.nk E.xj (by exact Nat.le_of_ble_eq_true rfl) (fun a b' hz => ?_)
   refine sQ E.g.nd E.ni.hand (fO (X := X.hand a) (ds := [.bl true, .bl false, .bl true, .bl false, .bl false, .bl false]) (ay (dM (X := X.hand a) hz (by exact E.oM) Q.y Q.z (ao Q.x Q.aQ) (.one rfl (by exact E.vS))) (ay (dM (X := X.hand a) hz (by exact E.oM) Q.y Q.z (ao Q.x Q.aR) (.one rfl (by exact E.Ag))) (ay (dM (X := X.hand a) hz (by exact E.oM) Q.y Q.z (ao Q.x Q.aS) (.one rfl (by exact E.Ad))) (ay (dM (X := X.hand a) hz (by exact E.oM) Q.y Q.z (ao Q.x Q.aU) (.one rfl (by exact E.C5))) (ay (dM (X := X.hand a) hz (by exact E.oM) Q.y Q.z (ao Q.x Q.aT) (.one rfl (by exact E.Aa))) (ay (dM (X := X.hand a) hz (by exact E.oM) Q.y Q.z (ao Q.x Q.aV) (.one rfl (by exact E.Dh))) bK)))))) Q.i) (ak ⟨.inr ⟨_, rfl⟩, ?_⟩)
   exact bx (vM E.ni.1) (by rw [e]; rfl)
 . have M0 : Il Q.ad = "BadBox" := by rw [e]; rfl
   refine HY (c := "BadBox") (δ1 := [some Q.an, some (.lst []), none]) E.st E.fm E.nx E.ex0 E.g.nd E.xg E.acr (fun p => by rw [← M0]; exact HV Q.aG) E.pP E.nk E.yU (by exact Nat.le_of_ble_eq_true rfl) (fun a b' hz => ?_)
   refine sQ E.g.nd E.ni.hand (fO (X := X.hand a) (ds := [.bl true, .bl false, .bl false, .bl true, .bl false, .bl false]) (ay (dM (X := X.hand a) hz (by exact E.qJ) Q.y Q.z (ao Q.x Q.aQ) (.one rfl (by exact E.xo))) (ay (dM (X := X.hand a) hz (by exact E.qJ) Q.y Q.z (ao Q.x Q.aR) (.one rfl (by exact E.De))) (ay (dM (X := X.hand a) hz (by exact E.qJ) Q.y Q.z (ao Q.x Q.aS) (.one rfl (by exact E.C9))) (ay (dM (X := X.hand a) hz (by exact E.qJ) Q.y Q.z (ao Q.x Q.aU) (.one rfl (by exact E.Eu))) (ay (dM (X := X.hand a) hz (by exact E.qJ) Q.y Q.z (ao Q.x Q.aT) (.one rfl (by exact E.C7))) (ay (dM (X := X.hand a) hz (by exact E.qJ) Q.y Q.z (ao Q.x Q.aV) (.one rfl (by exact E.Ex))) bK)))))) Q.i) (ak ⟨.inr ⟨_, rfl⟩, ?_⟩)
   exact bx (vM E.ni.1) (by rw [e]; rfl)
 . have M0 : Il Q.ad = "BadDeed" := by rw [e]; rfl
   refine HY (c := "BadDeed") (δ1 := [some Q.an, some (.lst []), none]) E.st E.fm E.nx E.ex0 E.g.nd E.xg E.acr (fun p => by rw [← M0]; exact HV Q.aG) E.pP E.nk E.xm (by exact Nat.le_of_ble_eq_true rfl) (fun a b' hz => ?_)
   refine sQ E.g.nd E.ni.hand (fO (X := X.hand a) (ds := [.bl true, .bl false, .bl false, .bl false, .bl true, .bl false]) (ay (dM (X := X.hand a) hz (by exact E.oN) Q.y Q.z (ao Q.x Q.aQ) (.one rfl (by exact E.vU))) (ay (dM (X := X.hand a) hz (by exact E.oN) Q.y Q.z (ao Q.x Q.aR) (.one rfl (by exact E.Ah))) (ay (dM (X := X.hand a) hz (by exact E.oN) Q.y Q.z (ao Q.x Q.aS) (.one rfl (by exact E.Ae))) (ay (dM (X := X.hand a) hz (by exact E.oN) Q.y Q.z (ao Q.x Q.aU) (.one rfl (by exact E.C6))) (ay (dM (X := X.hand a) hz (by exact E.oN) Q.y Q.z (ao Q.x Q.aT) (.one rfl (by exact E.Ab))) (ay (dM (X := X.hand a) hz (by exact E.oN) Q.y Q.z (ao Q.x Q.aV) (.one rfl (by exact E.Di))) bK)))))) Q.i) (ak ⟨.inr ⟨_, rfl⟩, ?_⟩)
   exact bx (vM E.ni.1) (by rw [e]; rfl)
 . have M0 : Il Q.ad = "BadWay" := by rw [e]; rfl
   refine HY (c := "BadWay") (δ1 := [some Q.an, some (.lst []), none]) E.st E.fm E.nx E.ex0 E.g.nd E.xg E.acr (fun p => by rw [← M0]; exact HV Q.aG) E.pP E.nk E.yV (by exact Nat.le_of_ble_eq_true rfl) (fun a b' hz => ?_)
   refine sQ E.g.nd E.ni.hand (fO (X := X.hand a) (ds := [.bl true, .bl false, .bl false, .bl false, .bl false, .bl true]) (ay (dM (X := X.hand a) hz (by exact E.qK) Q.y Q.z (ao Q.x Q.aQ) (.one rfl (by exact E.xq))) (ay (dM (X := X.hand a) hz (by exact E.qK) Q.y Q.z (ao Q.x Q.aR) (.one rfl (by exact E.Df))) (ay (dM (X := X.hand a) hz (by exact E.qK) Q.y Q.z (ao Q.x Q.aS) (.one rfl (by exact E.Dc))) (ay (dM (X := X.hand a) hz (by exact E.qK) Q.y Q.z (ao Q.x Q.aU) (.one rfl (by exact E.Ew))) (ay (dM (X := X.hand a) hz (by exact E.qK) Q.y Q.z (ao Q.x Q.aT) (.one rfl (by exact E.C8))) (ay (dM (X := X.hand a) hz (by exact E.qK) Q.y Q.z (ao Q.x Q.aV) (.one rfl (by exact E.Ey))) bK)))))) Q.i) (ak ⟨.inr ⟨_, rfl⟩, ?_⟩)
   exact bx (vM E.ni.1) (by rw [e]; rfl)
theorem i9 : pQ (az Hj) ([("chart", aF), ("marks", aF), ("e", aF), ("looked", aE), ("MoodError", aE), ("isinstance", aE), ("ValueError", aE), ("BadTree", aE), ("BadName", aE), ("BadBox", aE), ("BadDeed", aE), ("BadWay", aE)]) = true := Q.f
theorem acs : aZ ["chart", "marks", "e"] ["chart"] (az Hj) := bB
theorem M3 {t : T} (h1 : D.cZ bs = true) (h2 : D.cZ nm = true) (h3 : t.clean = true) (h4 : D.cZ is = true) (h5 : D.cZ os = true) (h6 : D.cZ ws = true) : T.cQ (wA bs nm t is os ws) = true := by
 unfold wA D7 D8
 rw [atV, atV, auA, T.cQ, T.cQ, T.cQ, T.cQ, T.cQ, T.cQ, T.cQ, cj h1, cj h2, h3, cj h4, cj h5, cj h6]
 rfl
theorem acu (w : pR) : (jK w).qc = true := by
 show (true && (true && (D.cZ (w.al.map xX) && ((bX w.dl).qc && (true && (true && true)))))) = true
 rw [show D.cZ (w.al.map xX) = true from tK w.al, iY]
 rfl
def Pt.D (p : Pt) : L3.D := prV p.bs p.nm p.ks p.es p.ss p.is p.os p.ws
theorem aj5 (p : Pt) : (uw p).iU = p.D := by
 unfold uw Rn Pt.D prV
 rw [T.iU, T.lB, T.lB, T.lB, T.lB, T.lB, T.lB, T.lB, T.lB, T.lB, bH, bH, bH, bH, bH, bH, bH, bH]
theorem acv (p : Pt) : (uw p).clean = true := by
 unfold uw Rn
 rw [T.clean, T.eX, T.eX, T.eX, T.eX, T.eX, T.eX, T.eX, T.eX, T.eX, cj (bS (f := kL) (fun _ => rfl) _), cj (pH _), cj (pH _), cj (gi _), cj (gi _), cj (bS iY _), cj (bS iY _), cj (bS acu _)]
 rfl
def Pt.chT (p : Pt) : T := .ins "Chart" (wA (p.bs.map kL) (p.nm.map .str) (.ins "Tree" (BJ p.ks p.es p.ss)) (p.is.map bX) (p.os.map bX) (p.ws.map jK))
def Pt.chD (p : Pt) : L3.D := d8 (p.bs.map kL) (p.nm.map .str) (fJ p.ks p.es p.ss) (p.is.map bX) (p.os.map bX) (p.ws.map jK)
theorem aj6 (p : Pt) : p.chT.iU = p.chD := by
 unfold Pt.chT Pt.chD
 rw [R6, Yh]
theorem acw (p : Pt) : p.chT.clean = true := M3 (bS (fun _ => rfl) _) (pH _) (FT _ _ _) (bS iY _) (bS iY _) (bS acu _)
theorem afM : ∀ l : List Bool, RP (.lst (l.map .bl)) (.lst (l.map .bl)) = true := fun l => Ph (n := 60) (.lst fun d hd => by
 obtain ⟨q, _, rfl⟩ := atj.mp hd
 exact .bl _ _)
theorem W2 (l : List Bool) : qO 60 (.lst (l.map .bl)) := .lst fun d hd => by
 obtain ⟨q, _, rfl⟩ := atj.mp hd
 exact .bl _ _
def ptK (s : Q.e) : Pt := Yw (Kg s (DL s)) (dB Q.ap (kJ (DL s))) (wH s (yR s (kJ (DL s) - 1)) (kJ (DL s))) (yR s (kJ (DL s) - 1)) (wI s (yR s (kJ (DL s) - 1)) (kJ (DL s))) (iZ s (G3 (DL s)) (dB Q.ap (kJ (DL s))) 1 (kJ (DL s))) (iZ s (G3 (DL s)) (dB Q.ap (kJ (DL s))) 3 (kJ (DL s))) (zI s (dB Q.ap (kJ (DL s))) (sS s (DL s) (kJ (DL s))) (G3 (DL s)) (kJ (DL s)) (sS s (DL s) (kJ (DL s))).length)
theorem ahg (s : Q.e) : T.lst ((SJ s (DL s) Q.ap).map fun l => T.lst (l.map T.sh)) = uw (ptK s) := ajP _ _ _ _ _ _ _ _
theorem YR (s : Q.e) : (∀ w, qa w 50 (ptK s)) /\ (ptK s).ref = -1 := Qa (abZ s (DL s) Q.ap) (Qc s (DL s) _)
theorem aj7 {l : List α} (h : l.length <= 120) : cutD l none (some 120) = l := (Ce (k := 120) rfl).trans (List.take_of_length_le h)
def pwL : List Int := [1, 2, 4, 8, 16]
def Tj (n : Nat) : List Nat := (List.range 5).filter fun k => decide ((n : Int) / pwL.getD k 0 % 2 = 1)
def chL (n : Nat) : List Nat := if (Tj n).length < 2 then [n % 4, 4] else Tj n
theorem aj8 : ∀ n : Nat, n < 32 -> (chL n).Pairwise (· < ·) /\ (∀ w ∈ chL n, w <= 4) /\ 2 <= (chL n).length /\ (chL n).length <= 5 /\ (Tj n).length <= 5 := Q.f
def czK (s : Q.e) (w : Nat) : Int := cB s (4 + (w : Int)) / 7 % 10 ^ (60 : Int).toNat
def spJ (s : Q.e) (ch : List Nat) (p : Pt) : Nat -> Pt
 | 0 => p
 | j + 1 => spK (ch.getD (ch.length - 1 - j) 0) (spJ s ch p j) (czK s (ch.getD (ch.length - 1 - j) 0))
theorem acy {s : Q.e} {ch : List Nat} {p : Pt} (hP : ch.Pairwise (· < ·)) (h4 : ∀ w ∈ ch, w <= 4) (hA : ∀ w, qa w 50 p) : ∀ j, j <= ch.length -> (∀ v, (0 < j -> v < ch.getD (ch.length - j) 0) -> qa v (50 + 2 * j) (spJ s ch p j)) /\ (0 < j -> (spJ s ch p j).ref = ((ch.getD (ch.length - j) 0 : Nat) : Int) /\ Ox (50 + 2 * j) (spJ s ch p j))
 | 0, _ => ⟨fun v _ => hA v, fun h => absurd h Q.a⟩
 | j + 1, hj => by
   obtain ⟨a1, _⟩ := acy (s := s) hP h4 hA j Q.a
   have hi : ch.length - 1 - j < ch.length := by omega
   have hw4 : ch.getD (ch.length - 1 - j) 0 <= 4 := h4 _ (g8 hi)
   have hA2 := a1 (ch.getD (ch.length - 1 - j) 0) (fun h0 => by
     have := auO.mp hP (ch.length - 1 - j) (ch.length - j) hi Q.a Q.a
     rw [atg, atm hi, atg, atm (show ch.length - j < ch.length by omega)]
     exact this)
   have e : ch.length - (j + 1) = ch.length - 1 - j := by omega
   rw [e]
   exact ⟨fun v hv => Yo _ hA2 hw4 (hv Q.a), fun _ => ⟨aeU _ hA2 hw4, abF _ hA2⟩⟩
abbrev W3 : Stmt := top 71
abbrev acz : Type := List Int
def yE : acz -> List L3.D := fun a => [.lst (a.map .int)]
def yF : acz -> Prop := fun a => a.length <= 63
def yG : acz -> T := fun a => (.sh (.bl true) : T)
structure amF (X : Cx) (CL : Q.g) : Prop extends cT X where
 bV : Ln X 0 "script"
 aO : Ln X 1 "parts"
 Tp : Ln X 2 "bits"
 aj9 : X.env.kindOf "bits" = some .cell
 t6 : Ln X 3 "k"
 nu : Ln X 4 "chosen"
 acA : X.env.kindOf "chosen" = some .cell
 sd : Ln X 5 "which"
 aY : Ln X 6 "chart"
 M4 : Gl X "_law_parts"
 bP : Gl X "_law_cell_at"
 cW : Gl X "range"
 cJ : Gl X "len"
 M5 : Gl X "_law_spoil"
 M6 : Gl X "_law_chart"
 xr : Gl X "_law_refusal"
 M7 : Gl X "_law_bases"
 afO : Fc X CL "_law_parts" 5 1 yf yg yh
 dg : Fc X CL "_law_cell_at" 1 2 gj gk gu
 cX : X.mg "range" = none
 cF : X.mg "len" = none
 afP : FcM X CL "_law_spoil" 4 3 tP ym tQ qG
 afQ : Fc X CL "_law_chart" 3 1 yo yp yq
 K0 : Fc X CL "_law_refusal" 7 1 sA sC sE
 afR : Fc X CL "_law_bases" 7 1 yz tW yC
theorem amG {b : Bx} (E : amF X CL) {a} (h : yF a) :
   aN X CL b W3 ["script", "parts", "bits", "k", "chosen", "which", "chart"] (yE a) (yG a) := by
 dsimp only [aN, yF, yE, yG] at h ⊢
 have hs : a.length <= 63 := by omega
 obtain ⟨s, hsd⟩ : ∃ s : List Int, s = a.map (· % 10 ^ (64 : Int).toNat) := ⟨_, rfl⟩
 have hsl : s.length <= 100 := by rw [hsd, as4]; omega
 have amH : cutD (a.map L3.D.int) none (some 120) = a.map L3.D.int := aj7 (by rw [as4]; omega)
 refine HN (p := fun _ => true) (gg := fun d => T.sh (.int (d.FG % 10 ^ (64 : Int).toNat))) E.g E.bV (d7 .nil Q.d) (ud (LD (ds := a.map .int) (aK (qP (aL E.bV) (gi _) oZ (pe Q.b)) (by rw [amH])))) (.inr rfl) (fun C s0 H0 f0 b' d hd => ?Ys) (aub (cS (by rw [as4]; omega))) ?rest (by exact atf rfl) (wj ⟨_, rfl⟩)
 case Ys =>
   obtain ⟨i, _, rfl⟩ := atj.mp hd
   exact ⟨rfl, fun _ => (aQ Q.af (ai Q.O) Q.c)⟩
 case rest =>
 have em : ((a.map L3.D.int).filter fun _ => true).map (fun d => T.sh (.int (d.FG % 10 ^ (64 : Int).toNat))) = (s.map .int).map T.sh := by
   rw [mz, hsd, atF, atF, atF]
   rfl
 rw [em]
 clear em amH
 refine bf E.g E.aO (aK (c_ s E.afO E.M4 (ao (vL E.bV.1) aG) hsl (by show (T.lst _).clean = true; rw [ahg]; exact acv _)) (t2 := uw (ptK s)) (ahg s)) ?_
 obtain ⟨hA, hR⟩ := YR s
 obtain ⟨p, hp⟩ : ∃ p, p = ptK s := ⟨_, rfl⟩
 rw [← hp] at hA hR ⊢
 obtain ⟨n, hn⟩ : ∃ n : Nat, n = (cB s 3 / 11 % 32).toNat := ⟨_, rfl⟩
 have hn2 : (n : Int) = cB s 3 / 11 % 32 := by omega
 obtain ⟨hP, h4, hl2, hl5, hl1⟩ := aj8 n Q.a
 have c3 : (0 : Int) <= 3 := by decide
 refine bf E.g E.Tp (aK (aQ (ai (aR (ai (c_ (s, 3) E.dg E.bP (ao (vL E.bV.1) (ao Q.b aG)) c3 rfl)) Q.b ⟨by decide, by decide⟩)) Q.b Q.c) (t2 := .sh (.int (n : Nat))) (by rw [hn2])) ?_
 refine HN (p := fun d => decide ((n : Int) / pwL.getD d.FG.toNat 0 % 2 = 1)) (gg := fun d => T.sh d) E.g E.nu (d7 (.cons E.Tp.1 (.inl E.aj9) .nil) Q.d) (fk E.cX Q.b Q.a E.cW) (.inr rfl) (fun C s0 H0 f0 b' d hd => ?ajT) (aub (cS Q.c)) ?amI (by exact atf rfl) (wj ⟨_, rfl⟩)
 case ajT =>
   obtain ⟨i, hi, rfl⟩ := atj.mp hd
   have hi2 : i < 5 := atP.mp hi
   have hpw : ∀ i : Nat, i < 5 -> 0 < pwL.getD i 0 /\ pwL.getD i 0 < 1000 := Q.f
   have et : (0 + (i : Int)).toNat = i := by omega
   obtain ⟨q1, q2⟩ := hpw (0 + (i : Int)).toNat Q.a
   exact ⟨(bI (ai (aQ (ai (aR Q.aE (bu (bJ (aK (cR (bA aj (bA aj (bA aj (bA aj (bA aj cV))))) Q.i) (t2 := .lst ((pwL.map L3.D.int).map T.sh)) rfl)) Q.af (fH (bs := pwL) (show (0 : Int) <= 0 + (i : Int) by omega) (show 0 + (i : Int) < 5 by omega))) ⟨q1, by omega⟩)) Q.b Q.c)) Q.b).1, fun _ => v_ (ji (i := 0) rfl Q.d)⟩
 case amI =>
 have em1 : ((cO 0 5).filter fun d => decide ((n : Int) / pwL.getD d.FG.toNat 0 % 2 = 1)).map (fun d => T.sh d) = ((Tj n).map fun k : Nat => L3.D.int (k : Int)).map T.sh := by
   unfold cO Tj
   rw [List.filter_map, atF, atF]
   have e1 : ((fun d : L3.D => decide ((n : Int) / pwL.getD d.FG.toNat 0 % 2 = 1)) ∘ fun (k : Nat) => L3.D.int (0 + (k : Int))) = fun (i : Nat) => decide ((n : Int) / pwL.getD i 0 % 2 = 1) := by
     funext i
     show decide ((n : Int) / pwL.getD (0 + (i : Int)).toNat 0 % 2 = 1) = _
     rw [aul, atH]
   rw [e1]
   refine auk fun k _ => ?_
   show T.sh (.int (0 + (k : Int))) = _
   rw [aul]
   rfl
 rw [show (5 : Int).toNat = 5 from rfl, em1]
 refine Hy (fun δ => δ = [some (.lst ((s.map .int).map T.sh)), some (uw p), some (.sh (.int (n : Nat))), none, some (.lst (((chL n).map fun k : Nat => L3.D.int (k : Int)).map T.sh)), none, none]) (Hw (ai (cG (as4 ..) E.cF (vL E.nu.1) E.cJ)) Q.b).1 (fun hz => ?yes) (fun hz => ak ?no) ?_
 case yes =>
   have hz : (Tj n).length < 2 := by have := as6 hz; omega
   refine bf E.g E.nu (aK (cR (bA (aQ (aL E.Tp) Q.b Q.c) (bA aj cV)) Q.i) (t2 := .lst (((chL n).map fun k : Nat => L3.D.int (k : Int)).map T.sh)) ?_) (ak rfl)
   unfold chL
   rw [atb hz]
   show T.lst [.sh (.int ((n : Int) % 4)), .sh (.int 4)] = T.lst [.sh (.int ((n % 4 : Nat) : Int)), .sh (.int 4)]
   rw [show ((n % 4 : Nat) : Int) = (n : Int) % 4 by omega]
 case no =>
   have hz : ¬ (Tj n).length < 2 := by have := atd hz; omega
   unfold chL
   rw [as5 hz]
   rfl
 rintro δ rfl
 have hJ := acy (s := s) hP h4 hA
 generalize hch : chL n = ch at *
 have hln : (ch.map fun k : Nat => L3.D.int (k : Int)).length = ch.length := as4 ..
 refine oA E.g E.t6 (fun j δ => ∃ o3 o5, δ = [some (.lst ((s.map .int).map T.sh)), some (uw (spJ s ch p j)), some (.sh (.int (n : Nat))), o3, some (.lst ((ch.map fun k : Nat => L3.D.int (k : Int)).map T.sh)), o5, none]) (fk E.cX (ai (cG (hln) E.cF (vL E.nu.1) E.cJ)) Q.a E.cW) ⟨_, _, rfl⟩ Q.at ?turn ?fin
 case turn =>
   rintro j d δ hj ⟨o3, o5, rfl⟩
   obtain ⟨rfl, FU⟩ := kR hj
   have hjn : j < ch.length := by simpa using FU
   obtain ⟨w, hw⟩ : ∃ w : Nat, w = ch.getD (ch.length - 1 - j) 0 := ⟨_, rfl⟩
   have hat : yW (ch.map fun k : Nat => L3.D.int (k : Int)) ((ch.length : Int) - 1 - (0 + (j : Int))) = some (.int (w : Int)) := (fV (f := fun k : Nat => L3.D.int (k : Int)) (0 : Nat) Q.a Q.a).trans (by rw [hw, show ((ch.length : Int) - 1 - (0 + (j : Int))).toNat = ch.length - 1 - j by omega])
   have hAj := (hJ j Q.a).1 w (fun h0 => by
     have := auO.mp hP (ch.length - 1 - j) (ch.length - j) Q.a Q.a Q.a
     rw [hw, atg, atm (show ch.length - 1 - j < ch.length by omega), atg, atm (show ch.length - j < ch.length by omega)]
     exact this)
   have hw4 : w <= 4 := by rw [hw]; exact h4 _ (g8 Q.a)
   have eJ : spJ s ch p (j + 1) = spK w (spJ s ch p j) (czK s w) := by rw [hw]; rfl
   refine bf E.g E.sd (aK (b7 (bu (vL E.nu.1) (ai (dZ (ai (dZ (ai (cG (hln) E.cF (vL E.nu.1) E.cJ)) Q.b)) (aL E.t6))) hat) rfl) (t2 := .sh (.int (w : Nat))) rfl) ?_
   refine xW (cM1 (t := .sh .non) (fun y => (y, spJ s ch p j, w, czK s w, 50 + 2 * j)) (uw (spJ s ch p (j + 1))) E.afP E.M5 (al1 E.aO.1 rfl rfl (HQ (v_ E.sd.1) (HQ (aK (aQ (ai (aR (ai (c_ (s, 4 + (w : Int)) E.dg E.bP (ao (vL E.bV.1) (ao (ai (bW Q.b (aL E.sd))) aG)) (show (0 : Int) <= 4 + (w : Int) by omega) rfl)) Q.b ⟨by decide, by decide⟩)) (ai Q.O) Q.c) (t2 := .sh (.int (czK s w))) rfl) D3))) (fun y _ => ⟨hAj, by omega, hw4⟩) (fun y _ => rfl) (fun y _ => ⟨rfl, .inl (by rw [eJ]), trivial⟩)) (ak ⟨_, _, rfl⟩)
 case fin =>
 rintro δ ⟨o3, o5, rfl⟩
 rw [show (cO 0 (ch.length : Int).toNat).length = ch.length by simp [cO]]
 obtain ⟨hr, apI⟩ := (hJ ch.length (atq _)).2 Q.a
 rw [avh] at hr
 have Hu := apI.shape Q.a
 obtain ⟨w, hw⟩ : ∃ w : Nat, w = ch.getD 0 0 := ⟨_, rfl⟩
 rw [← hw] at hr
 obtain ⟨q, hq⟩ : ∃ q, q = spJ s ch p ch.length := ⟨_, rfl⟩
 rw [← hq] at hr Hu ⊢
 have ZS : q.ref ≠ -1 := by rw [hr]; omega
 have aka : yW (ch.map fun k : Nat => L3.D.int (k : Int)) 0 = some (.int (w : Int)) := (fV (f := fun k : Nat => L3.D.int (k : Int)) (0 : Nat) Q.a Q.a).trans (by rw [hw]; rfl)
 refine bf E.g E.aY (aec (d := q.chD) (aK (c_ (q.bs, q.nm, q.ks, q.es, q.ss, q.is, q.os, q.ws) E.afQ E.M6 (ao (vE E.aO.1 rfl (aj5 q)) aG) trivial (acw q)) (t2 := q.chT) rfl) (aj6 q)) ?_
 refine b5 (pU (ai (aK (c_ (q.bs, q.nm, q.ks, q.es, q.ss, q.is, q.os, q.ws) E.K0 E.xr (ao (aL E.aY) aG) Hu rfl) (t2 := .sh (.int (w : Nat))) (congrArg (fun z => T.sh (.int z)) hr))) (bu (vL E.nu.1) Q.b aka)).1 (fun hp => by rw [ata rfl] at hp; cases hp) (fun _ => ak ?_)
 have hcl : ∀ l : List Bool, (T.lst ((l.map L3.D.bl).map T.sh)).clean = true := fun l => cj (bS (fun _ => rfl) _)
 refine b5 (Lx E.u (d1 := .lst ((bsL (w : Int)).map .bl)) (d2 := .lst ((bsL (w : Int)).map .bl)) (bJ (aK (c_ (q.bs, q.nm, q.ks, q.es, q.ss, q.is, q.os, q.ws) E.afR E.M7 (ao (aL E.aY) aG) (by dsimp only [tW]; exact ⟨Hu, ZS⟩) (hcl _)) (t2 := .lst (((bsL (w : Int)).map L3.D.bl).map T.sh)) (congrArg (fun z => T.lst (((bsL z).map L3.D.bl).map T.sh)) hr))) (bJ (aK (ug (ds := [.bl true]) (V1 := ((List.range 5).map fun k : Nat => decide ((k : Int) = (w : Int))).map .bl) (bJ (fO (ay gf bK) Q.i)) (bJ (aK (rM (δc := [some (.sh (.lst (ch.map fun k : Nat => L3.D.int (k : Int))))]) (p := fun _ => true) (g := fun d => T.sh (.bl (decide (d.FG = (w : Int))))) (d7 (.cons E.nu.1 (.inl E.acA) .nil) Q.d) E.g.calm (fk E.cX Q.b Q.a E.cW) (.inl ⟨(by show _ = [some (T.sh (T.iU (.lst ((ch.map fun k : Nat => L3.D.int (k : Int)).map T.sh))))]; rw [bH]), fun _ _ => rfl⟩) (fun C s0 H0 f0 b' d hd => ?ajS) (Nat.le_of_lt (cS Q.c))) (t2 := .lst ((((List.range 5).map fun k : Nat => decide ((k : Int) = (w : Int))).map .bl).map T.sh)) ?apJ)) rfl (bS (fun _ => rfl) _) Q.i) (t2 := .lst (((bsL (w : Int)).map .bl).map T.sh)) rfl)) (W2 _) (W2 _)).1 (fun hp => by rw [afM] at hp; cases hp) (fun _ => ak ?_)
 case ajS =>
   obtain ⟨i, _, rfl⟩ := atj.mp hd
   exact ⟨rfl, fun _ => (bI Q.af (bu Q.aE Q.b aka)).2⟩
 case apJ =>
   rfl
 exact bx (aK (bI (ai (aK (c_ (q.bs, q.nm, q.ks, q.es, q.ss, q.is, q.os, q.ws) E.K0 E.xr (ao (aL E.aY) aG) Hu rfl) (t2 := .sh (.int (w : Nat))) (congrArg (fun z => T.sh (.int z)) hr))) (bu (vL E.nu.1) Q.b aka)).2 (t2 := .sh (.bl true)) (by rw [ata rfl])) rfl
theorem jZ : pQ (az W3) ([("script", aF), ("parts", aF), ("bits", .cell), ("k", aF), ("chosen", .cell), ("which", aF), ("chart", aF), ("_law_parts", aE), ("_law_cell_at", aE), ("range", aE), ("len", aE), ("_law_spoil", aE), ("_law_chart", aE), ("_law_refusal", aE), ("_law_bases", aE)]) = true := Q.f
theorem acB : aZ ["script", "parts", "bits", "k", "chosen", "which", "chart"] ["script"] (az W3) := bB
def cl (aJ aM aD aq au aA av aB : Addr) : Str -> Addr := fun c => if c = "Chart" then aJ else if c = "Tree" then aM else if c = "MoodError" then aD else if c = "BadTree" then aq else if c = "BadName" then au else if c = "BadBox" then aA else if c = "BadDeed" then av else if c = "BadWay" then aB else 0
variable {aJ aM aD aq au aA av aB : Addr}
theorem ny : cl aJ aM aD aq au aA av aB "Chart" = aJ := by unfold cl; rw [atb rfl]
theorem yH : cl aJ aM aD aq au aA av aB "Tree" = aM := by unfold cl; rw [as5 Q.d]; rw [atb rfl]
theorem kH : cl aJ aM aD aq au aA av aB "MoodError" = aD := by unfold cl; rw [as5 Q.d]; rw [as5 Q.d]; rw [atb rfl]
theorem bC : cl aJ aM aD aq au aA av aB "BadTree" = aq := by unfold cl; rw [as5 Q.d]; rw [as5 Q.d]; rw [as5 Q.d]; rw [atb rfl]
theorem bD : cl aJ aM aD aq au aA av aB "BadName" = au := by unfold cl; rw [as5 Q.d]; rw [as5 Q.d]; rw [as5 Q.d]; rw [as5 Q.d]; rw [atb rfl]
theorem bN : cl aJ aM aD aq au aA av aB "BadBox" = aA := by unfold cl; rw [as5 Q.d]; rw [as5 Q.d]; rw [as5 Q.d]; rw [as5 Q.d]; rw [as5 Q.d]; rw [atb rfl]
theorem bE : cl aJ aM aD aq au aA av aB "BadDeed" = av := by unfold cl; rw [as5 Q.d]; rw [as5 Q.d]; rw [as5 Q.d]; rw [as5 Q.d]; rw [as5 Q.d]; rw [as5 Q.d]; rw [atb rfl]
theorem bO : cl aJ aM aD aq au aA av aB "BadWay" = aB := by unfold cl; rw [as5 Q.d]; rw [as5 Q.d]; rw [as5 Q.d]; rw [as5 Q.d]; rw [as5 Q.d]; rw [as5 Q.d]; rw [as5 Q.d]; rw [atb rfl]
theorem akb {x : Str} (h : VP x = true) : cl aJ aM aD aq au aA av aB x = 0 := by unfold cl; rw [as5 Q.aB]; rw [as5 Q.aB]; rw [as5 Q.aB]; rw [as5 Q.aB]; rw [as5 Q.aB]; rw [as5 Q.aB]; rw [as5 Q.aB]; rw [as5 Q.aB]
theorem all_mk {l : PySem.W.OpenLaw} {w : World} {K : Q.l} {h : Heap} {mg : Q.B} {fa K1 Jc Qw W4 W5 ahh acC acD acE ahi ahj W6 uQ Jd uR xu Je Jf Qx uS K2 xx M8 sG qz W7 W8 W9 rB sH Jg rC vG K3 sI Dj sJ vH vI sL xA xB tX Dk K4 Xa ahk : Addr} (XX : K.In h) (G : h.Ns mainGlobals mg) (hfa : mg "law" = some (.ref fa))
   {YS Tq acF afS afT amJ akc akd ake amK amL afU M9 Tr Nb Qy Tt Tv acG Nf YT Qz afV QB Ng afW Cw MR lG mV d9 lH lA mF eW mY jF e7 pW jG rm rq kF gK YV afX ahl : FuncData}
   (Nh : kP K "Chart" aJ) (Jh : PySem.W.plainGet K aJ Str.empty = true) (Ji : PySem.W.hasDictIn K aJ = true) (Jj : PySem.W.plainOver K aJ = true) (Jk : PySem.W.findIn K (.ref aJ) "__setattr__" = some (some (.builtin "object.__setattr__"))) (Jl : PySem.W.makesIn K aJ = true) (Jm : PySem.W.keepIn K (.ref aJ) = true)
   (sW : PySem.W.findIn K (.ref aJ) "boxes" = some none)
   (sX : PySem.W.findIn K (.ref aJ) "names" = some none)
   (uT : PySem.W.findIn K (.ref aJ) "tree" = some none)
   (xC : PySem.W.findIn K (.ref aJ) "ins" = some none)
   (uU : PySem.W.findIn K (.ref aJ) "outs" = some none)
   (uV : PySem.W.findIn K (.ref aJ) "ways" = some none)
   (Tw : kP K "Tree" aM) (Ni : PySem.W.plainGet K aM Str.empty = true) (Nj : PySem.W.hasDictIn K aM = true) (Nk : PySem.W.plainOver K aM = true) (Nm : PySem.W.findIn K (.ref aM) "__setattr__" = some (some (.builtin "object.__setattr__"))) (Nn : PySem.W.makesIn K aM = true) (Np : PySem.W.keepIn K (.ref aM) = true)
   (uW : PySem.W.findIn K (.ref aM) "kinds" = some none)
   (sY : PySem.W.findIn K (.ref aM) "elders" = some none)
   (sZ : PySem.W.findIn K (.ref aM) "starts" = some none)
   (xD : kP K "MoodError" aD)
   (Ez : kP K "BadTree" aq)
   {Tz TF : Str} {EA : Addr} {TH Jo TJ : Q.q} {TL TN : Bool} {TQ : Q.h} {QC : Option Bool} {TR : Option Addr} {TV TX TY T3 T4 : Option Value} (Ai : K.lookup aq = some (excClassObj Tz TF aq EA TH Jo TL TQ TJ TN QC TR TV TX TY T3 T4 "ValueError.__new__")) (Aj : PySem.W.nsOkIn K EA = true) (Ak : PySem.W.nsIn K EA "__init__" = some none) (Al : PySem.W.tailIn K uo Jo = true)
   (EB : kP K "BadName" au)
   {T5 T6 : Str} {EC : Addr} {T7 Jp T8 : Q.q} {T9 Ua : Bool} {Ub : Q.h} {QD : Option Bool} {Uc : Option Addr} {Ud Ue Ug Uh Ui : Option Value} (Am : K.lookup au = some (excClassObj T5 T6 au EC T7 Jp T9 Ub T8 Ua QD Uc Ud Ue Ug Uh Ui "ValueError.__new__")) (An : PySem.W.nsOkIn K EC = true) (Ao : PySem.W.nsIn K EC "__init__" = some none) (Aq : PySem.W.tailIn K uo Jp = true)
   (Jq : kP K "BadBox" aA)
   {YW YX : Str} {Jr : Addr} {YY K5 YZ : Q.q} {Y0 Y3 : Bool} {Y4 : Q.h} {Uj : Option Bool} {Y5 : Option Addr} {Y6 Y7 Y8 Y9 Za : Option Value} (ED : K.lookup aA = some (excClassObj YW YX aA Jr YY K5 Y0 Y4 YZ Y3 Uj Y5 Y6 Y7 Y8 Y9 Za "ValueError.__new__")) (EE : PySem.W.nsOkIn K Jr = true) (EF : PySem.W.nsIn K Jr "__init__" = some none) (EG : PySem.W.tailIn K uo K5 = true)
   (EH : kP K "BadDeed" av)
   {Uk Ul : Str} {EI : Addr} {Um Js Uo : Q.q} {Up Uq : Bool} {Ur : Q.h} {QF : Option Bool} {Us : Option Addr} {Ut Uu Uv Uw Ux : Option Value} (As : K.lookup av = some (excClassObj Uk Ul av EI Um Js Up Ur Uo Uq QF Us Ut Uu Uv Uw Ux "ValueError.__new__")) (Au : PySem.W.nsOkIn K EI = true) (Av : PySem.W.nsIn K EI "__init__" = some none) (Aw : PySem.W.tailIn K uo Js = true)
   (Jt : kP K "BadWay" aB)
   {Zb Zc : Str} {Ju : Addr} {Zd K6 Ze : Q.q} {Zf Zg : Bool} {Zh : Q.h} {Uy : Option Bool} {Zi : Option Addr} {Zj Zk Zm Zn Zo : Option Value} (EJ : K.lookup aB = some (excClassObj Zb Zc aB Ju Zd K6 Zf Zh Ze Zg Uy Zi Zj Zk Zm Zn Zo "ValueError.__new__")) (EK : PySem.W.nsOkIn K Ju = true) (EL : PySem.W.nsIn K Ju "__init__" = some none) (ER : PySem.W.tailIn K uo K6 = true)
   (nA : PySem.W.kitOne K (.ref aq) (.ref aA) = some false)
   (lJ : PySem.W.kitOne K (.ref aq) (.ref av) = some false)
   (lK : PySem.W.kitOne K (.ref aq) (.ref au) = some false)
   (lM : PySem.W.kitOne K (.ref aq) (.ref aq) = some true)
   (nB : PySem.W.kitOne K (.ref aq) (.ref aB) = some false)
   (jl : PySem.W.kitOne K (.ref aq) (.type "ValueError") = some true)
   (nE : PySem.W.kitOne K (.ref au) (.ref aA) = some false)
   (lN : PySem.W.kitOne K (.ref au) (.ref av) = some false)
   (lO : PySem.W.kitOne K (.ref au) (.ref au) = some true)
   (lP : PySem.W.kitOne K (.ref au) (.ref aq) = some false)
   (nF : PySem.W.kitOne K (.ref au) (.ref aB) = some false)
   (jm : PySem.W.kitOne K (.ref au) (.type "ValueError") = some true)
   (oO : PySem.W.kitOne K (.ref aA) (.ref aA) = some true)
   (nG : PySem.W.kitOne K (.ref aA) (.ref av) = some false)
   (nI : PySem.W.kitOne K (.ref aA) (.ref au) = some false)
   (nJ : PySem.W.kitOne K (.ref aA) (.ref aq) = some false)
   (oQ : PySem.W.kitOne K (.ref aA) (.ref aB) = some false)
   (j3 : PySem.W.kitOne K (.ref aA) (.type "ValueError") = some true)
   (nK : PySem.W.kitOne K (.ref av) (.ref aA) = some false)
   (lQ : PySem.W.kitOne K (.ref av) (.ref av) = some true)
   (lR : PySem.W.kitOne K (.ref av) (.ref au) = some false)
   (lS : PySem.W.kitOne K (.ref av) (.ref aq) = some false)
   (nL : PySem.W.kitOne K (.ref av) (.ref aB) = some false)
   (jn : PySem.W.kitOne K (.ref av) (.type "ValueError") = some true)
   (oR : PySem.W.kitOne K (.ref aB) (.ref aA) = some false)
   (nM : PySem.W.kitOne K (.ref aB) (.ref av) = some false)
   (nO : PySem.W.kitOne K (.ref aB) (.ref au) = some false)
   (nP : PySem.W.kitOne K (.ref aB) (.ref aq) = some false)
   (oS : PySem.W.kitOne K (.ref aB) (.ref aB) = some true)
   (j4 : PySem.W.kitOne K (.ref aB) (.type "ValueError") = some true)
   (Ax : PySem.W.findIn K (.ref aq) "__getattribute__" = some Q.aN) (Ay : PySem.W.findIn K (.ref aq) "__getattr__" = some none) (Az : PySem.W.hasDictIn K aq = true) (AA : PySem.W.findIn K (.ref aq) "__class__" = some (some Q.ah)) (AF : PySem.W.mroIn K aq (.type "object") = some true) (AG : PySem.W.mroIn K aq (.type "BaseException") = some true)
   (AH : PySem.W.findIn K (.ref au) "__getattribute__" = some Q.aN) (AI : PySem.W.findIn K (.ref au) "__getattr__" = some none) (AJ : PySem.W.hasDictIn K au = true) (AK : PySem.W.findIn K (.ref au) "__class__" = some (some Q.ah)) (AO : PySem.W.mroIn K au (.type "object") = some true) (AQ : PySem.W.mroIn K au (.type "BaseException") = some true)
   (EV : PySem.W.findIn K (.ref aA) "__getattribute__" = some Q.aN) (EW : PySem.W.findIn K (.ref aA) "__getattr__" = some none) (EX : PySem.W.hasDictIn K aA = true) (EY : PySem.W.findIn K (.ref aA) "__class__" = some (some Q.ah)) (EZ : PySem.W.mroIn K aA (.type "object") = some true) (E1 : PySem.W.mroIn K aA (.type "BaseException") = some true)
   (AU : PySem.W.findIn K (.ref av) "__getattribute__" = some Q.aN) (AV : PySem.W.findIn K (.ref av) "__getattr__" = some none) (AW : PySem.W.hasDictIn K av = true) (AX : PySem.W.findIn K (.ref av) "__class__" = some (some Q.ah)) (AY : PySem.W.mroIn K av (.type "object") = some true) (AZ : PySem.W.mroIn K av (.type "BaseException") = some true)
   (E2 : PySem.W.findIn K (.ref aB) "__getattribute__" = some Q.aN) (E3 : PySem.W.findIn K (.ref aB) "__getattr__" = some none) (E4 : PySem.W.hasDictIn K aB = true) (E5 : PySem.W.findIn K (.ref aB) "__class__" = some (some Q.ah)) (E6 : PySem.W.mroIn K aB (.type "object") = some true) (E7 : PySem.W.mroIn K aB (.type "BaseException") = some true)
   (A0 : PySem.W.specialIn K Q.ah "__get__" = some (some (.builtin "getset_descriptor.__get__"))) (A1 : PySem.W.takesIn K Q.ah = some true)
   (nQ : PySem.W.exmOne K (.ref aq) (.ref aA) = some false)
   (lT : PySem.W.exmOne K (.ref aq) (.ref av) = some false)
   (lU : PySem.W.exmOne K (.ref aq) (.ref au) = some false)
   (lV : PySem.W.exmOne K (.ref aq) (.ref aq) = some true)
   (nR : PySem.W.exmOne K (.ref aq) (.ref aB) = some false)
   (nS : PySem.W.exmOne K (.ref au) (.ref aA) = some false)
   (lW : PySem.W.exmOne K (.ref au) (.ref av) = some false)
   (lX : PySem.W.exmOne K (.ref au) (.ref au) = some true)
   (lY : PySem.W.exmOne K (.ref au) (.ref aq) = some false)
   (nT : PySem.W.exmOne K (.ref au) (.ref aB) = some false)
   (oU : PySem.W.exmOne K (.ref aA) (.ref aA) = some true)
   (nU : PySem.W.exmOne K (.ref aA) (.ref av) = some false)
   (nV : PySem.W.exmOne K (.ref aA) (.ref au) = some false)
   (nW : PySem.W.exmOne K (.ref aA) (.ref aq) = some false)
   (oV : PySem.W.exmOne K (.ref aA) (.ref aB) = some false)
   (nX : PySem.W.exmOne K (.ref av) (.ref aA) = some false)
   (lZ : PySem.W.exmOne K (.ref av) (.ref av) = some true)
   (mh : PySem.W.exmOne K (.ref av) (.ref au) = some false)
   (mj : PySem.W.exmOne K (.ref av) (.ref aq) = some false)
   (nY : PySem.W.exmOne K (.ref av) (.ref aB) = some false)
   (oW : PySem.W.exmOne K (.ref aB) (.ref aA) = some false)
   (n6 : PySem.W.exmOne K (.ref aB) (.ref av) = some false)
   (n8 : PySem.W.exmOne K (.ref aB) (.ref au) = some false)
   (n9 : PySem.W.exmOne K (.ref aB) (.ref aq) = some false)
   (oX : PySem.W.exmOne K (.ref aB) (.ref aB) = some true)
   (j5 : PySem.W.exmOne K (.ref aq) (.ref aD) = some true)
   (j6 : PySem.W.exmOne K (.ref au) (.ref aD) = some true)
   (kN : PySem.W.exmOne K (.ref aA) (.ref aD) = some true)
   (j7 : PySem.W.exmOne K (.ref av) (.ref aD) = some true)
   (kO : PySem.W.exmOne K (.ref aB) (.ref aD) = some true)
   (E8 : kP K "_law_cell_at" K1) (Zq : ow K "_law_cell_at" "_law_cell_at" xY K1 YS)
   (A2 : kP K "_law_above" Jc) (Uz : ow K "_law_above" "_law_above" ux Jc Tq)
   (Jv : kP K "_law_elders" Qw) (acH : ow K "_law_elders" "_law_elders" BW Qw acF)
   (Nq : kP K "_law_kinds" W4) (afY : ow K "_law_kinds" "_law_kinds" GQ W4 afS)
   (Nr : kP K "_law_names" W5) (afZ : ow K "_law_names" "_law_names" GU W5 afT)
   (acI : kP K "_law_far" ahh) (amM : ow K "_law_far" "_law_far" WB ahh amJ)
   (UA : kP K "_law_term" acC) (akf : ow K "_law_term" "_law_term" Mi acC akc)
   (UB : kP K "_law_deed" acD) (akg : ow K "_law_deed" "_law_deed" Mm acD akd)
   (UC : kP K "_law_rows" acE) (akh : ow K "_law_rows" "_law_rows" Mq acE ake)
   (acJ : kP K "_law_ask" ahi) (amN : ow K "_law_ask" "_law_ask" WC ahi amK)
   (acK : kP K "_law_way" ahj) (amO : ow K "_law_way" "_law_way" WG ahj amL)
   (Nt : kP K "_law_parts" W6) (af0 : ow K "_law_parts" "_law_parts" G5 W6 afU)
   (uX : kP K "_law_spoil_tree" uQ) (uY : ow K "_law_spoil_tree" "_law_spoil_tree" qj uQ M9)
   (A3 : kP K "_law_bad_name" Jd) (UD : ow K "_law_bad_name" "_law_bad_name" uE Jd Tr)
   (uZ : kP K "_law_spoil_name" uR) (u0 : ow K "_law_spoil_name" "_law_spoil_name" ql uR Nb)
   (xE : kP K "_law_spoil_box" xu) (xF : ow K "_law_spoil_box" "_law_spoil_box" rT xu Qy)
   (A4 : kP K "_law_bad_term" Je) (UE : ow K "_law_bad_term" "_law_bad_term" uG Je Tt)
   (A5 : kP K "_law_bad_deed" Jf) (UG : ow K "_law_bad_deed" "_law_bad_deed" uI Jf Tv)
   (Jw : kP K "_law_put_in" Qx) (acL : ow K "_law_put_in" "_law_put_in" Cj Qx acG)
   (u9 : kP K "_law_spoil_deed" uS) (vd : ow K "_law_spoil_deed" "_law_spoil_deed" qt uS Nf)
   (E9 : kP K "_law_bad_ask" K2) (Zr : ow K "_law_bad_ask" "_law_bad_ask" yj K2 YT)
   (xG : kP K "_law_spoil_way" xx) (xH : ow K "_law_spoil_way" "_law_spoil_way" r6 xx Qz)
   (Nu : kP K "_law_spoil" M8) (Nv : ow K "_law_spoil" "_law_spoil" G6 M8 afV)
   (xJ : PySem.W.findIn K (.ref aM) "__init__" = some (some (.ref sG))) (xK : PySem.W.isFn K (.ref sG) = true) (FY : ow K "__init__" "Tree.__init__" se sG QB)
   (ve : PySem.W.findIn K (.ref aJ) "__init__" = some (some (.ref qz))) (vf : PySem.W.isFn K (.ref qz) = true) (Dl : ow K "__init__" "Chart.__init__" qv qz Ng)
   (Nx : kP K "_law_chart" W7) (af1 : ow K "_law_chart" "_law_chart" G8 W7 afW)
   (Ny : kP K "above" W8) (af2 : ow K "above" "above" Hf W8 Cw)
   (Nz : kP K "depth" W9) (af3 : ow K "depth" "depth" Hh W9 MR)
   (mq : kP K "are_elders_right" rB) (A6 : ow K "are_elders_right" "are_elders_right" iL rB lG)
   (oh : kP K "are_kinds_right" sH) (Dm : ow K "are_kinds_right" "are_kinds_right" jr sH mV)
   (A7 : kP K "is_place" Jg) (UH : ow K "is_place" "is_place" uM Jg d9)
   (mw : kP K "are_starts_right" rC) (A8 : ow K "are_starts_right" "are_starts_right" iN rC lH)
   (pX : kP K "is_tree_right" vG) (Gm : ow K "is_tree_right" "is_tree_right" k9 vG lA)
   (Fb : kP K "is_name" K3) (Zt : ow K "is_name" "is_name" yu K3 mF)
   (oi : kP K "are_names_right" sI) (Dn : ow K "are_names_right" "are_names_right" jx sI eW)
   (vg : kP K "is_bounded" Dj) (NB : ow K "is_bounded" "is_bounded" qy Dj mY)
   (oj : kP K "are_boxes_right" sJ) (Dp : ow K "are_boxes_right" "are_boxes_right" jy sJ jF)
   (pY : kP K "is_term_right" vH) (Gn : ow K "is_term_right" "is_term_right" lq vH e7)
   (pZ : kP K "is_deed_right" vI) (Gp : ow K "is_deed_right" "is_deed_right" ly vI pW)
   (om : kP K "are_deeds_right" sL) (Dq : ow K "are_deeds_right" "are_deeds_right" jD sL jG)
   (rD : kP K "is_ask_right" xA) (Jx : ow K "is_ask_right" "is_ask_right" mZ xA rm)
   (rE : kP K "is_way_right" xB) (Jy : ow K "is_way_right" "is_way_right" m7 xB rq)
   (oY : kP K "are_ways_right" tX) (Fd : ow K "are_ways_right" "are_ways_right" kD tX kF)
   (Jz : kP K "looked" Dk) (tY : ow K "looked" "looked" w9 Dk gK)
   (Fe : kP K "_law_refusal" K4) (Zu : ow K "_law_refusal" "_law_refusal" yx K4 YV)
   (NC : kP K "_law_bases" Xa) (af4 : ow K "_law_bases" "_law_bases" Hj Xa afX)
   (Xb : kP K "law" ahk) (acM : ow K "law" "law" W3 ahk ahl)
   (acN : PySem.W.nsIn K mainGlobals "len" = some none)
   (NF : PySem.W.nsIn K mainGlobals "range" = some none)
   (acO : PySem.W.nsIn K mainGlobals "str" = some none)
   (NK : PySem.W.nsIn K mainGlobals "tuple" = some none)
   (JA : PySem.W.nsIn K mainGlobals "sorted" = some none)
   (acP : PySem.W.nsIn K mainGlobals "int" = some none)
   (UI : PySem.W.nsIn K mainGlobals "list" = some none)
   {UJ : Tok} (Ff : PySem.W.nsIn K mainGlobals "DEEPEST" = some (some (.int 12 UJ)))
   (xM : PySem.W.nsIn K mainGlobals "enumerate" = some none)
   {Xc : Addr} {acQ : Option Addr} {MS : Nat} {acR : Array (Option Value)} {UK UL UM : Tok} (NP : PySem.W.nsIn K mainGlobals "KINDS" = some (some (.ref Xc))) (JB : K.lookup Xc = some ⟨.type "tuple", acQ, .seq #[.str "leaf" UK, .str "one" UL, .str "all" UM] MS, acR⟩)
   {Gq : Tok} (rG : PySem.W.nsIn K mainGlobals "LONGEST_NAME" = some (some (.int 12 Gq)))
   {Xd : Addr} {acS : Option Addr} {MT : Nat} {acT : Array (Option Value)} {UN UO UQ UR UT UU UW UX UY UZ QG QH QI QJ QK QL QM QN QO : Tok} (NQ : PySem.W.nsIn K mainGlobals "WORDS" = some (some (.ref Xd))) (JC : K.lookup Xd = some ⟨.type "tuple", acS, .seq #[.str "all" UN, .str "and" UO, .str "box" UQ, .str "call" UR, .str "do" UT, .str "far" UU, .str "if" UW, .str "in" UX, .str "leaf" UY, .str "near" UZ, .str "on" QG, .str "one" QH, .str "open" QI, .str "out" QJ, .str "put" QK, .str "say" QL, .str "shut" QM, .str "then" QN, .str "to" QO] MT, acT⟩)
   {U0 : Tok} (Fg : PySem.W.nsIn K mainGlobals "LETTERS" = some (some (.str "abcdefghijklmnopqrstuvwxyz" U0)))
   {vh : Tok} (jo : PySem.W.nsIn K mainGlobals "LETTERS_AND_FIGURES" = some (some (.str "abcdefghijklmnopqrstuvwxyz0123456789" vh)))
   (acU : PySem.W.nsIn K mainGlobals "set" = some none)
   {acV : Tok} (NR : PySem.W.nsIn K mainGlobals "DEEDS" = some (some (.int 3 acV)))
   {Xe : Addr} {acW : Option Addr} {MY : Nat} {acX : Array (Option Value)} {U1 U3 U4 U5 : Tok} (NS : PySem.W.nsIn K mainGlobals "MARKS" = some (some (.ref Xe))) (JD : K.lookup Xe = some ⟨.type "tuple", acW, .seq #[.str "<" U1, .str "<=" U3, .str "=" U4, .str "!=" U5] MY, acX⟩)
   {Zv : Tok} (JF : PySem.W.nsIn K mainGlobals "TARGET" = some (some (.int 4 Zv)))
   {af5 : Tok} (U6 : PySem.W.nsIn K mainGlobals "MODE" = some (some (.int 5 af5)))
   {Zw : Tok} (JG : PySem.W.nsIn K mainGlobals "SOURCE" = some (some (.int 0 Zw)))
   {af6 : Tok} (U7 : PySem.W.nsIn K mainGlobals "SIGN" = some (some (.int 1 af6)))
   {Xf : Addr} {acY : Option Addr} {MZ : Nat} {acZ : Array (Option Value)} {U8 U9 Va : Tok} (NT : PySem.W.nsIn K mainGlobals "MODES" = some (some (.ref Xf))) (JH : K.lookup Xf = some ⟨.type "tuple", acY, .seq #[.str "new" U8, .str "near" U9, .str "far" Va] MZ, acZ⟩)
   {af7 : Tok} (Vb : PySem.W.nsIn K mainGlobals "ASKS" = some (some (.int 2 af7)))
   (vm : PySem.W.nsIn K mainGlobals "isinstance" = some none)
   (vn : PySem.W.nsIn K mainGlobals "ValueError" = some none)
   : ∃ fd : FuncData, (∀ (s : Shared) (v : Value), BindsTo s fd ⟨[v], []⟩ [("script", v)]) /\ ∀ base : Heap, K.In base -> base.Ns mainGlobals mg -> iy l.prog w K mg base xS 8 fa fd ["script"] (XM K (fun _ => 0) 1 yE yF yG) := by
 have e := hfa.symm.trans (atB XX G Xb)
 cases e
 have NV := atB XX G uX
 have NW := uY.binds (ps := ["parts", "cell"]) Q.aP
 have NX := atB XX G uZ
 have NZ := u0.binds (ps := ["parts", "cell"]) Q.aP
 have QS := atB XX G xE
 have QT := xF.binds (ps := ["parts", "cell"]) Q.aP
 have N1 := atB XX G u9
 have N2 := vd.binds (ps := ["parts", "cell"]) Q.aP
 have QV := atB XX G xG
 have QW := xH.binds (ps := ["parts", "cell"]) Q.aP
 have af8 := atB XX G Nu
 have af9 := Nv.binds (ps := ["parts", "which", "cell"]) fun _ _ _ _ _ _ => by refine qR ?_; exact fun _ _ _ => rfl
 have QX := FY.binds (ps := ["self", "kinds", "elders", "starts"]) fun _ _ _ _ _ _ => by refine qR ?_; exact fun _ _ _ _ => rfl
 have N3 := Dl.binds (ps := ["self", "boxes", "names", "tree", "ins", "outs", "ways"]) fun _ _ _ _ _ _ => by refine qR ?_; exact fun _ _ _ _ _ _ _ => rfl
 have JK := atB XX G Jz
 have JL := tY.binds (ps := ["chart"]) fun _ _ _ _ _ _ => by refine qR ?_; exact fun _ => rfl
 have aqL := atB XX G Xb
 have aqM := acM.binds (ps := ["script"]) fun _ _ _ _ _ _ => by refine qR ?_; exact fun _ => rfl
 have aga := atB XX G Nh
 have b8 : DQ K aJ := ⟨Jh, Ji, Jj, Jk⟩
 have qA : DQ K ((cl aJ aM aD aq au aA av aB) "Chart") := by rw [ny]; exact b8
 have k7 : bQ K ((cl aJ aM aD aq au aA av aB) "Chart") "boxes" := by rw [ny]; exact sW
 have jg : bQ K ((cl aJ aM aD aq au aA av aB) "Chart") "names" := by rw [ny]; exact sX
 have vo : bQ K ((cl aJ aM aD aq au aA av aB) "Chart") "tree" := by rw [ny]; exact uT
 have FZ : bQ K ((cl aJ aM aD aq au aA av aB) "Chart") "ins" := by rw [ny]; exact xC
 have Dr : bQ K ((cl aJ aM aD aq au aA av aB) "Chart") "outs" := by rw [ny]; exact uU
 have vp : bQ K ((cl aJ aM aD aq au aA av aB) "Chart") "ways" := by rw [ny]; exact uV
 have aki := atB XX G Tw
 have eZ : DQ K aM := ⟨Ni, Nj, Nk, Nm⟩
 have Fi : DQ K ((cl aJ aM aD aq au aA av aB) "Tree") := by rw [yH]; exact eZ
 have qB : bQ K ((cl aJ aM aD aq au aA av aB) "Tree") "kinds" := by rw [yH]; exact uW
 have jh : bQ K ((cl aJ aM aD aq au aA av aB) "Tree") "elders" := by rw [yH]; exact sY
 have tu : bQ K ((cl aJ aM aD aq au aA av aB) "Tree") "starts" := by rw [yH]; exact sZ
 have QY := atB XX G xD
 have yI := atB XX G Ez
 have Vc : kK K aq := ⟨Ax, Ay, Az, AA, A0, A1, AF, AG⟩
 have vq : fW K aq := ⟨⟨_, _, _, _, _, _, _, _, _, _, _, _, _, _, _, _, Ai, Aj, Ak, Al⟩⟩
 have yJ := atB XX G EB
 have Vd : kK K au := ⟨AH, AI, AJ, AK, A0, A1, AO, AQ⟩
 have vt : fW K au := ⟨⟨_, _, _, _, _, _, _, _, _, _, _, _, _, _, _, _, Am, An, Ao, Aq⟩⟩
 have Ds := atB XX G Jq
 have Zx : kK K aA := ⟨EV, EW, EX, EY, A0, A1, EZ, E1⟩
 have yK : fW K aA := ⟨⟨_, _, _, _, _, _, _, _, _, _, _, _, _, _, _, _, ED, EE, EF, EG⟩⟩
 have yL := atB XX G EH
 have Ve : kK K av := ⟨AU, AV, AW, AX, A0, A1, AY, AZ⟩
 have vv : fW K av := ⟨⟨_, _, _, _, _, _, _, _, _, _, _, _, _, _, _, _, As, Au, Av, Aw⟩⟩
 have Dt := atB XX G Jt
 have Zy : kK K aB := ⟨E2, E3, E4, E5, A0, A1, E6, E7⟩
 have yM : fW K aB := ⟨⟨_, _, _, _, _, _, _, _, _, _, _, _, _, _, _, _, EJ, EK, EL, ER⟩⟩
 have oq := auj XX G acN
 have qC := auj XX G NF
 have ac0 := auj XX G acO
 have Ho := auj XX G NK
 have ac1 := auj XX G JA
 have amP := auj XX G acP
 have JM := auj XX G UI
 have Zz : ∃ u, mg "DEEPEST" = some (.int 12 u) := ⟨_, atB XX G Ff⟩
 have F0 := auj XX G xM
 have agb := atB XX G NP
 have JN : ∃ u, mg "LONGEST_NAME" = some (.int 12 u) := ⟨_, atB XX G rG⟩
 have agc := atB XX G NQ
 have ZC : ∃ u, mg "LETTERS" = some (.str "abcdefghijklmnopqrstuvwxyz" u) := ⟨_, atB XX G Fg⟩
 have vV : ∃ u, mg "LETTERS_AND_FIGURES" = some (.str "abcdefghijklmnopqrstuvwxyz0123456789" u) := ⟨_, atB XX G jo⟩
 have amQ := auj XX G acU
 have agd : ∃ u, mg "DEEDS" = some (.int 3 u) := ⟨_, atB XX G NR⟩
 have age := atB XX G NS
 have ac2 : ∃ u, mg "TARGET" = some (.int 4 u) := ⟨_, atB XX G JF⟩
 have akj : ∃ u, mg "MODE" = some (.int 5 u) := ⟨_, atB XX G U6⟩
 have QZ : ∃ u, mg "SOURCE" = some (.int 0 u) := ⟨_, atB XX G JG⟩
 have akk : ∃ u, mg "SIGN" = some (.int 1 u) := ⟨_, atB XX G U7⟩
 have agf := atB XX G NT
 have akl : ∃ u, mg "ASKS" = some (.int 2 u) := ⟨_, atB XX G Vb⟩
 have N4 := auj XX G vm
 have N5 := auj XX G vn
 refine ⟨ahl, ?bind, fun base _ _ => ?_⟩
 case bind =>
   obtain ⟨oc, od, kV, doc, pm, an, lC, ct, osl, rfl, lk, rJ⟩ := acM.ex
   exact fun s v => .of_eq rfl
 have q := @ai8 l.prog w mg base K h Q.aj XX G
 have qL := q 0 gj gk gu Zq Si E8 fun _ _ _ _ _ _ _ _ hr u p => Yq (by exact ⟨u, b4 zF 0, b4 zF 1, cH zF 2, oq⟩) p
 have Vf := q 0 qg kg qh Uz PV A2 fun _ _ _ _ _ _ _ _ hr u p => Sl (by exact ⟨u, b4 wF 0, b4 wF 1, b4 wF 2⟩) p
 have ac3 := q 1 uA qU uB acH Yt Jv fun _ _ _ _ _ _ _ _ hr u p => abI (by exact ⟨u, b4 jb 0, b4 jb 1, ZU jb 2, iB jb 2 rfl, b4 jb 3, b4 jb 4, cH jb 5, cH jb 6, cH jb 7, cH jb 8, qC, c5 Vf hr, c5 qL hr, oq⟩) p
 have agg := q 1 x6 x8 x9 afY abM Nq fun _ _ _ _ _ _ _ _ hr u p => aeZ (by exact ⟨u, b4 jL 0, ZU jL 1, iB jL 1 rfl, b4 jL 2, b4 jL 3, ZU jL 4, iB jL 4 rfl, b4 jL 5, cH jL 6, cH jL 7, cH jL 8, qC, oq, c5 qL hr⟩) p
 have agh := q 0 yc tN yd afZ abQ Nr fun _ _ _ _ _ _ _ _ hr u p => ae8 (by exact ⟨u, b4 kU 0, b4 kU 1, b4 kU 2, b4 kU 3, b4 kU 4, b4 kU 5, b4 kU 6, b4 kU 7, cH kU 8, cH kU 9, qC, ac0⟩) p
 have ahm := q 0 B5 B6 B7 amM ajt acI fun _ _ _ _ _ _ _ _ hr u p => amn (by exact ⟨u, b4 abT 0, b4 abT 1⟩) p
 have ac4 := q 1 wJ wK wL akf ae9 UA fun _ _ _ _ _ _ _ _ hr u p => ajv (by exact ⟨u, b4 Ml 0, b4 Ml 1, cH Ml 2, c5 ahm hr⟩) p
 have ac5 := q 2 wM wN wO akg afa UB fun _ _ _ _ _ _ _ _ hr u p => ajx (by exact ⟨u, b4 B8 0, b4 B8 1, b4 B8 2, b4 B8 3, cH B8 4, c5 ac4 hr⟩) p
 have akm := q 3 B9 tO Ca akh afb UC fun _ _ _ _ _ _ _ _ hr u p => ajB (by exact ⟨u, b4 iG 0, ZU iG 1, iB iG 1 rfl, ZU iG 2, iB iG 2 rfl, b4 iG 3, b4 iG 4, ZU iG 5, iB iG 5 rfl, ZU iG 6, iB iG 6 rfl, cH iG 7, cH iG 8, cH iG 9, cH iG 10, qC, oq, c5 qL hr, Ho, c5 ac5 hr⟩) p
 have amR := q 2 GX Cb GY amN ajD acJ fun _ _ _ _ _ _ _ _ hr u p => amq (by exact ⟨u, b4 Ef 0, b4 Ef 1, b4 Ef 2, b4 Ef 3, b4 Ef 4, cH Ef 5, c5 ac4 hr⟩) p
 have amS := q 3 GZ Cd G0 amO ajG acK fun _ _ _ _ _ _ _ _ hr u p => amt (by exact ⟨u, b4 jM 0, b4 jM 1, b4 jM 2, b4 jM 3, b4 jM 4, b4 jM 5, b4 jM 6, b4 jM 7, b4 jM 8, b4 jM 9, b4 jM 10, b4 jM 11, cH jM 12, cH jM 13, cH jM 14, cH jM 15, cH jM 16, c5 qL hr, qC, c5 amR hr, c5 ac5 hr, Ho⟩) p
 have agi := q 4 yf yg yh af0 ab9 Nt fun _ _ _ _ _ _ _ _ hr u p => afr (by exact ⟨u, ZU cu 0, iB cu 0 rfl, b4 cu 1, ZU cu 2, iB cu 2 rfl, b4 cu 3, b4 cu 4, b4 cu 5, b4 cu 6, ZU cu 7, iB cu 7 rfl, b4 cu 8, b4 cu 9, b4 cu 10, b4 cu 11, b4 cu 12, b4 cu 13, cH cu 14, cH cu 15, cH cu 16, cH cu 17, cH cu 18, cH cu 19, cH cu 20, cH cu 21, cH cu 22, c5 qL hr, c5 ac3 hr, c5 agg hr, c5 agh hr, qC, c5 akm hr, ac1, oq, c5 amS hr, ac0, c5 ahm hr⟩) p
 have N6 : iy l.prog w K mg base xS 1 uQ _ ["parts", "cell"] (spM K Q.aj 2 jN mK jO g9) := D0 uY zb (fun a hp => by
   obtain ⟨p0, p1, p2, p3⟩ := a; dsimp only [jN, g9]
   repeat (first | exact trivial | refine ⟨rfl, ?_⟩)) fun lC Ar outer s H E b a hr hp => by
   obtain ⟨p0, p1, p2, p3⟩ := a; refine MA ?_ p0 p1 p2 p3 hp
   exact ⟨⟨⟨zb.nd, rfl, .never⟩, hr.units⟩, b4 eF 0, b4 eF 1, b4 eF 2, b4 eF 3, b4 eF 4, b4 eF 5, cH eF 6, cH eF 7, cH eF 8, oq, amP, qC, ac0⟩
 have vz := q 0 iH iI iJ UD Qf A3 fun _ _ _ _ _ _ _ _ hr u p => SQ (by exact ⟨u, b4 wR 0, b4 wR 1, b4 wR 2⟩) p
 have N7 : iy l.prog w K mg base xS 2 uR _ ["parts", "cell"] (spM K Q.aj 2 jP mL jQ ia) := D0 u0 zc (fun a hp => by
   obtain ⟨p0, p1, p2, p3⟩ := a; dsimp only [jP, ia]
   repeat (first | exact trivial | refine ⟨rfl, ?_⟩)) fun lC Ar outer s H E b a hr hp => by
   obtain ⟨p0, p1, p2, p3⟩ := a; refine MC ?_ p0 p1 p2 p3 hp
   exact ⟨⟨⟨zc.nd, rfl, .never⟩, hr.units⟩, b4 jc 0, b4 jc 1, b4 jc 2, b4 jc 3, cH jc 4, cH jc 5, oq, c5 vz hr⟩
 have Q0 : iy l.prog w K mg base xS 2 xu _ ["parts", "cell"] (spM K Q.aj 2 kW pC kX jd) := D0 xF Cg (fun a hp => by
   obtain ⟨p0, p1, p2, p3⟩ := a; dsimp only [kW, jd]
   repeat (first | exact trivial | refine ⟨rfl, ?_⟩)) fun lC Ar outer s H E b a hr hp => by
   obtain ⟨p0, p1, p2, p3⟩ := a; refine Qh ?_ p0 p1 p2 p3 hp
   exact ⟨⟨⟨Cg.nd, rfl, .never⟩, hr.units⟩, b4 gw 0, b4 gw 1, b4 gw 2, b4 gw 3, b4 gw 4, b4 gw 5, cH gw 6, cH gw 7, oq, c5 vz hr⟩
 have JQ := q 0 mO mP mQ UE Qi A4 fun _ _ _ _ _ _ _ _ hr u p => SV (by exact ⟨u, b4 rW 0, b4 rW 1, b4 rW 2, b4 rW 3⟩) p
 have Vg := q 1 qo qp qq UG Qj A5 fun _ _ _ _ _ _ _ _ hr u p => SX (by exact ⟨u, b4 pN 0, b4 pN 1, b4 pN 2, cH pN 3, cH pN 4, c5 JQ hr, c5 vz hr⟩) p
 have Q5 := q 0 qY jS qZ acL Yy Jw fun _ _ _ _ _ _ _ _ hr u p => acg (by exact ⟨u, b4 qF 0, b4 qF 1, b4 qF 2, cH qF 3, cH qF 4, cH qF 5, JM, oq, Ho⟩) p
 have N8 : iy l.prog w K mg base xS 3 uS _ ["parts", "cell"] (spM K Q.aj 2 jT mR jU ic) := D0 vd zf (fun a hp => by
   obtain ⟨p0, p1, p2, p3⟩ := a; dsimp only [jT, ic]
   repeat (first | exact trivial | refine ⟨rfl, ?_⟩)) fun lC Ar outer s H E b a hr hp => by
   obtain ⟨p0, p1, p2, p3⟩ := a; refine MH ?_ p0 p1 p2 p3 hp
   exact ⟨⟨⟨zf.nd, rfl, .never⟩, hr.units⟩, b4 eG 0, b4 eG 1, b4 eG 2, b4 eG 3, b4 eG 4, b4 eG 5, cH eG 6, cH eG 7, cH eG 8, c5 Vg hr, oq, c5 Q5 hr⟩
 have ZD := q 1 rX rY rZ Zr S6 E9 fun _ _ _ _ _ _ _ _ hr u p => YB (by exact ⟨u, b4 rg 0, b4 rg 1, b4 rg 2, b4 rg 3, cH rg 4, c5 JQ hr⟩) p
 have Q6 : iy l.prog w K mg base xS 3 xx _ ["parts", "cell"] (spM K Q.aj 2 kY pF kZ je) := D0 xH Cp (fun a hp => by
   obtain ⟨p0, p1, p2, p3⟩ := a; dsimp only [kY, je]
   repeat (first | exact trivial | refine ⟨rfl, ?_⟩)) fun lC Ar outer s H E b a hr hp => by
   obtain ⟨p0, p1, p2, p3⟩ := a; refine Qm ?_ p0 p1 p2 p3 hp
   exact ⟨⟨⟨Cp.nd, rfl, .never⟩, hr.units⟩, b4 cY 0, b4 cY 1, b4 cY 2, b4 cY 3, b4 cY 4, b4 cY 5, b4 cY 6, cH cY 7, cH cY 8, cH cY 9, cH cY 10, cH cY 11, cH cY 12, oq, JM, c5 vz hr, c5 Q5 hr, c5 ZD hr, Ho⟩
 have agj : iy l.prog w K mg base xS 4 M8 _ ["parts", "which", "cell"] (spM K Q.aj 3 tP ym tQ qG) := D0 Nv Qp (fun a hp => by
   obtain ⟨p0, p1, p2, p3, p4⟩ := a; dsimp only [tP, qG]
   repeat (first | exact trivial | refine ⟨rfl, ?_⟩)) fun lC Ar outer s H E b a hr hp => by
   obtain ⟨p0, p1, p2, p3, p4⟩ := a; refine afv ?_ p0 p1 p2 p3 p4 hp
   exact ⟨⟨⟨Qp.nd, rfl, .never⟩, hr.units⟩, b4 pO 0, b4 pO 1, b4 pO 2, cH pO 3, cH pO 4, cH pO 5, cH pO 6, cH pO 7, ⟨⟨_, _, _, N6, NV, uY.kp, NW⟩, hr.mono Q.c⟩, ⟨⟨_, _, _, N7, NX, u0.kp, NZ⟩, hr.mono Q.c⟩, ⟨⟨_, _, _, Q0, QS, xF.kp, QT⟩, hr.mono Q.c⟩, ⟨⟨_, _, _, N8, N1, vd.kp, N2⟩, hr.mono Q.c⟩, ⟨⟨_, _, _, Q6, QV, xH.kp, QW⟩, hr.mono Q.c⟩⟩
 have Q7 : iy l.prog w K mg base xS 1 sG _ ["self", "kinds", "elders", "starts"] (spI K Q.aj "Tree" 4 zg zj zk) := V0 FY Cu fun lC Ar outer s H E b a y hr hp => by
   obtain ⟨p0, p1, p2⟩ := a; refine Qs ?_ p0 p1 p2 y hp
   exact ⟨⟨⟨Cu.nd, rfl, .never⟩, hr.units⟩, b4 mS 0, b4 mS 1, b4 mS 2, b4 mS 3, cH mS 4, JM, Fi, qB, jh, tu⟩
 have N9 : iy l.prog w K mg base xS 1 qz _ ["self", "boxes", "names", "tree", "ins", "outs", "ways"] (spI K Q.aj "Chart" 7 wV wW wX) := V0 Dl zl fun lC Ar outer s H E b a y hr hp => by
   obtain ⟨p0, p1, p2, p3, p4, p5⟩ := a; refine MP ?_ p0 p1 p2 p3 p4 p5 y hp
   exact ⟨⟨⟨zl.nd, rfl, .never⟩, hr.units⟩, b4 fE 0, b4 fE 1, b4 fE 2, b4 fE 3, b4 fE 4, b4 fE 5, b4 fE 6, cH fE 7, JM, qA, k7, jg, vo, FZ, Dr, vp⟩
 have agk := q 2 yo yp yq af1 ach Nx fun _ _ _ _ _ _ _ _ hr u p => afz (by exact ⟨u, b4 wY 0, b4 wY 1, cH wY 2, cH wY 3, cH wY 4, ⟨⟨_, _, _, by rw [yH]; exact ⟨Nn, xJ, xK, Np⟩, Q7, by rw [yH]; exact aki, QX⟩, hr.mono Q.c⟩, JM, ⟨⟨_, _, _, by rw [ny]; exact ⟨Jl, ve, vf, Jm⟩, N9, by rw [ny]; exact aga, N3⟩, hr.mono Q.c⟩⟩) p
 have Xg := q 0 tR qH tS af2 aci Ny fun _ _ _ _ _ _ _ _ hr u p => afB (by exact ⟨u, b4 Cv 0, b4 Cv 1, b4 Cv 2, b4 Cv 3, Fi, jh⟩) p
 have agl := q 1 yr tU yt af3 acj Nz fun _ _ _ _ _ _ _ _ hr u p => afD (by exact ⟨u, b4 Cy 0, b4 Cy 1, cH Cy 2, cH Cy 3, oq, c5 Xg hr⟩) p
 have A9 := q 2 gy eN gA A6 yS mq fun _ _ _ _ _ _ _ _ hr u p => zK (by exact ⟨u, b4 cK 0, b4 cK 1, b4 cK 2, cH cK 3, cH cK 4, cH cK 5, cH cK 6, cH cK 7, qC, oq, c5 Xg hr, c5 agl hr, Zz, Fi, jh⟩) p
 have Du := q 0 gU fq gV Dm zL oh fun _ _ _ _ _ _ _ _ hr u p => CB (by exact ⟨u, b4 dG 0, b4 dG 1, b4 dG 2, b4 dG 3, b4 dG 4, cH dG 5, cH dG 6, F0, V7 agb JB Q.i Q.be, Fi, jh, qB⟩) p
 have rH := q 0 gB gC gD UH Qt A7 fun _ _ _ _ _ _ _ _ hr u p => S9 (by exact ⟨u, b4 w6 0, b4 w6 1, cH w6 2, oq⟩) p
 have Ba := q 1 gE eO gF A8 yT mw fun _ _ _ _ _ _ _ _ hr u p => zN (by exact ⟨u, b4 fu 0, b4 fu 1, b4 fu 2, cH fu 3, cH fu 4, F0, c5 rH hr, Fi, tu, qB, jh⟩) p
 have vJ := q 3 ju jv jw Gm Ei pX fun _ _ _ _ _ _ _ _ hr u p => Gd (by exact ⟨u, b4 ef 0, b4 ef 1, b4 ef 2, cH ef 3, cH ef 4, cH ef 5, cH ef 6, oq, c5 A9 hr, c5 Du hr, c5 Ba hr, Fi, qB, jh, tu⟩) p
 have Fj := q 0 mC mD mE Zt Tc Fb fun _ _ _ _ _ _ _ _ hr u p => YK (by exact ⟨u, b4 lI 0, b4 lI 1, cH lI 2, cH lI 3, cH lI 4, cH lI 5, cH lI 6, oq, JN, V7 agc JC Q.i (.cons ⟨_, rfl⟩ (.cons ⟨_, rfl⟩ (.cons ⟨_, rfl⟩ (.cons ⟨_, rfl⟩ (.cons ⟨_, rfl⟩ (.cons ⟨_, rfl⟩ (.cons ⟨_, rfl⟩ (.cons ⟨_, rfl⟩ (.cons ⟨_, rfl⟩ (.cons ⟨_, rfl⟩ (.cons ⟨_, rfl⟩ (.cons ⟨_, rfl⟩ (.cons ⟨_, rfl⟩ (.cons ⟨_, rfl⟩ (.cons ⟨_, rfl⟩ (.cons ⟨_, rfl⟩ Q.be)))))))))))))))), ZC, vV⟩) p
 have ou := q 1 fz cL fB Dn zQ oi fun _ _ _ _ _ _ _ _ hr u p => CH (by exact ⟨u, b4 fM 0, b4 fM 1, cH fM 2, cH fM 3, cH fM 4, c5 Fj hr, oq, amQ⟩) p
 have Dv := q 0 jV jW jX NB Km vg fun _ _ _ _ _ _ _ _ hr u p => MX (by exact ⟨u, b4 Kl 0⟩) p
 have sM := q 2 gW dQ gX Dp zR oj fun _ _ _ _ _ _ _ _ hr u p => CK (by exact ⟨u, b4 iP 0, b4 iP 1, cH iP 2, cH iP 3, c5 Dv hr, c5 ou hr⟩) p
 have vK := q 1 gG gH gI Gn Ek pY fun _ _ _ _ _ _ _ _ hr u p => Gf (by exact ⟨u, b4 kh 0, b4 kh 1, cH kh 2, cH kh 3, c5 rH hr, c5 Dv hr, qA, k7⟩) p
 have Gr := q 2 jA jB jC Gp El pZ fun _ _ _ _ _ _ _ _ hr u p => Gh (by exact ⟨u, b4 fF 0, b4 fF 1, b4 fF 2, cH fF 3, cH fF 4, cH fF 5, c5 rH hr, c5 vK hr, c5 Fj hr, qA, k7⟩) p
 have sN := q 3 gY dR gZ Dq zS om fun _ _ _ _ _ _ _ _ hr u p => CN (by exact ⟨u, b4 eo 0, b4 eo 1, b4 eo 2, b4 eo 3, cH eo 4, cH eo 5, oq, c5 Gr hr, agd, qA, jg, FZ, Dr, vp⟩) p
 have JR := q 2 ki ko kr Jx Gj rD fun _ _ _ _ _ _ _ _ hr u p => IY (by exact ⟨u, b4 fZ 0, b4 fZ 1, b4 fZ 2, cH fZ 3, cH fZ 4, cH fZ 5, c5 rH hr, V7 age JD Q.i (.cons ⟨_, rfl⟩ Q.be), c5 vK hr, qA, jg⟩) p
 have JS := q 3 ku kB kC Jy Gk rE fun _ _ _ _ _ _ _ _ hr u p => Ja (by exact ⟨u, b4 bT 0, b4 bT 1, b4 bT 2, b4 bT 3, b4 bT 4, cH bT 5, cH bT 6, cH bT 7, cH bT 8, cH bT 9, cH bT 10, cH bT 11, cH bT 12, cH bT 13, ac2, akj, c5 rH hr, QZ, c5 Fj hr, akk, V7 agf JH Q.i Q.be, akl, c5 JR hr, qA, jg⟩) p
 have tZ := q 4 iQ iR iS Fd CT oY fun _ _ _ _ _ _ _ _ hr u p => En (by exact ⟨u, b4 gJ 0, b4 gJ 1, b4 gJ 2, cH gJ 3, cH gJ 4, QZ, c5 JS hr, qA, vp⟩) p
 have ac6 : iy l.prog w K mg base xS 6 Dk _ ["chart"] (XM K Q.aj 1 rz oJ rA) := Lq tY yw fun lC Ar outer s H E b a hr hp => by
   refine acp ?_ hp
   exact ⟨⟨⟨yw.nd, rfl, .never⟩, hr.units⟩, b4 cy 0, cH cy 1, cH cy 2, cH cy 3, cH cy 4, cH cy 5, cH cy 6, cH cy 7, cH cy 8, cH cy 9, cH cy 10, c5 vJ hr, by rw [bC]; exact yI, by rw [bC]; exact vq, c5 ou hr, by rw [bD]; exact yJ, by rw [bD]; exact vt, c5 sM hr, by rw [bN]; exact Ds, by rw [bN]; exact yK, c5 sN hr, by rw [bE]; exact yL, by rw [bE]; exact vv, c5 tZ hr, by rw [bO]; exact Dt, by rw [bO]; exact yM, qA, vo, jg, k7⟩
 have Q8 := alV ac6 JK tY.kp JL
 have K7 : iy l.prog w K mg base (CX8 l.prog w) 6 Dk _ ["chart"] (spR K Q.aj 1 ng cA nh) := aiY tY yw fun lC Ar outer s H E b a hr hp hE => by
   obtain ⟨p0, p1, p2, p3, p4, p5, p6, p7⟩ := a; refine YL ?_ p0 p1 p2 p3 p4 p5 p6 p7 hp hE
   exact ⟨⟨⟨yw.nd, rfl, aes rfl rfl⟩, hr.units⟩, b4 cy 0, cH cy 1, cH cy 2, cH cy 3, cH cy 4, cH cy 5, cH cy 6, cH cy 7, cH cy 8, cH cy 9, cH cy 10, c5 vJ hr, by rw [bC]; exact yI, by rw [bC]; exact vq, c5 ou hr, by rw [bD]; exact yJ, by rw [bD]; exact vt, c5 sM hr, by rw [bN]; exact Ds, by rw [bN]; exact yK, c5 sN hr, by rw [bE]; exact yL, by rw [bE]; exact vv, c5 tZ hr, by rw [bO]; exact Dt, by rw [bO]; exact yM, qA, vo, jg, k7⟩
 have ZE := q 6 sA sC sE Zu Ti Fe fun _ _ _ _ _ _ _ _ hr u p => YQ (by exact ⟨u, b4 iT 0, b4 iT 1, b4 iT 2, cH iT 3, cH iT 4, cH iT 5, cH iT 6, cH iT 7, cH iT 8, c5 Q8 hr, by rw [bC]; exact yI, by rw [bC]; exact vq, by rw [bD]; exact yJ, by rw [bD]; exact vt, by rw [bN]; exact Ds, by rw [bN]; exact yK, by rw [bE]; exact yL, by rw [bE]; exact vv, by rw [bO]; exact Dt, by rw [bO]; exact yM, ⟨⟨_, _, _, K7, JK, tY.kp, JL⟩, hr.mono Q.c⟩, rfl, rfl, rfl, by rw [bC, bN]; exact nQ, by rw [bC, bE]; exact lT, by rw [bC, bD]; exact lU, by rw [bC]; exact lV, by rw [bC, bO]; exact nR, by rw [bD, bN]; exact nS, by rw [bD, bE]; exact lW, by rw [bD]; exact lX, by rw [bD, bC]; exact lY, by rw [bD, bO]; exact nT, by rw [bN]; exact oU, by rw [bN, bE]; exact nU, by rw [bN, bD]; exact nV, by rw [bN, bC]; exact nW, by rw [bN, bO]; exact oV, by rw [bE, bN]; exact nX, by rw [bE]; exact lZ, by rw [bE, bD]; exact mh, by rw [bE, bC]; exact mj, by rw [bE, bO]; exact nY, by rw [bO, bN]; exact oW, by rw [bO, bE]; exact n6, by rw [bO, bD]; exact n8, by rw [bO, bC]; exact n9, by rw [bO]; exact oX⟩) p
 have agm := q 6 yz tW yC af4 acs NC fun _ _ _ _ _ _ _ _ hr u p => afL (by exact ⟨u, b4 i9 0, b4 i9 1, b4 i9 2, cH i9 3, cH i9 4, cH i9 5, cH i9 6, cH i9 7, cH i9 8, cH i9 9, cH i9 10, cH i9 11, c5 Q8 hr, by rw [kH]; exact QY, N4, N5, by rw [bC]; exact yI, by rw [bC]; exact vq, by rw [bD]; exact yJ, by rw [bD]; exact vt, by rw [bN]; exact Ds, by rw [bN]; exact yK, by rw [bE]; exact yL, by rw [bE]; exact vv, by rw [bO]; exact Dt, by rw [bO]; exact yM, ⟨⟨_, _, _, K7, JK, tY.kp, JL⟩, hr.mono Q.c⟩, rfl, rfl, rfl, by rw [bC, kH]; exact j5, by rw [bD, kH]; exact j6, by rw [bN, kH]; exact kN, by rw [bE, kH]; exact j7, by rw [bO, kH]; exact kO, rfl, rfl, by rw [bC, bN]; exact nA, by rw [bD, bN]; exact nE, by rw [bN]; exact oO, by rw [bE, bN]; exact nK, by rw [bO, bN]; exact oR, by rw [bC, bE]; exact lJ, by rw [bD, bE]; exact lN, by rw [bN, bE]; exact nG, by rw [bE]; exact lQ, by rw [bO, bE]; exact nM, by rw [bC, bD]; exact lK, by rw [bD]; exact lO, by rw [bN, bD]; exact nI, by rw [bE, bD]; exact lR, by rw [bO, bD]; exact nO, by rw [bC]; exact lM, by rw [bD, bC]; exact lP, by rw [bN, bC]; exact nJ, by rw [bE, bC]; exact lS, by rw [bO, bC]; exact nP, by rw [bC, bO]; exact nB, by rw [bD, bO]; exact nF, by rw [bN, bO]; exact oQ, by rw [bE, bO]; exact nL, by rw [bO]; exact oS, by rw [bC]; exact jl, by rw [bD]; exact jm, by rw [bN]; exact j3, by rw [bE]; exact jn, by rw [bO]; exact j4, by rw [bC]; exact Vc, by rw [bD]; exact Vd, by rw [bN]; exact Zx, by rw [bE]; exact Ve, by rw [bO]; exact Zy⟩) p
 have amT : iy l.prog w K mg base xS 8 _ _ ["script"] (XM K Q.aj 1 yE yF yG) := Lq acM acB fun lC Ar outer s H E b a hr hp => by
   refine amG ?_ hp
   exact ⟨⟨⟨acB.nd, rfl, .never⟩, hr.units⟩, b4 jZ 0, b4 jZ 1, ZU jZ 2, iB jZ 2 rfl, b4 jZ 3, ZU jZ 4, iB jZ 4 rfl, b4 jZ 5, b4 jZ 6, cH jZ 7, cH jZ 8, cH jZ 9, cH jZ 10, cH jZ 11, cH jZ 12, cH jZ 13, cH jZ 14, c5 agi hr, c5 qL hr, qC, oq, ⟨⟨_, _, _, agj, af8, Nv.kp, af9⟩, hr.mono Q.c⟩, c5 agk hr, c5 ZE hr, c5 agm hr⟩
 exact amT.imp (aix (fun _ => rfl) (fun _ => rfl) fun x hx => akb hx)
theorem walk {l : PySem.W.OpenLaw} {q : Program} {loose : Q.h} {XP : Q.B -> Heap -> Prop} {YP : World -> Heap -> Prop} {d : DefRec} {K : Params -> PySem.W.Frag} (hn : l.most = some 63) (hdf : d.params.defaults = [])
   (hY : ∀ (w : World) (h : Heap), YP w h -> (K w.params).In h)
   (F : ∀ (w : World) (mg : Q.B) (fa : Addr) (h : Heap), (K w.params).In h -> h.Ns mainGlobals mg -> mg d.name = some (.ref fa) →
     ∃ fd : FuncData, (∀ (s : Shared) (u : Value), BindsTo s fd ⟨[u], []⟩ [("script", u)]) /\ ∀ base : Heap, (K w.params).In base -> base.Ns mainGlobals mg -> iy l.prog w (K w.params) mg base xS 8 fa fd ["script"] (XM (K w.params) (fun _ => 0) 1 yE yF yG)) :
   PySem.W.WalkO q loose XP YP l.row.toRowW d [] (fun f vs => PySem.call f vs) :=
 L2.adS (n := 63) (k := 8) (x := "script") (CX := fun _ => xS) (sp := fun w => XM (K w.params) (fun _ => 0) 1 yE yF yG) hn Q.c hdf ⟨rfl, by decide, by decide⟩ hY F (fun _ _ a ns hl _ hS => aip rfl hl rfl hS) fun _ _ _ _ _ z => z
end Law
end
namespace PySem.W.Fast
 def tw510648255584559181 := 0
 def tw6285147044600224121 := 0
 def tw5102628994466202257 := 0
 def tw3298612812615029840 := 0
 def tw3352648162037061172 := 0
 def tw1460666799766891028 := 0
 def tw2983612069490283101 := 0
 def tw12892880805199493944 := 0
 def tw5389156554115220646 := 0
 def tw4803613748895553129 := 0
 def tw2294887022347553553 := 0
 def tw4445041413838328014 := 0
 def tw1720670354968714394 := 0
 def tw16968312009700505665 := 0
 def tw800062644835304033 := 0
 def tw14106779973417463046 := 0
 def tw236475447659775056 := 0
 def tw6842262498466890904 := 0
 def tw7372853518717541402 := 0
 def tw2326836548632184104 := 0
 def tw6969279723582687863 := 0
 def tw1123008607446055056 := 0
 def tw1477883883777813481 := 0
 def tw17208276363770814415 := 0
 def tw13784234936743840520 := 0
 def tw10709267530087204891 := 0
 def tw14566281153438535739 := 0
 def tw16730161574416490421 := 0
 def tw9692991671798482210 := 0
 def tw10654506391528200349 := 0
 def tw10667372118222649899 := 0
 def tw2932533206775365456 := 0
 def tw4582196817936030133 := 0
 def tw14091774156877412658 := 0
 def tw5682509374395728198 := 0
 def tw6751644641365155601 := 0
 def tw14327887990874616374 := 0
 def tw12491093051694642447 := 0
 def tw2554439765168405020 := 0
 def tw16285888914507327901 := 0
 def tw5987535695877605203 := 0
 def tw17448216545822856914 := 0
 def tw4829947098396698125 := 0
 def tw3569666942774884470 := 0
 def tw9944307757310072360 := 0
 def tw5982939253426677000 := 0
 def tw532062984692232358 := 0
 def tw7957772352680972324 := 0
 def tw10212135398270577493 := 0
 def tw9079785762558551623 := 0
 def tw1563146294069467747 := 0
 def tw2792348192749634245 := 0
 def tw12358280499368080902 := 0
 def tw1994690317110216668 := 0
 def tw13439130304156180304 := 0
 def tw14634866264620206728 := 0
 def tw4128408080218030507 := 0
 def tw8065487230220232169 := 0
 def tw3912799534361446159 := 0
 def tw17174581986894473074 := 0
 def tw1457947995582160084 := 0
 def tw11997016434672826198 := 0
 def tw15357051714827197924 := 0
 def tw18378383853157863871 := 0
 def tw11109366489712826539 := 0
 def tw17048355052829455236 := 0
 def tw17436269442067725959 := 0
 def tw9518283050051430425 := 0
 def tw15253645783182085814 := 0
 def tw13779345580808631813 := 0
 def tw13037603295752140674 := 0
 def tw16651888335926907983 := 0
 def tw15274189873839464521 := 0
 def tw10069405691826999077 := 0
 def tw17454613260364761861 := 0
 def tw12247630267931696833 := 0
 def tw2568347576538223980 := 0
 def tw17881038154201519337 := 0
 def tw16461998056233560401 := 0
end PySem.W.Fast
open PySem PySem.W PyProof.Rows
set_option maxRecDepth 100000 in
set_option maxHeartbeats 0 in
theorem PySem.Challenge.cw_moodtree_k17_the_first_refusal_is_told_holds : PySem.Challenge.rw_moodtree_k17_the_first_refusal_is_told.Holds := by
 w_on; o_law; k_head; (case hw => w_witness2)
 k_fill
 refine Law.walk (l := PySem.Challenge.rw_moodtree_k17_the_first_refusal_is_told) rfl rfl (fun w h Y => PySem.W.kIn_of Y) ?F
 case F =>
   intro w mg fa h KX G hmg
   refine' Law.all_mk KX G hmg ?Nh ?Jh ?Ji ?Jj ?Jk ?Jl ?Jm ?sW ?sX ?uT ?xC ?uU ?uV ?Tw ?Ni ?Nj ?Nk ?Nm ?Nn ?Np ?uW ?sY ?sZ ?xD ?Ez ?Ai ?Aj ?Ak ?Al ?EB ?Am ?An ?Ao ?Aq ?Jq ?ED ?EE ?EF ?EG ?EH ?As ?Au ?Av ?Aw ?Jt ?EJ ?EK ?EL ?ER ?nA ?lJ ?lK ?lM ?nB ?jl ?nE ?lN ?lO ?lP ?nF ?jm ?oO ?nG ?nI ?nJ ?oQ ?j3 ?nK ?lQ ?lR ?lS ?nL ?jn ?oR ?nM ?nO ?nP ?oS ?j4 ?Ax ?Ay ?Az ?AA ?AF ?AG ?AH ?AI ?AJ ?AK ?AO ?AQ ?EV ?EW ?EX ?EY ?EZ ?E1 ?AU ?AV ?AW ?AX ?AY ?AZ ?E2 ?E3 ?E4 ?E5 ?E6 ?E7 ?A0 ?A1 ?nQ ?lT ?lU ?lV ?nR ?nS ?lW ?lX ?lY ?nT ?oU ?nU ?nV ?nW ?oV ?nX ?lZ ?mh ?mj ?nY ?oW ?n6 ?n8 ?n9 ?oX ?j5 ?j6 ?kN ?j7 ?kO ?E8 (L2.bU ?ZF ?ZG ?ZH) ?A2 (L2.bU ?Vh ?Vi ?Vj) ?Jv (L2.bU ?dI ?ac7 ?wG) ?Nq (L2.bU ?qi ?agn ?ago) ?Nr (L2.bU ?dX ?agp ?Ms) ?acI (L2.bU ?amU ?amV ?amW) ?UA (L2.bU ?IV ?akn ?ako) ?UB (L2.bU ?jk ?akp ?akq) ?UC (L2.bU ?IC ?akr ?aks) ?acJ (L2.bU ?zm ?amX ?amY) ?acK (L2.bU ?bM ?amZ ?am0) ?Nt (L2.bU ?aO ?agq ?agr) ?uX (L2.bU ?Oa ?Ob ?Oc) ?A3 (L2.bU ?Vk ?Vl ?Vm) ?uZ (L2.bU ?Od ?Oe ?Og) ?xE (L2.bU ?Q9 ?Ra ?Rb) ?A4 (L2.bU ?Vo ?Vp ?Vq) ?A5 (L2.bU ?Vr ?Vs ?Vt) ?Jw (L2.bU ?ac8 ?ac9 ?ada) ?u9 (L2.bU ?Oh ?Oi ?Oj) ?E9 (L2.bU ?ZI ?ZJ ?ZK) ?xG (L2.bU ?Rc ?Rf ?Rg) ?Nu (L2.bU ?ags ?agt ?agu) ?xJ ?xK (L2.bU ?Rh ?Ri ?Rj) ?ve ?vf (L2.bU ?Ol ?Om ?Oo) ?Nx (L2.bU ?aY ?agv ?agw) ?Ny (L2.bU ?agx ?agy ?agz) ?Nz (L2.bU ?agA ?agB ?agC) ?mq (L2.bU ?Bb ?Bc ?Bd) ?oh (L2.bU ?Dw ?Dy ?Dz) ?A7 (L2.bU ?Vu ?Vv ?Vw) ?mw (L2.bU ?Be ?Bf ?Bg) ?pX (L2.bU ?Gs ?Gu ?Gv) ?Fb (L2.bU ?ZL ?ZM ?ZN) ?oi (L2.bU ?DB ?DC ?DE) ?vg (L2.bU ?Oq ?Ot ?Ou) ?oj (L2.bU ?DF ?DG ?DH) ?pY (L2.bU ?Gw ?Gy ?Gz) ?pZ (L2.bU ?GA ?GB ?GC) ?om (L2.bU ?DI ?DJ ?DK) ?rD (L2.bU ?JT ?JV ?JW) ?rE (L2.bU ?JX ?JY ?JZ) ?oY (L2.bU ?Fl ?Fo ?Fp) ?Jz (L2.bU ?adb ?ade ?adf) ?Fe (L2.bU ?ZO ?ZP ?ZQ) ?NC (L2.bU ?agD ?agE ?agF) ?Xb (L2.bU ?am1 ?am2 ?am3) ?acN ?NF ?acO ?NK ?JA ?acP ?UI ?Ff ?xM ?NP ?JB ?rG ?NQ ?JC ?Fg ?jo ?acU ?NR ?NS ?JD ?JF ?U6 ?JG ?U7 ?NT ?JH ?Vb ?vm ?vn
   case Nh | Jh | Ji | Jj | Jk | Jl | Jm | sW | sX | uT | xC | uU | uV | Tw | Ni | Nj | Nk | Nm | Nn | Np | uW | sY | sZ | xD | Ez | Ai => (try delta L3.kP); k_is
   case Aj => kernel_rfl
   case Ak => (try delta L3.kP); k_is
   case Al => kernel_rfl
   case EB | Am => (try delta L3.kP); k_is
   case An => kernel_rfl
   case Ao => (try delta L3.kP); k_is
   case Aq => kernel_rfl
   case Jq | ED => (try delta L3.kP); k_is
   case EE => kernel_rfl
   case EF => (try delta L3.kP); k_is
   case EG => kernel_rfl
   case EH | As => (try delta L3.kP); k_is
   case Au => kernel_rfl
   case Av => (try delta L3.kP); k_is
   case Aw => kernel_rfl
   case Jt | EJ => (try delta L3.kP); k_is
   case EK => kernel_rfl
   case EL => (try delta L3.kP); k_is
   case ER => kernel_rfl
   case nA => kit_is
   case lJ => kit_is
   case lK => kit_is
   case lM => kit_is
   case nB => kit_is
   case jl => kit_is
   case nE => kit_is
   case lN => kit_is
   case lO => kit_is
   case lP => kit_is
   case nF => kit_is
   case jm => kit_is
   case oO => kit_is
   case nG => kit_is
   case nI => kit_is
   case nJ => kit_is
   case oQ => kit_is
   case j3 => kit_is
   case nK => kit_is
   case lQ => kit_is
   case lR => kit_is
   case lS => kit_is
   case nL => kit_is
   case jn => kit_is
   case oR => kit_is
   case nM => kit_is
   case nO => kit_is
   case nP => kit_is
   case oS => kit_is
   case j4 => kit_is
   case Ax | Ay | Az | AA | AF | AG | AH | AI | AJ | AK | AO | AQ | EV | EW | EX | EY | EZ | E1 | AU | AV | AW | AX | AY | AZ | E2 | E3 | E4 | E5 | E6 | E7 | A0 | A1 => (try delta L3.kP); k_is
   case nQ => kts_exm
   case lT => kts_exm
   case lU => kts_exm
   case lV => kts_exm
   case nR => kts_exm
   case nS => kts_exm
   case lW => kts_exm
   case lX => kts_exm
   case lY => kts_exm
   case nT => kts_exm
   case oU => kts_exm
   case nU => kts_exm
   case nV => kts_exm
   case nW => kts_exm
   case oV => kts_exm
   case nX => kts_exm
   case lZ => kts_exm
   case mh => kts_exm
   case mj => kts_exm
   case nY => kts_exm
   case oW => kts_exm
   case n6 => kts_exm
   case n8 => kts_exm
   case n9 => kts_exm
   case oX => kts_exm
   case j5 => kts_exm
   case j6 => kts_exm
   case kN => kts_exm
   case j7 => kts_exm
   case kO => kts_exm
   case E8 | ZF | ZG | ZH | A2 | Vh | Vi | Vj | Jv | dI | ac7 | wG | Nq | qi | agn | ago | Nr | dX | agp | Ms | acI | amU | amV | amW | UA | IV | akn | ako | UB | jk | akp | akq | UC | IC | akr | aks | acJ | zm | amX | amY | acK | bM | amZ | am0 | Nt | aO | agq | agr | uX | Oa | Ob | Oc | A3 | Vk | Vl | Vm | uZ | Od | Oe | Og | xE | Q9 | Ra | Rb | A4 | Vo | Vp | Vq | A5 | Vr | Vs | Vt | Jw | ac8 | ac9 | ada | u9 | Oh | Oi | Oj | E9 | ZI | ZJ | ZK | xG | Rc | Rf | Rg | Nu | ags | agt | agu | xJ | xK | Rh | Ri | Rj | ve | vf | Ol | Om | Oo | Nx | aY | agv | agw | Ny | agx | agy | agz | Nz | agA | agB | agC | mq | Bb | Bc | Bd | oh | Dw | Dy | Dz | A7 | Vu | Vv | Vw | mw | Be | Bf | Bg | pX | Gs | Gu | Gv | Fb | ZL | ZM | ZN | oi | DB | DC | DE | vg | Oq | Ot | Ou | oj | DF | DG | DH | pY | Gw | Gy | Gz | pZ | GA | GB | GC | om | DI | DJ | DK | rD | JT | JV | JW | rE | JX | JY | JZ | oY | Fl | Fo | Fp | Jz | adb | ade | adf | Fe | ZO | ZP | ZQ | NC | agD | agE | agF | Xb | am1 | am2 | am3 | acN | NF | acO | NK | JA | acP | UI | Ff | xM | NP | JB | rG | NQ | JC | Fg | jo | acU | NR | NS | JD | JF | U6 | JG | U7 | NT | JH | Vb | vm | vn => (try delta L3.kP); k_is
