import PyProof.Rows.All
import Wide.All
import OpenK.AllK
import Wide.FinOn
import Lean
import PyProof.EqAt
import PyProof.EqKinds
import PyProof.TupleCall
import PySem.Challenge.RW_moodtree_k16_one_spoiling_is_told
set_option Elab.async false
set_option linter.all false
set_option maxRecDepth 100000
set_option maxHeartbeats 4000000
set_option hygiene false
local macro_rules | `($x:ident) => let u:=Lean.Macro.throwUnsupported; match x.getId with
 | .str (.str .anonymous "Q") s => (match s.front with
|'a'=>(match s with
|"a"=>`((by omega))
|"aa"=>`(.builtin "object.__class__")
|"ab"=>`(eF X CL b e2 δ1 (.int j) δ2)
|"ac"=>`(cl aJ aM aD aq au aA av aB)
|"ad"=>`(show false = true from hs)
|"ae"=>`(ai (v_ (kF (i := 0) rfl Q.d)))
|"af"=>`(bY K CL b H Z δ σ (t :: ts) (v :: vs))
|"ag"=>`(.sh (dZ (bs.map kH) (nm.map .str) (fG ks es ss) (is.map bW) (os.map bW) (ws.map jG)))
|"ah"=>`((x == ("__classdict__" : Str)) = false)
|"ai"=>`(cB s 1 % 10 ^ (9 : Int).toNat)
|"aj"=>`(fun z => hc (by simp [z]))
|"ak"=>`(fun _ _ h r k => .cons (h fun a ha => k a (asL _ ha)) (r fun a ha => k a (asJ _ ha)))
|"al"=>`(∀ x, foldedSetIterable iter X.env x = pure x)
|"am"=>`(gZ (i := 0) (j := 0) E.fN.1 rfl rfl rfl)
|"an"=>`(.Call (.Name x pp) (e :: es) [] pos)
|"ao"=>`(fun j δ ⟨_, _, e⟩ => by subst e; exact asR rfl)
|"ap"=>`(fun _ _ _ k => by rw [D.qa] at k; cases k)
|"aq"=>`(fun hp => by cases hp)
|"ar"=>`(fun e => by rw [e] at h; exact absurd h Q.d)
|"as"=>`(ck Q.t rfl rfl (ai (bZ Q.b Q.R)) h8)
|"at"=>`(.ListComp elt [⟨tg, iter, ifs, 0⟩] scope pos)
|"au"=>`(sM (X := X.pinned p) (bs, nm, ks, es, ss, is, os, ws) E.nx E.ia.pin E.gJ (ao (ai (v_ E.aZ.1.pin)) aG) (by dsimp only [cA]; exact ⟨h, hr⟩))
|"av"=>`(fQ X scope Nc s3.heap.objs.size s3 (upd H s.heap.objs.size (.lst [])) fp)
|"aw"=>`(fun h _ r a ha => (asX.mp ha).elim (fun q => ⟨_, q ▸ h⟩) (r a))
|"ax"=>`(es.getD (1 + (j : Int)).toNat 0 ∈ (j : Int) :: oq es (j : Int))
|"ay"=>`(swapsWith e (some (.Name x pos')) pos.line X.env = pure false)
|"az"=>`(X.fn x = true \/ X.env.scope.names.lookup x = some .local)
|"aA"=>`(fun _ _ h r a ha => (asQ.mp ha).elim (h a) (r a))
|"aB"=>`(some (.builtin "BaseException.__getattribute__"))
|"aC"=>`(fun _ _ _ _ _ _ => by refine qP ?_; exact fun _ _ => rfl)
|"aD"=>`(ao (ai (BF (X := X.hand a) (v := .ty "ValueError") (by exact E.nh) (by exact E.nj) iR rfl)) aG)
|"aE"=>`(ao (ai (eY (X := X.hand a) (v := .ref (CL "BadTree")) (by exact E.fF) (by exact E.ef) rfl)) aG)
|"aF"=>`(ao (ai (eY (X := X.hand a) (v := .ref (CL "BadName")) (by exact E.fY) (by exact E.fc) rfl)) aG)
|"aG"=>`(ao (ai (eY (X := X.hand a) (v := .ref (CL "BadDeed")) (by exact E.ja) (by exact E.gP) rfl)) aG)
|"aH"=>`(ao (ai (eY (X := X.hand a) (v := .ref (CL "BadBox")) (by exact E.jV) (by exact E.g9) rfl)) aG)
|"aI"=>`(ao (ai (eY (X := X.hand a) (v := .ref (CL "BadWay")) (by exact E.m7) (by exact E.kB) rfl)) aG)
|"aJ"=>`((δc = OX δ1 ix /\ ∀ d ∈ ds, (g d).clean = true) \/ δc = OY δ1 ix)
|"aK"=>`(fun j δ ⟨_, _, _, e⟩ => by subst e; exact asR rfl)
|"aL"=>`(Ar.deeper (envOfC qual (az st) s.heap.objs.size f lu))
|"aM"=>`(fun p => by rw [← MX]; exact Pr (X := X.pinned p) E.g.nd E.sA.pin (Pq (X := X.pinned p) Q.au))
|"aN"=>`(cZ (p := [.ix 1]) (ck (j := 1) Q.t rfl rfl Q.b rfl) rfl rfl (bI _))
|"aO"=>`(aQ (ai (aT (aL E.uz) Q.b ⟨by decide, by decide⟩)) Q.b Q.c)
|"aP"=>`(t6 (sL (q := false) (bG (aL E.dD) (ai Q.u)).1 Q.aq))
|"aQ"=>`(((backTo pb (starEach [e] X.env)).all (fun x => !x.1) && (backToKw pb (keywordEach [] X.env)).all (fun x => x.1.isSome) && decide ([e].length + ([] : List Keyword).length + (if ([] : List Keyword).isEmpty then 0 else 1) < 30)) = true)
|"aR"=>`(if p.ks.getD (iY p c) Str.empty = "one" then ([-1, (iY p c : Int)] : List Int).getD (c / 700 % 2).toNat 0 else ([0, (p.nm.length : Int)] : List Int).getD (c / 700 % 2).toNat 0)
|"aS"=>`(∀ b ∈ ch, (b ∈ X.ex \/ X.s₀.heap.objs.size <= b) /\ b ≠ X.env.locals /\ (∀ x c, X.env.cells.lookup x = some c -> c ≠ b) /\ ∀ p ∈ X.pn ++ pins, p.1 ≠ b)
|"aT"=>`(fun r s' => r = .ok (.ret (.bool true)) /\ OldK s₁.heap s'.heap /\ s'.os = s₁.os /\ AllBare s'.gens)
|"aU"=>`(cZ (p := [.ix 7]) (u := T.lst ((p.ws.map jG).map T.sh)) (ck (j := 7) Q.t rfl rfl Q.b rfl) rfl rfl (bI _))
|"aV"=>`(gO (kM (aK (c_ (bs.map kH, nm.map L3.D.str, fG ks es ss, is, os, ws) E.sf E.jC (ao (aL E.aZ) aG) (by dsimp only [dR]; exact ⟨hs.i1, hs.o1, hs.w1, hs.d1⟩) rfl) (t2 := .sh (.bl (om nm.length bs.length is os ws))) (by show T.sh (.bl (om (nm.map L3.D.str).length (bs.map kH).length is os ws)) = _; rw [el, eb]))))
|"aW"=>`(gO (kM (aK (c_ (bs.map kH, nm.map L3.D.str, fG ks es ss, is.map bW, os.map bW, ws) E.tR E.ku (ao (aL E.aZ) aG) hs.w2 rfl) (t2 := .sh (.bl (Ic nm.length bs.length 0 ws))) (by show T.sh (.bl (Ic (nm.map L3.D.str).length (bs.map kH).length 0 ws)) = _; rw [el, eb]))))
|"aX"=>`(gO (kM (aK (c_ (ks, es, ss, nm.map L3.D.str) E.vA E.lg (ao (dJ E.b7 E.qv (aL E.aZ) HW) (ao (dJ E.b7 E.cF (aL E.aZ) iu) aG)) hs.k1 rfl) (t2 := .sh (.bl (Ea ks es ss nm.length))) (by show T.sh (.bl (Ea ks es ss (nm.map L3.D.str).length)) = _; rw [el]))))
|_=>u)
|'b'=>(match s with
|"b"=>`(ai aj)
|_=>u)
|'c'=>(match s with
|"c"=>`((by decide))
|_=>u)
|'d'=>(match s with
|"d"=>`((by decide +kernel))
|_=>u)
|'e'=>(match s with
|"e"=>`(List Int)
|_=>u)
|'f'=>(match s with
|"f"=>`((by decide +kernel))
|_=>u)
|'g'=>(match s with
|"g"=>`(Str -> Addr)
|_=>u)
|'h'=>(match s with
|"h"=>`(List Str)
|_=>u)
|'i'=>(match s with
|"i"=>`(aC rfl)
|_=>u)
|'j'=>(match s with
|"j"=>`(.refl _)
|_=>u)
|'k'=>(match s with
|"k"=>`(model X.prog X.w)
|_=>u)
|'l'=>(match s with
|"l"=>`(PySem.W.Frag)
|_=>u)
|'m'=>(match s with
|"m"=>`(Inv X pins σ H s)
|_=>u)
|'n'=>(match s with
|"n"=>`(List (Option T))
|_=>u)
|'o'=>(match s with
|"o"=>`(List (Addr × Obj))
|_=>u)
|'p'=>(match s with
|"p"=>`(List Addr)
|_=>u)
|'q'=>(match s with
|"q"=>`(List Value)
|_=>u)
|'r'=>(match s with
|"r"=>`((by simp))
|_=>u)
|'s'=>(match s with
|"s"=>`((x == ("__debug__" : Str)) = false)
|_=>u)
|'t'=>(match s with
|"t"=>`(aW E.aO.1 rfl)
|_=>u)
|'u'=>(match s with
|"u"=>`(cg Q.b)
|_=>u)
|'v'=>(match s with
|"v"=>`(Value -> Shared -> Prop)
|_=>u)
|'w'=>(match s with
|"w"=>`(z1.trans z2)
|_=>u)
|'x'=>(match s with
|"x"=>`(ai (v_ E.wZ.1.hand))
|_=>u)
|'y'=>(match s with
|"y"=>`((by exact E.aV))
|_=>u)
|'z'=>(match s with
|"z"=>`((by exact E.aU))
|_=>u)
|'A'=>(match s with
|"A"=>`(Str -> Option Value)
|_=>u)
|'B'=>(match s with
|"B"=>`(.Name x pos)
|_=>u)
|'C'=>(match s with
|"C"=>`(List (Str × Int))
|_=>u)
|'D'=>(match s with
|"D"=>`(k1.trans k2)
|_=>u)
|'E'=>(match s with
|"E"=>`(aT (aL E.aH) (ai aj) ⟨by decide, by decide⟩)
|_=>u)
|'F'=>(match s with
|"F"=>`(.ref (CL "BadTree"))
|_=>u)
|'G'=>(match s with
|"G"=>`(.ref (CL "BadName"))
|_=>u)
|'H'=>(match s with
|"H"=>`(.ref (CL "BadDeed"))
|_=>u)
|'I'=>(match s with
|"I"=>`(.ref (CL "BadBox"))
|_=>u)
|'J'=>(match s with
|"J"=>`(.ref (CL "BadWay"))
|_=>u)
|'K'=>(match s with
|"K"=>`(bY K CL b H Z δ σ ts vs)
|_=>u)
|'L'=>(match s with
|"L"=>`(dz I q Q.r)
|_=>u)
|'M'=>(match s with
|"M"=>`(gM Q.b Q.b ⟨by decide, by decide, by decide⟩)
|_=>u)
|'N'=>(match s with
|"N"=>`(aQ (aL E.aH) Q.b Q.c)
|_=>u)
|'O'=>(match s with
|"O"=>`(starEach (e :: es) X.env = (false, eval e X.env) :: starEach es X.env)
|_=>u)
|'P'=>(match s with
|"P"=>`(fun _ _ _ _ => trivial)
|_=>u)
|'Q'=>(match s with
|"Q"=>`(dH X CL b e δ t δ1)
|_=>u)
|'R'=>(match s with
|"R"=>`(ai (aQ (ai Q.E) Q.b Q.c))
|_=>u)
|'S'=>(match s with
|"S"=>`(fun _ _ _ => trivial)
|_=>u)
|'T'=>(match s with
|"T"=>`(ne c (by simp [hc]))
|_=>u)
|'U'=>(match s with
|"U"=>`(s.heap.objs.size + 1)
|_=>u)
|'V'=>(match s with
|"V"=>`(starEach [e] X.env = (false, eval e X.env) :: starEach [] X.env)
|_=>u)
|'W'=>(match s with
|"W"=>`((backTo pos (starEach es X.env)).any (·.1) = false)
|_=>u)
|'X'=>(match s with
|"X"=>`(ig bs nm ks es ss is os ws)
|_=>u)
|'Y'=>(match s with
|"Y"=>`(eF X CL b e1 δ (.int i) δ1)
|_=>u)
|'Z'=>(match s with
|"Z"=>`(r fun a ha => k a (asV _ ha))
|_=>u)
 |_=>u)
 | _ => u
noncomputable section
namespace L2
open PySem PySem.Spec PyProof.Rows
abbrev asG := @List.length_map
abbrev asH := @if_neg
abbrev asI := @of_decide_eq_true
abbrev asJ := @List.mem_append_right
abbrev asK := @Nat.le_add_right_of_le
abbrev asL := @List.mem_append_left
abbrev asM := @if_pos
abbrev asN := @decide_eq_true
abbrev asO := @List.append_assoc
abbrev asP := @of_decide_eq_false
abbrev asQ := @List.mem_append
abbrev asR := @Nat.le_of_ble_eq_true
abbrev asS := @Nat.le_trans
abbrev asT := @List.mem_cons_self
abbrev asU := @List.getD_eq_getElem?_getD
abbrev asV := @List.mem_cons_of_mem
abbrev asW := @List.mem_map
abbrev asX := @List.mem_cons
abbrev asY := @decide_eq_false
abbrev asZ := @Bool.and_eq_true
abbrev as1 := @Int.emod_lt_of_pos
abbrev as2 := @List.getElem?_eq_getElem
abbrev as3 := @Nat.le_refl
abbrev as4 := @Bool.and_false
abbrev as5 := @List.length_append
abbrev as6 := @Heap.get?_push_of_some
abbrev as7 := @Bool.false_ne_true
abbrev as8 := @List.not_mem_nil
abbrev as9 := @Int.emod_nonneg
abbrev ata := @Nat.zero_le
abbrev atb := @wpAny_bind
abbrev atc := @List.length_set
abbrev atd := @Heap.lt_size
abbrev ate := @PySem.W.mg_of
abbrev atf := @List.getElem?_map
abbrev atg := @List.map_cons
abbrev ath := @List.map_map
abbrev ati := @List.mem_singleton
abbrev atj := @List.perm_append_comm
abbrev atk := @List.all_eq_true
abbrev atl := @List.getElem?_eq_some_iff
abbrev atm := @List.size_toArray
abbrev atn := @List.Sublist.append
abbrev ato := @Int.toNat_natCast
abbrev atp := @List.mem_range
abbrev atq := @List.Sublist.refl
abbrev atr := @List.nodup_append
abbrev ats := @List.length_range
abbrev att := @List.cons_append
abbrev atu := @List.lookup_cons
abbrev atv := @Option.some.inj
abbrev atw := @List.append_nil
abbrev atx := @Nat.lt_of_lt_of_le
abbrev aty := @Nat.ne_of_lt
abbrev atz := @Heap.get?_push_size
abbrev atA := @wpAny_pure
abbrev atB := @List.mem_of_getElem?
abbrev atD := @List.Perm.append_left
abbrev atE := @List.length_cons
abbrev atF := @List.length_take
abbrev atG := @Bool.false_and
abbrev atH := @Option.map_eq_some_iff
abbrev atJ := @Nat.le_of_lt
abbrev atL := @List.nodup_cons
abbrev atM := @List.reverse_cons
abbrev atN := @wpAny_mono
abbrev atO := @List.sublist_append_right
abbrev atP := @sizeLine_eq
abbrev atQ := @PySem.W.mg_none_of
abbrev atR := @List.filterMap_cons
abbrev atU := @List.map_congr_left
abbrev atV := @List.all_cons
abbrev atW := @List.any_cons
abbrev atX := @Bool.or_eq_false_iff
abbrev atY := @wpAny_truthy_bool
abbrev atZ := @decide_eq_true_eq
abbrev at3 := @PySem.mem_of_lookup
abbrev at4 := @List.replicate_succ
abbrev at5 := @List.getElem?_set_self
abbrev at6 := @Int.zero_add
abbrev at7 := @List.getElem?_append_right
abbrev at8 := @List.getElem_mem
abbrev at9 := @List.length_replicate
abbrev aua := @List.nodup_nil
abbrev aub := @List.nil_append
abbrev auc := @PySem.W.hideAll_get
abbrev aud := @List.getElem?_range
abbrev aue := @List.perm_middle
abbrev auf := @PyProof.Rows.callWith_type1
abbrev auh := @wpAny_Call_Name_kw
abbrev aui := @Ne.symm
abbrev auj := @wpAny_passesOwn
abbrev auk := @List.find?_cons
abbrev aul := @List.map_append
abbrev aum := @List.range_succ
abbrev aun := @wpAny_holding
abbrev auo := @List.flatten_cons
abbrev aup := @List.mem_of_mem_take
abbrev auq := @beq_self_eq_true
abbrev aur := @F.called_set
abbrev aus := @beq_eq_false_iff_ne
abbrev aut := @List.perm_iff_count
abbrev auu := @List.length_pos_iff
abbrev auv := @wpAny_getItem_str_slice
abbrev auw := @List.mem_filter
abbrev auy := @Bool.eq_iff_iff
abbrev auz := @Nat.lt_of_le_of_lt
abbrev auA := @List.pairwise_cons
abbrev auB := @List.all_append
abbrev auC := @List.take_add_one
abbrev auD := @List.count_append
abbrev auE := @codeAny_mono
abbrev auF := @List.getElem?_eq_none
abbrev auG := @Txt.slice_le
abbrev auH := @List.mem_set
abbrev auI := @List.getElem?_set_ne
abbrev auJ := @beq_iff_eq
abbrev auK := @Nat.lt_succ_self
abbrev auL := @Nat.lt_irrefl
abbrev auM := @List.map_take
abbrev auN := @Int.le_refl
abbrev auO := @Array.toList_append
abbrev auP := @List.getElem?_append_left
abbrev auQ := @List.drop_eq_getElem_cons
abbrev auR := @PySem.W.of_hideAll
abbrev auS := @or_false
abbrev auT := @List.map_set
abbrev auU := @List.Pairwise.imp_of_mem
abbrev auV := @List.Perm.refl
abbrev auW := @PySem.F.plainAttrs_list
abbrev auX := @F.plain_set_update_loop
abbrev auY := @decide_eq_false_iff_not
abbrev auZ := @List.pairwise_map
abbrev Key := Sum Int Str
def Kd : Key -> Value -> Bool
 | .inl k, v => Value.isInt k v
 | .inr x, v => Value.isStrOf x v
def anu (w : World) : Key -> Int
 | .inl k => hashInt k
 | .inr x => hashStr w x
theorem fZ : ∀ {k : Key} {v : Value}, Kd k v = true -> (∃ i t, k = Sum.inl i /\ v = Value.int i t) \/ (∃ x t, k = Sum.inr x /\ v = Value.str x t)
 | .inl i, v, h => by
   obtain ⟨t, e⟩ := Value.isInt_shape (k := i) (v := v) h
   exact .inl ⟨i, t, rfl, e⟩
 | .inr x, v, h => by
   obtain ⟨t, e⟩ := Value.isStrOf_shape (x := x) (v := v) h
   exact .inr ⟨x, t, rfl, e⟩
theorem Xi (i : Int) (t : Tok) : Kd (.inl i) (.int i t) = true := by simp [Kd, Value.isInt]
theorem Xj (x : Str) (t : Tok) : Kd (.inr x) (.str x t) = true := by simp [Kd, Value.isStrOf]
theorem aha (a b : Int) : decide ((Sum.inl a : Key) = Sum.inl b) = (a == b) := by
 by_cases e : a = b
 . subst e; simp
 . have h : ¬ (Sum.inl a : Key) = Sum.inl b := fun q => e (Sum.inl.inj q)
   rw [asY h]
   exact (aus.mpr e).symm
theorem ahb (a b : Str) : decide ((Sum.inr a : Key) = Sum.inr b) = decide (a = b) := by
 by_cases e : a = b
 . subst e; simp
 . have h : ¬ (Sum.inr a : Key) = Sum.inr b := fun q => e (Sum.inr.inj q)
   rw [asY h, asY e]
theorem ahc (a : Int) (b : Str) : decide ((Sum.inl a : Key) = Sum.inr b) = false := asY (fun q => nomatch q)
theorem ahd (a : Str) (b : Int) : decide ((Sum.inr a : Key) = Sum.inl b) = false := asY (fun q => nomatch q)
def j4 (prog : Program) (w : World) : PySem.KeyKind prog w Key where
 is := Kd
 hash := anu w
 inj := fun v a b ha hb => by
   rcases fZ ha with ⟨i, t, rfl, rfl⟩ | ⟨x, t, rfl, rfl⟩
   . rcases fZ hb with ⟨j, u, rfl, e⟩ | ⟨y, u, rfl, e⟩
     . injection e with e1 _; rw [e1]
     . exact nomatch e
   . rcases fZ hb with ⟨j, u, rfl, e⟩ | ⟨y, u, rfl, e⟩
     . exact nomatch e
     . injection e with e1 _; rw [e1]
 byValue := fun k v h => by
   rcases fZ h with ⟨i, t, rfl, rfl⟩ | ⟨x, t, rfl, rfl⟩ <;> rfl
 pyHash := fun hv h => by
   rcases fZ hv with ⟨i, t, rfl, rfl⟩ | ⟨x, t, rfl, rfl⟩
   . exact wpAny_pyHash_int h
   . exact wpAny_pyHash_str h
 eqBool := fun hu hv h => by
   rcases fZ hu with ⟨i, t, rfl, rfl⟩ | ⟨x, t, rfl, rfl⟩
   . rcases fZ hv with ⟨j, u, rfl, rfl⟩ | ⟨y, u, rfl, rfl⟩
     . rw [aha] at h; exact wpAny_eqBool_int h
     . rw [ahc] at h; exact SeqAt.EqAt.int_str i t y u _ _ _ _ h
   . rcases fZ hv with ⟨j, u, rfl, rfl⟩ | ⟨y, u, rfl, rfl⟩
     . rw [ahd] at h; exact SeqAt.EqAt.str_int x t j u _ _ _ _ h
     . rw [ahb] at h; exact wpAny_eqBool_str h
 «strs» := fun k x t v h => by
   rcases fZ h with ⟨i, u, rfl, e⟩ | ⟨y, u, rfl, e⟩
   . exact nomatch e
   . injection e with e1 _
     subst e1
     cases v <;> rfl
theorem Ot (prog : Program) (w : World) (i : Int) (t : Tok) : (j4 prog w).is (.inl i) (.int i t) = true := Xi i t
theorem Ou (prog : Program) (w : World) (x : Str) (t : Tok) : (j4 prog w).is (.inr x) (.str x t) = true := Xj x t
inductive V where
 | non | bl (b : Bool) | int (i : Int) | str (x : Str) | Xk (b : Array UInt8) | flt (b : UInt64) | ref (a : Addr) | ty (n : String)
 deriving DecidableEq
def RelV : V -> Value -> Prop
 | .non, u => u = Value.none
 | .bl b, u => u = Value.bool b
 | .int i, u => ∃ t, u = Value.int i t
 | .str x, u => ∃ t, u = Value.str x t
 | .Xk b, u => ∃ t, u = Value.bytes b t
 | .flt b, u => ∃ t, u = Value.float b t
 | .ref a, u => u = Value.ref a
 | .ty n, u => u = Value.type n
abbrev Vals : List V -> List Value -> Prop := Paired RelV
variable {us : Q.q}
theorem Vals.length {xs : List V} (r : Vals xs us) : xs.length = us.length := Paired.length r
theorem Vals.get : ∀ {xs : List V} {us : Q.q} {i : Nat} {x : V}, Vals xs us -> xs[i]? = some x -> ∃ u, us[i]? = some u /\ RelV x u
 | _, _, _, _, .nil, e => by simp at e
 | _, _, 0, _, .cons r _, e => by simp at e; subst e; exact ⟨_, rfl, r⟩
 | _, _, i + 1, x, .cons _ t, e => by
   obtain ⟨u, h1, h2⟩ := Vals.get (i := i) (x := x) t (by simpa using e)
   exact ⟨u, by simpa using h1, h2⟩
theorem Vals.set {x : V} {u : Value} (r : RelV x u) : ∀ {xs : List V} {us : Q.q} (i : Nat), Vals xs us -> Vals (xs.set i x) (us.set i u)
 | _, _, _, .nil => .nil
 | _, _, 0, .cons _ t => .cons r t
 | _, _, i + 1, .cons q t => .cons q (Vals.set r i t)
theorem Vals.append : ∀ {xs ys : List V} {us ws : Q.q}, Vals xs us -> Vals ys ws -> Vals (xs ++ ys) (us ++ ws)
 | _, _, _, _, .nil, s => s
 | _, _, _, _, .cons r t, s => .cons r (Vals.append t s)
theorem Vals.take : ∀ {xs : List V} {us : Q.q} (n : Nat), Vals xs us -> Vals (xs.take n) (us.take n)
 | _, _, 0, _ => .nil
 | _, _, _ + 1, .nil => .nil
 | _, _, n + 1, .cons r t => .cons r (Vals.take n t)
theorem Vals.drop : ∀ {xs : List V} {us : Q.q} (n : Nat), Vals xs us -> Vals (xs.drop n) (us.drop n)
 | _, _, 0, r => r
 | _, _, _ + 1, .nil => .nil
 | _, _, n + 1, .cons _ t => Vals.drop n t
def Ho : Option V -> Option Value -> Prop
 | some v, some u => RelV v u
 | none, none => True
 | _, _ => False
def KV {κ : Type} : List (κ × V) -> List (κ × Value) -> Prop := Paired fun (p : κ × V) (q : κ × Value) => p.1 = q.1 /\ RelV p.2 q.2
def kV : Key -> V
 | .inl i => .int i
 | .inr x => .str x
inductive HO where
 | lst (xs : List V)
 | tup (xs : List V)
 | dK (b8 : List (Key × V)) | dT (b8 : List (List Key × V))
 | set (S : Int -> Bool) (n : Nat)
 | ins (C dx : Addr) (fs : List (Str × V))
 | own (x : Addr)
 | xd (fs : List (Str × V))
 | met (f x : Addr)
 | rng (lo hi : Int)
 | iX (o : Obj) (u : HO)
 | tbl (ps : Array Value)
 | tabs (q : Str)
 | cod (q : Str)
 | ext (φ : Heap -> Prop)
abbrev Hp := Addr -> Option HO
def upd (H : Hp) (a : Addr) (o : HO) : Hp := fun b => if b = a then some o else H b
variable {H : Hp} {a : Addr} {o : HO}
theorem bR : upd H a o a = some o := by unfold upd; rw [asM rfl]
variable {b : Addr}
theorem aP (h : b ≠ a) : upd H a o b = H b := by unfold upd; rw [asH h]
theorem akv {u : HO} (h : H a = some o) (h' : H b = some u) (d : o ≠ u) : a ≠ b := by
 intro e; subst e; rw [h] at h'; exact d (atv h')
theorem cJ (h : H a = some o) (h' : H b = none) : a ≠ b := by
 intro e; subst e; rw [h] at h'; cases h'
section
variable (P : Program) (w : World)
def iP (H : Hp) (h : Heap) (a : Addr) : HO -> Prop
 | .lst xs => xs.length <= sizeLine /\ ∃ (its : Q.q) (n : Nat), Vals xs its /\ h.get? a = some { cls := .type "list", data := .seq its.toArray n }
 | .tup xs => xs.length <= sizeLine /\ ∃ its : List Value, Vals xs its /\ IsTup h a its.toArray
 | .dK b8 => b8.length <= sizeLine /\ (a == sysModules) = false /\ ∃ vs, KV b8 vs /\ h.DictOf (j4 P w) a vs
 | .dT b8 => b8.length <= sizeLine /\ (a == sysModules) = false /\ ∃ xs : List (List Key × Addr × Value),
     Paired (fun (p : List Key × V) (q : List Key × Addr × Value) => p.1 = q.1 /\ H q.2.1 = some (.tup (p.1.map kV)) /\ RelV p.2 q.2.2) b8 xs ∧
     ∃ o es ep, h.get? a = some o /\ o.ExactDict /\ o.data = .dict es ep /\ es.toList = xs.map (entryOfKey (tupleKind (j4 P w))) /\ (xs.map (·.1)).Nodup
 | .set S n => h.SetOf (intKind P w) a S n
 | .ins C dx fs => H dx = some (.own a) /\ fs.length <= 1000 /\ dx ≠ a /\ h.get? a = some (PySem.W.instObj C dx) ∧
     ∃ mA, h.Ns1 dx mA /\ (∀ f, Ho (fs.lookup f) (mA f)) /\ PySem.Within mA (fs.map (·.1))
 | .own _ => ∃ o, h.get? a = some o
 | .xd fs => ∃ mA, h.Ns1 a mA /\ ∀ f, Ho (fs.lookup f) (mA f)
 | .rng lo hi => ∃ t u v, h.get? a = some { cls := .type "range", data := .fields #[.int lo t, .int hi u, .int 1 v] }
 | .iX o u => h.get? a = some o /\ iP H h a u
 | .tbl ps => h.get? a = some { cls := .none, data := .fields ps }
 | .tabs q => ∃ ps : Array Value, h.get? a = some { cls := .none, data := .fields ps } /\ TriplesOk ps.toList /\ ∀ pos cv, codeAmong pos ps.toList = some cv -> ∃ c, cv = .ref c /\ H c = some (.cod q)
 | .cod q => ∃ o vs t, h.get? a = some o /\ o.data = .fields vs /\ vs[1]? = some (.str q t)
 | .met f x => h.get? a = some (PySem.W.methodObj (.ref f) (.ref x))
 | .ext φ => φ h /\ (∃ o, h.get? a = some o) /\ ∀ h1 h2 : Heap, φ h1 -> (∀ o, h1.get? a = some o -> h2.get? a = some o) -> φ h2
def xH (H : Hp) (h : Heap) : Prop := ∀ a o, H a = some o -> iP P w H h a o
end
variable {P : Program} {w : World} {H' : Hp} {h h' : Heap}
theorem iP.lt (x : iP P w H h a o) : a < h.objs.size := by
 cases o with
 | lst xs => obtain ⟨_, _, _, _, e⟩ := x; exact atd e
 | tup xs => obtain ⟨_, _, _, p⟩ := x; exact p.lt
 | dK b8 => obtain ⟨_, _, _, _, o, _, _, e, _⟩ := x; exact atd e
 | dT b8 => obtain ⟨_, _, _, _, o, _, _, e, _⟩ := x; exact atd e
 | set S n => obtain ⟨o, _, _, _, e, _⟩ := x; exact atd e
 | ins C dx fs => obtain ⟨_, _, _, e, _⟩ := x; exact atd e
 | own y => obtain ⟨_, e⟩ := x; exact atd e
 | xd fs => obtain ⟨_, ⟨_, _, _, e, _⟩, _⟩ := x; exact atd e
 | rng lo hi => obtain ⟨_, _, _, e⟩ := x; exact atd e
 | iX ob u => obtain ⟨e, _⟩ := x; exact atd e
 | tbl ps => exact atd (show h.get? a = some _ from x)
 | tabs q => obtain ⟨_, e, _⟩ := x; exact atd e
 | cod q => obtain ⟨_, _, _, e, _⟩ := x; exact atd e
 | met f y => exact atd (show h.get? a = some _ from x)
 | ext φ => obtain ⟨_, ⟨_, e⟩, _⟩ := x; exact atd e
theorem Paired.ahe {α β : Type} {F G : α -> β -> Prop} : ∀ {l₁ : List α} {l₂ : List β}, Paired F l₁ l₂ -> (∀ a b, F a b -> G a b) -> Paired G l₁ l₂
 | _, _, .nil, _ => .nil
 | _, _, .cons r t, f => .cons (f _ _ r) (Paired.ahe t f)
theorem iP.JW (x : iP P w H h a o) (k : ∀ b u, (b = a \/ H b = some (.own a)) -> h.get? b = some u -> h'.get? b = some u)
   (ho : ∀ b, H b = some (.own a) -> H' b = some (.own a)) (ht : ∀ b xs, H b = some (.tup xs) -> H' b = some (.tup xs)) (rE : ∀ b q, H b = some (.cod q) -> H' b = some (.cod q) := by intro _ _ q; exact q) : iP P w H' h' a o := by
 induction o with
 | lst xs => obtain ⟨z, its, n, r, e⟩ := x; exact ⟨z, its, n, r, k _ _ (.inl rfl) e⟩
 | tup xs => obtain ⟨z, its, r, ob, e, c⟩ := x; exact ⟨z, its, r, ob, k _ _ (.inl rfl) e, c⟩
 | dK b8 => obtain ⟨z, y, vs, r, ob, es, ep, e, c⟩ := x; exact ⟨z, y, vs, r, ob, es, ep, k _ _ (.inl rfl) e, c⟩
 | dT b8 =>
   obtain ⟨z, y, xs, r, ob, es, ep, e, c⟩ := x
   exact ⟨z, y, xs, Paired.ahe r fun p q z => ⟨z.1, ht _ _ z.2.1, z.2.2⟩, ob, es, ep, k _ _ (.inl rfl) e, c⟩
 | set S n => obtain ⟨ob, es, ep, t, e, c⟩ := x; exact ⟨ob, es, ep, t, k _ _ (.inl rfl) e, c⟩
 | ins C dx fs =>
   obtain ⟨d, z, ne, e, mA, ⟨od, es, ep, e2, c⟩, r⟩ := x
   exact ⟨ho _ d, z, ne, k _ _ (.inl rfl) e, mA, ⟨od, es, ep, k _ _ (.inr d) e2, c⟩, r⟩
 | own y => obtain ⟨ob, e⟩ := x; exact ⟨ob, k _ _ (.inl rfl) e⟩
 | xd fs => obtain ⟨mA, ⟨od, es, ep, e, c⟩, r⟩ := x; exact ⟨mA, ⟨od, es, ep, k _ _ (.inl rfl) e, c⟩, r⟩
 | rng lo hi => obtain ⟨t, u, v, e⟩ := x; exact ⟨t, u, v, k _ _ (.inl rfl) e⟩
 | iX ob u ih => obtain ⟨e, q⟩ := x; exact ⟨k _ _ (.inl rfl) e, ih q⟩
 | tbl ps =>
   have e : h.get? a = some { cls := .none, data := .fields ps } := x
   show h'.get? a = some { cls := .none, data := .fields ps }
   exact k a _ (.inl rfl) e
 | met f y =>
   have e : h.get? a = some (PySem.W.methodObj (.ref f) (.ref y)) := x
   show h'.get? a = some (PySem.W.methodObj (.ref f) (.ref y))
   exact k a _ (.inl rfl) e
 | tabs q => obtain ⟨ps, e, tr, cs⟩ := x; exact ⟨ps, k _ _ (.inl rfl) e, tr, fun pos cv z => let ⟨c, e1, e2⟩ := cs pos cv z; ⟨c, e1, rE _ _ e2⟩⟩
 | cod q => obtain ⟨ob, vs, t, e, r⟩ := x; exact ⟨ob, vs, t, k _ _ (.inl rfl) e, r⟩
 | ext φ => obtain ⟨p, ⟨o, e⟩, st⟩ := x; exact ⟨st _ _ p fun o q => k _ _ (.inl rfl) q, ⟨o, k _ _ (.inl rfl) e⟩, st⟩
theorem xH.lt (x : xH P w H h) (e : H a = some o) : a < h.objs.size := (x a o e).lt
theorem xH.fresh (x : xH P w H h) (e : h.objs.size <= a) : H a = none := by
 cases q : H a with
 | none => rfl
 | some u => exact absurd (atx (x.lt q) e) (auL _)
theorem xH.kept (x : xH P w H h) (k : ∀ b u, h.get? b = some u -> h'.get? b = some u) : xH P w H h' := fun a o e =>
 (x a o e).JW (fun b u _ q => k b u q) (fun _ q => q) fun _ _ q => q
theorem xH.laid (x : xH P w H h) (k : ∀ b u, h.get? b = some u -> h'.get? b = some u) (hp : h.objs.size <= a) (new : iP P w (upd H a o) h' a o) : xH P w (upd H a o) h' := fun b u e => by
 have hn := x.fresh hp
 by_cases hb : b = a
 . subst hb; rw [bR] at e; cases e; exact new
 . rw [aP hb] at e
   exact (x b u e).JW (fun c v _ q => k c v q) (fun c q => by rw [aP (cJ q hn)]; exact q) (fun c xs q => by rw [aP (cJ q hn)]; exact q) fun c z q => by rw [aP (cJ q hn)]; exact q
def Rd (H : Hp) (a : Addr) (u : HO) : Prop := H a = some u \/ ∃ o, H a = some (.iX o u)
theorem Rd.ok {u : HO} (r : Rd H a u) (x : xH P w H h) : iP P w H h a u := by
 rcases r with r | ⟨o, r⟩
 . exact x a u r
 . obtain ⟨_, q⟩ := x a _ r
   exact q
def Mut : Option HO -> Prop
 | some (.lst _) => True
 | some (.dK _) => True
 | some (.dT _) => True
 | some (.set _ _) => True
 | some (.ins _ _ _) => True
 | some (.ext _) => True
 | some (.tabs _) => True
 | _ => False
variable {x e : Addr} {o' : HO}
theorem xH.write (ok : xH P w H h) (mu : Mut (H x)) (he : e = x \/ H e = some (.own x)) (k : ∀ b u, b ≠ e -> h.get? b = some u -> h'.get? b = some u) (heo : ∃ u, h'.get? e = some u)
   (new : iP P w (upd H x o') h' x o') : xH P w (upd H x o') h' := fun b u q => by
 have akx : ∀ c y, H c = some (.own y) -> c ≠ x := fun c y r z => by subst z; rw [r] at mu; exact mu
 have anv : ∀ c xs, H c = some (.tup xs) -> c ≠ x := fun c xs r z => by subst z; rw [r] at mu; exact mu
 have anw : ∀ c q, H c = some (.cod q) -> c ≠ x := fun c q r z => by subst z; rw [r] at mu; exact mu
 by_cases hb : b = x
 . subst hb; rw [bR] at q; cases q; exact new
 . rw [aP hb] at q
   by_cases hbe : b = e
   . have q' : H b = some (.own x) := by
       rcases he with z | z
       . exact absurd (hbe.trans z) hb
       . rw [hbe]; exact z
     rw [q] at q'; cases q'
     obtain ⟨v, hv⟩ := heo
     exact ⟨v, by rw [hbe]; exact hv⟩
   . refine (ok b u q).JW (fun c v hc r => k c v ?_ r) (fun c r => by rw [aP (akx c b r)]; exact r) (fun c xs r => by rw [aP (anv c xs r)]; exact r) fun c z r => by rw [aP (anw c z r)]; exact r
     rcases hc with rfl | hc
     . exact hbe
     . rintro rfl
       rcases he with z | z
       . exact akx c b hc z
       . rw [hc] at z; cases z; exact hb rfl
structure Un (fs ex : Q.p) (H H' : Hp) (h h' : Heap) : Prop where
 keep : ∀ b o, h.get? b = some o -> H b = none -> b ∉ fs -> b ∉ ex -> h'.get? b = some o
 slot : ∀ b o, h.get? b = some o -> H b = none -> b ∈ fs -> b ∉ ex -> ∃ sl, h'.get? b = some { o with slots := sl }
 free : ∀ b o, h.get? b = some o -> H b = none -> b ∉ ex -> H' b = none
 there : ∀ b o, h.get? b = some o -> b ∉ ex -> ∃ o', h'.get? b = some o'
 FZ : ∀ b xs, H b = some (.tup xs) -> H' b = some (.tup xs)
 lq : ∀ b o u, H b = some (.iX o u) -> H' b = some (.iX o u)
 F0 : ∀ b ps, H b = some (.tbl ps) -> ∃ more, H' b = some (.tbl (ps ++ more))
section
variable {fs ex : Q.p} {H1 : Hp} {h1 : Heap}
theorem Un.any (u : Un fs ex H H1 h h1) {ob : Obj} (q : h.get? b = some ob) (n : H b = none) (hx : b ∉ ex) : ∃ sl, h1.get? b = some { ob with slots := sl } := by
 by_cases hb : b ∈ fs
 . exact u.slot b ob q n hb hx
 . exact ⟨ob.slots, u.keep b ob q n hb hx⟩
theorem Un.kept (k : ∀ b u, h.get? b = some u -> h'.get? b = some u) : Un fs ex H H h h' :=
 ⟨fun b ob q _ _ _ => k b ob q, fun b ob q _ _ _ => ⟨ob.slots, k b ob q⟩, fun _ _ _ n _ => n, fun b ob q _ => ⟨ob, k b ob q⟩, fun _ _ q => q, fun _ _ _ q => q, fun _ ps q => ⟨#[], by rw [q]; simp⟩⟩
theorem Un.refl : Un fs ex H H h h := Un.kept fun _ _ q => q
theorem Un.laid (k : ∀ b u, h.get? b = some u -> h'.get? b = some u) (hp : h.objs.size <= a) (hn : H a = none) : Un fs ex H (upd H a o) h h' where
 keep := fun b u q _ _ _ => k b u q
 slot := fun b u q _ _ _ => ⟨u.slots, k b u q⟩
 free := fun b u q n _ => by rw [aP (aty (atx (atd q) hp))]; exact n
 there := fun b u q _ => ⟨u, k b u q⟩
 FZ := fun b xs q => by rw [aP (cJ q hn)]; exact q
 lq := fun b u xs q => by rw [aP (cJ q hn)]; exact q
 F0 := fun b ps q => ⟨#[], by rw [aP (cJ q hn), q]; simp⟩
theorem Un.write (mu : Mut (H x)) (he : e = x \/ H e = some (.own x)) (k : ∀ b u, b ≠ e -> h.get? b = some u -> h'.get? b = some u) (heo : ∃ u, h'.get? e = some u) : Un fs ex H (upd H x o) h h' := by
 have hx : ∀ b, H b = none -> b ≠ x := fun b n z => by subst z; rw [n] at mu; exact mu
 have hb : ∀ b, H b = none -> b ≠ e := fun b n z => by
   subst z
   rcases he with r | r
   . exact hx b n r
   . rw [n] at r; cases r
 have hm : ∀ b u, H b = some u -> ¬ Mut (some u) -> b ≠ x := fun b u q nm z => by subst z; rw [q] at mu; exact nm mu
 refine ⟨fun b u q n _ _ => k b u (hb b n) q, fun b u q n _ _ => ⟨u.slots, k b u (hb b n) q⟩, fun b u q n _ => by rw [aP (hx b n)]; exact n, fun b u q _ => ?_,
   fun b xs q => by rw [aP (hm b _ q fun z => z)]; exact q, fun b u xs q => by rw [aP (hm b _ q fun z => z)]; exact q, fun b ps q => ⟨#[], by rw [aP (hm b _ q fun z => z), q]; simp⟩⟩
 by_cases hbe : b = e
 . subst hbe; exact heo
 . exact ⟨u, k b u hbe q⟩
end
def trk (h : Heap) (H : Hp) : List Addr := (List.range h.objs.size).filter fun a => (H a).isSome
def K3 (h : Heap) (H : Hp) : Heap := PySem.W.hideAll h (trk h H)
theorem Xl (h : Heap) (H : Hp) : (K3 h H).objs.size = h.objs.size := PySem.W.hideAll_size _ _
theorem Z7 {o : Obj} (e : h.get? b = some o) (n : H b = none) : (K3 h H).get? b = some o :=
 auc _ e fun hm => by
   have q : (H b).isSome = true := (auw.mp hm).2
   rw [n] at q; simp at q
theorem adp {o : Obj} (e : (K3 h H).get? b = some o) : h.get? b = some o /\ H b = none := by
 have e' : h.get? b = some o := auR (trk h H) e
 refine ⟨e', ?_⟩
 cases q : H b with
 | none => rfl
 | some x =>
   have hm : b ∈ trk h H := auw.mpr ⟨atp.mpr (atd e'), by simp [q]⟩
   have z : (K3 h H).get? b = none := PySem.W.hideAll_none (trk h H) hm
   rw [z] at e; cases e
def adq (g h : Heap) (L : Addr) : List (Addr × Obj) := (List.range h.objs.size).filterMap fun a => if a = L \/ (g.get? a).isSome = true then none else (h.get? a).map fun o => (a, o)
def rest (g h : Heap) (L d : Addr) : List (Addr × Obj) := (adq g h L).filter fun p => decide (p.1 ≠ d)
structure Mod (K : Q.l) (mg : Q.A) (base : Heap) : Prop where
 Z8 : K.In base
 glob : base.Ns mainGlobals mg
 blt : ∃ mb, base.Ns builtinsNs mb /\ ∀ x : Str, x ≠ "__name__" -> mb x = bootBuiltins x
 nolimit : base.NoLimit
structure Cx where
 prog : Program
 w : World
 K : PySem.W.Frag
 mg : Str -> Option Value
 base : Heap
 A : Around
 N : List Str
 s₀ : Shared
 H₀ : Hp
 env : Env
 outer : List Env
 stack : List Env
 ex : List Addr
 fn : Str -> Bool
 calm : Bool
 pn : List (Addr × Obj)
 xe : Value -> Shared -> Prop
def vV (l : List Env) : List Addr := l.filterMap (·.frame)
abbrev Cx.fs (X : Cx) : List Addr := vV X.outer
def Vis (sc : Scope) (x : Str) : Prop := sc.names.lookup x = some .local \/ sc.names.lookup x = some .cell \/ sc.names.lookup x = some .free
def Loc (sc : Scope) (x : Str) : Prop := sc.names.lookup x = some .local \/ sc.names.lookup x = some .cell
def Look (env : Env) (h : Heap) (m : Q.A) (x : Str) (u : Value) : Prop :=
 (env.kindOf x = some .local /\ m x = some u) \/ ((env.kindOf x = some .cell \/ env.kindOf x = some .free) /\ ∃ c, env.cells.lookup x = some c /\ h.IsCell c (some u))
structure Cx.Ok (X : Cx) : Prop where
 mod : Mod X.K X.mg X.base
 kind : X.env.scope.kind = .function
 glob : X.env.globals = mainGlobals
 blt : X.env.builtins = builtinsNs
 above : X.s₀.heap.objs.size <= X.env.locals
 inj : ∀ x y c, X.env.cells.lookup x = some c -> X.env.cells.lookup y = some c -> x = y
 has : ∀ x, (X.env.kindOf x = some .cell \/ X.env.kindOf x = some .free) -> ∃ c, X.env.cells.lookup x = some c
 cab : ∀ x c, X.fn x = true -> X.env.cells.lookup x = some c -> X.s₀.heap.objs.size <= c
 hd : X.calm = true -> X.A.handled = none
 frames : X.A.frames = some X.stack
 stk : X.stack = X.outer \/ (X.stack = X.env :: X.outer /\ X.env.frame = some X.env.locals)
 exf : ∀ b ∈ X.ex, b ≠ X.env.locals /\ ∀ x c, X.env.cells.lookup x = some c -> c ≠ b
 bs : ∀ b o, X.base.get? b = some o -> X.s₀.heap.get? b = some o /\ X.H₀ b = none
 Z9 : X.base.objs.size <= X.s₀.heap.objs.size
 Rm : ∀ b o, X.base.get? b = some o -> b ∉ X.ex
 Xm : ∀ b ∈ X.ex, b ∉ X.fs
 zg : X.s₀.heap.FunFrames X.base X.outer
 frf : ∀ b ∈ X.fs, X.H₀ b = none
structure Inv (X : Cx) (pins : Q.o) (σ : List (Option V)) (H : Hp) (s : Shared) : Prop where
 ok : X.Ok
 os : s.os = X.s₀.os
 bare : AllBare s.gens
 base : Un X.fs X.ex X.H₀ H X.s₀.heap s.heap
 loc : ∃ m, s.heap.Ns X.env.locals m /\ ∀ (i : Nat) (x : Str) (v : V), X.N[i]? = some x -> σ[i]? = some (some v) -> Vis X.env.scope x -> ∃ u, RelV v u /\ Look X.env s.heap m x u
 cell : ∀ x c, X.env.cells.lookup x = some c -> ∃ v, s.heap.IsCell c v
 free : H X.env.locals = none
 pY : ∀ x c, X.env.cells.lookup x = some c -> H c = none
 pin : ∀ p ∈ X.pn ++ pins, s.heap.get? p.1 = some p.2 /\ H p.1 = none /\ p.1 ≠ X.env.locals /\ p.1 ∉ X.fs /\ ∀ v, p.2.data ≠ .cell v
 gQ : xH X.prog X.w H s.heap
 len : σ.length = X.N.length
variable {X : Cx} {pins : Q.o} {σ : List (Option V)} {s : Shared}
theorem Cx.Ok.anx (ok : X.Ok) {o : Obj} (e : X.base.get? b = some o) : b ∉ X.fs := fun hb => by
 have := (ok.zg.mem hb).1
 rw [e] at this; cases this
theorem Inv.bs (I : Q.m) : ∀ b o, X.base.get? b = some o -> s.heap.get? b = some o /\ H b = none := fun b o e =>
 ⟨I.base.keep b o (I.ok.bs b o e).1 (I.ok.bs b o e).2 (I.ok.anx e) (I.ok.Rm b o e), I.base.free b o (I.ok.bs b o e).1 (I.ok.bs b o e).2 (I.ok.Rm b o e)⟩
theorem Inv.bk (I : Q.m) : ∀ b o, X.base.get? b = some o -> s.heap.get? b = some o := fun b o e => (I.bs b o e).1
theorem Inv.mod (I : Q.m) : Mod X.K X.mg X.base := I.ok.mod
theorem Inv.JS (I : Q.m) : X.K.In s.heap := I.ok.mod.Z8.keeps I.bk
theorem Inv.lt (I : Q.m) : X.env.locals < s.heap.objs.size := let ⟨_, hn, _⟩ := I.loc; hn.lt
theorem Inv.sz (I : Q.m) : X.s₀.heap.objs.size <= s.heap.objs.size := asS I.ok.above (atJ I.lt)
theorem Inv.anz (I : Q.m) (h : s.heap.objs.size <= a) : a ∉ X.fs := fun hb => by
 obtain ⟨_, o, ho, _⟩ := I.ok.zg.mem hb
 exact absurd (atx (atd ho) (asS I.sz h)) (auL _)
theorem Inv.cne (I : Q.m) : ∀ x c, X.env.cells.lookup x = some c -> c ≠ X.env.locals := fun x c e z => by
 obtain ⟨v, o, ho, hd⟩ := I.cell x c e
 obtain ⟨m, ⟨o', es, ep, JX, hd', _⟩, _⟩ := I.loc
 rw [z, JX] at ho; cases ho; rw [hd'] at hd; cases hd
theorem Inv.zg (I : Q.m) : s.heap.FunFrames X.base X.outer := by
 have all : ∀ (l : List Env), (∀ b ∈ vV l, b ∈ X.fs) -> X.s₀.heap.FunFrames X.base l -> s.heap.FunFrames X.base l := by
   intro l
   induction l with
   | nil => intro _ _; trivial
   | cons env r ih =>
     intro hs hl
     obtain ⟨hk, ⟨L, o, hf, hn, ho, hd⟩, hr⟩ := hl
     have hL : L ∈ X.fs := hs L (by unfold vV; rw [atR, hf]; exact asT)
     obtain ⟨sl, e⟩ := I.base.slot L o ho (I.ok.frf L hL) hL fun z => I.ok.Xm L z hL
     exact ⟨hk, ⟨L, _, hf, hn, e, hd⟩, ih (fun b hb => hs b (by unfold vV; rw [atR, hf]; exact asV _ hb)) hr⟩
 exact all X.outer (fun _ hb => hb) I.ok.zg
theorem Inv.stack (I : Q.m) : s.heap.FunFrames X.base X.stack := by
 rcases I.ok.stk with e | ⟨e, hf⟩
 . rw [e]; exact I.zg
 . rw [e]
   obtain ⟨m, hn, _⟩ := I.loc
   refine .cons (by rw [I.ok.kind]; decide) hf hn ?_ I.zg
   exact Heap.get?_none_of_le (asS I.ok.Z9 I.ok.above)
theorem Inv.K4 (I : Q.m) : ∀ b ∈ vV X.stack, b ∈ X.env.locals :: X.fs := fun b hb => by
 rcases I.ok.stk with e | ⟨e, hf⟩
 . rw [e] at hb; exact asV _ hb
 . rw [e] at hb
   unfold vV at hb
   rw [atR, hf] at hb
   exact hb
theorem Inv.K5 (I : Q.m) : ∀ b ∈ vV X.stack, H b = none := fun b hb => by
 rcases asX.mp (I.K4 b hb) with e | hb
 . rw [e]; exact I.free
 . obtain ⟨_, o, ho, _⟩ := I.ok.zg.mem hb
   exact I.base.free b o ho (I.ok.frf b hb) fun z => I.ok.Xm b z hb
variable {t' : Nat}
theorem Inv.step {g' : Array GenState} {d' : Drawn} {ch : Q.p} (I : Q.m)
   (hch : Q.aS)
   (keep : ∀ b o, b ≠ X.env.locals -> b ∉ X.fs -> b ∉ ch -> s.heap.get? b = some o -> H b = none -> h'.get? b = some o)
   (slot : ∀ b o, b ≠ X.env.locals -> b ∈ X.fs -> b ∉ ch -> s.heap.get? b = some o -> H b = none -> ∃ sl, h'.get? b = some { o with slots := sl }) (free : ∀ b o, b ∉ ch -> s.heap.get? b = some o -> H b = none -> H' b = none)
   (there : ∀ b o, b ∉ ch -> s.heap.get? b = some o -> ∃ o', h'.get? b = some o')
   (FZ : ∀ b xs, H b = some (.tup xs) -> H' b = some (.tup xs)) (lq : ∀ b o u, H b = some (.iX o u) -> H' b = some (.iX o u)) (F0 : ∀ b ps, H b = some (.tbl ps) -> ∃ more, H' b = some (.tbl (ps ++ more)))
   (ns : ∀ m, s.heap.Ns X.env.locals m -> h'.Ns X.env.locals m) (gQ : xH X.prog X.w H' h') (hg : AllBare g') :
   Inv X pins σ H' { s with heap := h', gens := g', drawn := d', toks := t' } := by
 have neL : ∀ b o, X.s₀.heap.get? b = some o -> b ≠ X.env.locals := fun b o e => aty (atx (atd e) I.ok.above)
 have neC : ∀ b o, X.s₀.heap.get? b = some o -> b ∉ X.ex -> b ∉ ch := fun b o e hx hb => by
   rcases (hch b hb).1 with z | z
   . exact hx z
   . exact absurd (atx (atd e) z) (auL _)
 have cellK : ∀ x c, X.env.cells.lookup x = some c -> ∀ v, s.heap.IsCell c v -> h'.IsCell c v := fun x c e v ⟨o, ho, hd⟩ => by
   have nch : c ∉ ch := fun z => (hch c z).2.2.1 x c e rfl
   by_cases hc : c ∈ X.fs
   . obtain ⟨sl, q⟩ := slot c o (I.cne x c e) hc nch ho (I.pY x c e)
     exact ⟨_, q, hd⟩
   . exact ⟨o, keep c o (I.cne x c e) hc nch ho (I.pY x c e), hd⟩
 refine ⟨I.ok, I.os, hg, ⟨fun b o e n hb hx => ?_, fun b o e n hb hx => ?_, fun b o e n hx => ?_, fun b o e hx => ?_, fun b xs e => FZ b xs (I.base.FZ b xs e), fun b o xs e => lq b o xs (I.base.lq b o xs e), fun b ps e => ?_⟩, ?_, fun x c e => ?_, ?_, fun x c e => ?_, fun p hp => ?_, gQ, I.len⟩
 . exact keep b o (neL b o e) hb (neC b o e hx) (I.base.keep b o e n hb hx) (I.base.free b o e n hx)
 . obtain ⟨sl, e1⟩ := I.base.slot b o e n hb hx
   obtain ⟨sl', e2⟩ := slot b _ (neL b o e) hb (neC b o e hx) e1 (I.base.free b o e n hx)
   exact ⟨sl', e2⟩
 . obtain ⟨o', e1⟩ := I.base.there b o e hx
   exact free b o' (neC b o e hx) e1 (I.base.free b o e n hx)
 . obtain ⟨o', e1⟩ := I.base.there b o e hx
   exact there b o' (neC b o e hx) e1
 . obtain ⟨m1, e1⟩ := I.base.F0 b ps e
   obtain ⟨m2, e2⟩ := F0 b _ e1
   exact ⟨m1 ++ m2, by rw [e2, Array.append_assoc]⟩
 . obtain ⟨m, hn, hl⟩ := I.loc
   refine ⟨m, ns m hn, fun i x v e1 e2 e3 => ?_⟩
   obtain ⟨u, r, l⟩ := hl i x v e1 e2 e3
   refine ⟨u, r, ?_⟩
   rcases l with l | ⟨k, c, e, z⟩
   . exact .inl l
   . exact .inr ⟨k, c, e, cellK x c e _ z⟩
 . obtain ⟨v, z⟩ := I.cell x c e
   exact ⟨v, cellK x c e v z⟩
 . obtain ⟨m, ⟨o, _, _, ho, _⟩, _⟩ := I.loc
   exact free _ o (fun z => (hch _ z).2.1 rfl) ho I.free
 . obtain ⟨v, o, ho, hd⟩ := I.cell x c e
   exact free c o (fun z => (hch c z).2.2.1 x c e rfl) ho (I.pY x c e)
 . obtain ⟨e, n, ne, nf, d⟩ := I.pin p hp
   have nch : p.1 ∉ ch := fun z => (hch p.1 z).2.2.2 p hp rfl
   exact ⟨keep p.1 p.2 ne nf nch e n, free p.1 p.2 nch e n, ne, nf, d⟩
theorem Inv.un (I : Q.m) (u : Un X.fs [] H H' s.heap h') (gQ : xH X.prog X.w H' h') : Inv X pins σ H' { s with heap := h', toks := t' } := by
 obtain ⟨m, ⟨o, es, ep, ho, r⟩, _⟩ := id I.loc
 obtain ⟨sl, hL⟩ := u.any ho I.free Q.r
 exact I.step (g' := s.gens) (d' := s.drawn) (ch := []) (fun _ z => nomatch z) (fun b o _ hb _ e n => u.keep b o e n hb Q.r) (fun b o _ hb _ e n => u.slot b o e n hb Q.r) (fun b o _ e n => u.free b o e n Q.r) (fun b o _ e => u.there b o e Q.r) u.FZ u.lq u.F0 (fun m' hm => by
   obtain ⟨o', es', ep', JX, r'⟩ := hm
   rw [ho] at JX; cases JX
   exact ⟨_, es', ep', hL, r'⟩) gQ I.bare
theorem Inv.call {g' : Array GenState} {d' : Drawn} {ch : Q.p} (I : Q.m) (u : Un (vV X.stack) ch H H' s.heap h') (gQ : xH X.prog X.w H' h') (hg : AllBare g')
   (hch : Q.aS) :
   Inv X pins σ H' { s with heap := h', gens := g', drawn := d', toks := t' } := by
 obtain ⟨m, ⟨o, es, ep, ho, r⟩, _⟩ := id I.loc
 obtain ⟨sl, hL⟩ := u.any ho I.free fun z => (hch _ z).2.1 rfl
 exact I.step (ch := ch) hch (fun b o hL hb hc e n => u.keep b o e n (fun z => (asX.mp (I.K4 b z)).elim hL hb) hc) (fun b o _ _ hc e n => u.any e n hc) (fun b o hc e n => u.free b o e n hc) (fun b o hc e => u.there b o e hc) u.FZ u.lq u.F0 (fun m' hm => by
   obtain ⟨o', es', ep', JX, r'⟩ := hm
   rw [ho] at JX; cases JX
   exact ⟨_, es', ep', hL, r'⟩) gQ hg
theorem Inv.turned {it : Addr} (I : Q.m) (k : ∀ b o, b ≠ it -> s.heap.get? b = some o -> h'.get? b = some o) (hn : H it = none) (hL : it ≠ X.env.locals)
   (h1 : it ∈ X.ex \/ X.s₀.heap.objs.size <= it) (h2 : ∀ x c, X.env.cells.lookup x = some c -> c ≠ it) (h3 : ∀ p ∈ X.pn ++ pins, p.1 ≠ it) : Inv X pins σ H { s with heap := h', toks := t' } := by
 have nit : ∀ b u, H b = some u -> b ≠ it := fun b u e z => by rw [z, hn] at e; cases e
 refine I.step (g' := s.gens) (d' := s.drawn) (ch := [it]) (fun b hb => ?_) (fun b o _ _ hc e _ => k b o Q.aj e) (fun b o _ _ hc e _ => ⟨o.slots, k b o Q.aj e⟩) (fun _ _ _ _ n => n)
   (fun b o hc e => ⟨o, k b o Q.aj e⟩) (fun _ _ e => e) (fun _ _ _ e => e) (fun b ps e => ⟨#[], by rw [e]; simp⟩) (fun m hm => ?_) (fun b u e => ?_) I.bare
 . have e : b = it := by simpa using hb
   subst e
   exact ⟨h1, hL, h2, h3⟩
 . obtain ⟨o, es, ep, ho, r⟩ := hm
   exact ⟨o, es, ep, k _ o (aui hL) ho, r⟩
 . refine (I.gQ b u e).JW (fun c v hc q => k c v ?_ q) (fun _ q => q) fun _ _ q => q
   rcases hc with z | z
   . rw [z]; exact nit b u e
   . exact nit c _ z
theorem Inv.tok (I : Q.m) (t : Nat) : Inv X pins σ H { s with toks := t } := I.un (h' := s.heap) (t' := t) Un.refl I.gQ
theorem Inv.kept (I : Q.m) (k : ∀ b u, s.heap.get? b = some u -> h'.get? b = some u) : Inv X pins σ H { s with heap := h', toks := t' } := I.un (Un.kept k) (I.gQ.kept k)
theorem Inv.laid (I : Q.m) (k : ∀ b u, s.heap.get? b = some u -> h'.get? b = some u) (hp : s.heap.objs.size <= a) (new : iP X.prog X.w (upd H a o) h' a o) :
   Inv X pins σ (upd H a o) { s with heap := h', toks := t' } := I.un (Un.laid k hp (I.gQ.fresh hp)) (I.gQ.laid k hp new)
theorem Inv.write (I : Q.m) (mu : Mut (H x)) (he : e = x \/ H e = some (.own x)) (k : ∀ b u, b ≠ e -> s.heap.get? b = some u -> h'.get? b = some u) (heo : ∃ u, h'.get? e = some u)
   (new : iP X.prog X.w (upd H x o) h' x o) : Inv X pins σ (upd H x o) { s with heap := h', toks := t' } := I.un (Un.write mu he k heo) (I.gQ.write mu he k heo new)
theorem Inv.GB {Ke : Q.o} (I : Q.m) (h : ∀ p ∈ Ke, s.heap.get? p.1 = some p.2 /\ H p.1 = none /\ p.1 ≠ X.env.locals /\ p.1 ∉ X.fs /\ ∀ v, p.2.data ≠ .cell v) : Inv X Ke σ H s :=
 ⟨I.ok, I.os, I.bare, I.base, I.loc, I.cell, I.free, I.pY, fun p hp => (asQ.mp hp).elim (fun z => I.pin p (asL _ z)) (h p), I.gQ, I.len⟩
variable {i : Nat}
theorem Hq {N : Q.h} (hN : N.Nodup) {j : Nat} {x : Str} (a : N[i]? = some x) (b : N[j]? = some x) : i = j := by
 obtain ⟨h1, e1⟩ := atl.mp a
 obtain ⟨h2, e2⟩ := atl.mp b
 exact (List.getElem_inj hN).mp (e1.trans e2.symm)
variable {M : Model} {A : Around} {E : Q.v} {v : V} {u : Value} {Q : Unit -> Shared -> Prop}
theorem Xn {x : Str} (I : Q.m) (hN : X.N.Nodup) (hi : X.N[i]? = some x) (hx : Loc X.env.scope x) (r : RelV v u)
   (h : ∀ s', Inv X pins (σ.set i (some v)) H s' -> (∃ a, Heap.SameBut a s.heap s'.heap /\ (a = X.env.locals \/ X.env.cells.lookup x = some a)) -> Q () s') (hf : Q.az := by first | exact .inl rfl | exact .inr rfl | assumption) : wpAny M A (storeName X.env x u) Q E s := by
 obtain ⟨m, hn, hl⟩ := id I.loc
 have aac : (X.env.scope.kind == .class || (X.env.scope.kind == .module && X.env.locals != X.env.globals)) = false := by rw [I.ok.kind]; rfl
 have hiσ : i < σ.length := by rw [I.len]; exact (atl.mp hi).1
 have cne := I.cne
 have tracked : ∀ {a : Addr} {h' : Heap}, (∃ o, s.heap.get? a = some o /\ H a = none) -> Heap.SameBut a s.heap h' -> xH X.prog X.w H h' := fun {a h'} ha hs b ob e => by
   obtain ⟨_, _, agw⟩ := ha
   refine (I.gQ b ob e).JW (fun c w' hc q => (hs.2 c ?_).trans q) (fun _ q => q) fun _ _ q => q
   rintro rfl
   rcases hc with rfl | hc
   . rw [agw] at e; cases e
   . rw [agw] at hc; cases hc
 rcases hx with hk | hk
 . refine wpAny_storeName_local hk hn (fun h' hn' hs => ?_) aac
   obtain ⟨oL, _, _, hoL, _⟩ := id hn
   refine h _ ⟨I.ok, I.os, I.bare, ⟨fun b o e n hb hx => ?_, fun b o e n hb hx => ?_, I.base.free, fun b o e hx => ?_, I.base.FZ, I.base.lq, I.base.F0⟩, ⟨_, hn', fun j y v' e1 e2 e3 => ?_⟩, fun y c e => ?_, I.free, I.pY, fun p hp => ?_, tracked ⟨oL, hoL, I.free⟩ hs, by simpa using I.len⟩ ⟨_, hs, .inl rfl⟩
   . exact (hs.2 b (aty (atx (atd e) I.ok.above))).trans (I.base.keep b o e n hb hx)
   . obtain ⟨sl, e1⟩ := I.base.slot b o e n hb hx
     exact ⟨sl, (hs.2 b (aty (atx (atd e) I.ok.above))).trans e1⟩
   . obtain ⟨o', e1⟩ := I.base.there b o e hx
     exact ⟨o', (hs.2 b (aty (atx (atd e) I.ok.above))).trans e1⟩
   . by_cases hj : j = i
     . subst hj
       rw [hi] at e1; cases e1
       rw [at5 hiσ] at e2
       cases e2
       exact ⟨u, r, .inl ⟨hk, by simp⟩⟩
     . rw [auI (aui hj)] at e2
       obtain ⟨u', r', q⟩ := hl j y v' e1 e2 e3
       refine ⟨u', r', ?_⟩
       rcases q with ⟨k, e⟩ | ⟨k, c, e, z⟩
       . refine .inl ⟨k, ?_⟩
         have : y ≠ x := fun e => hj (Hq hN e1 (e ▸ hi))
         simp [this, e]
       . exact .inr ⟨k, c, e, z.sameBut hs (cne y c e)⟩
   . obtain ⟨w', z⟩ := I.cell y c e
     exact ⟨w', z.sameBut hs (cne y c e)⟩
   . obtain ⟨e, n, ne, nf, d⟩ := I.pin p hp
     exact ⟨(hs.2 p.1 ne).trans e, n, ne, nf, d⟩
 . have hfn : X.fn x = true := by
     rcases hf with z | z
     . exact z
     . rw [z] at hk; cases hk
   obtain ⟨c, hc⟩ := I.ok.has x (.inl hk)
   obtain ⟨w', z⟩ := I.cell x c hc
   refine wpAny_storeName_cell I.ok.kind hk hc z (fun h' hc' hs => ?_)
   obtain ⟨oc, hoc, anF⟩ := id z
   refine h { s with heap := h' } ⟨I.ok, I.os, I.bare, ⟨fun b o e n hb hx => ?_, fun b o e n hb hx => ?_, I.base.free, fun b o e hx => ?_, I.base.FZ, I.base.lq, I.base.F0⟩, ⟨m, hn.sameBut hs (Ne.symm (cne x c hc)), fun j y v' e1 e2 e3 => ?_⟩, fun y c' e => ?_, I.free, I.pY, fun p hp => ?_, tracked ⟨oc, hoc, I.pY x c hc⟩ hs, by simpa using I.len⟩ ⟨c, hs, .inr hc⟩
   . exact (hs.2 b (aty (atx (atd e) (I.ok.cab x c hfn hc)))).trans (I.base.keep b o e n hb hx)
   . obtain ⟨sl, e1⟩ := I.base.slot b o e n hb hx
     exact ⟨sl, (hs.2 b (aty (atx (atd e) (I.ok.cab x c hfn hc)))).trans e1⟩
   . obtain ⟨o', e1⟩ := I.base.there b o e hx
     exact ⟨o', (hs.2 b (aty (atx (atd e) (I.ok.cab x c hfn hc)))).trans e1⟩
   . by_cases hj : j = i
     . subst hj
       rw [hi] at e1; cases e1
       rw [at5 hiσ] at e2
       cases e2
       exact ⟨u, r, .inr ⟨.inl hk, c, hc, hc'⟩⟩
     . rw [auI (aui hj)] at e2
       obtain ⟨u', r', q⟩ := hl j y v' e1 e2 e3
       refine ⟨u', r', ?_⟩
       rcases q with q | ⟨k, c', e, z'⟩
       . exact .inl q
       . refine .inr ⟨k, c', e, z'.sameBut hs ?_⟩
         rintro rfl
         exact hj (Hq hN e1 (I.ok.inj _ _ _ e hc ▸ hi))
   . by_cases hcc : c' = c
     . subst hcc; exact ⟨_, hc'⟩
     . obtain ⟨w2, z2⟩ := I.cell y c' e
       exact ⟨w2, z2.sameBut hs hcc⟩
   . obtain ⟨e, n, ne, nf, d⟩ := I.pin p hp
     refine ⟨(hs.2 p.1 ?_).trans e, n, ne, nf, d⟩
     intro q
     rw [q, hoc] at e
     have q' : oc = p.2 := atv e
     exact d w' (by rw [← q']; exact anF)
theorem Hr {x : Str} (I : Q.m) (hN : X.N.Nodup) (hi : X.N[i]? = some x) (hx : Loc X.env.scope x) (r : RelV v u)
   (h : ∀ s', Inv X pins (σ.set i (some v)) H s' -> Q () s') (hf : Q.az := by first | exact .inl rfl | exact .inr rfl | assumption) : wpAny M A (storeName X.env x u) Q E s :=
 Xn I hN hi hx r (fun s' I' _ => h s' I') hf
theorem Inv.akB {s' : Shared} {ch : Q.p} (I : Q.m) (ho : s'.os = s.os) (u : Un (vV X.stack) ch H H' s.heap s'.heap) (gQ : xH X.prog X.w H' s'.heap) (hg : AllBare s'.gens)
   (hch : Q.aS) : Inv X pins σ H' s' := by
 obtain ⟨h', g', d', t', o'⟩ := s'
 have e : o' = s.os := ho
 subst e
 exact I.call (g' := g') (t' := t') (d' := d') u gQ hg hch
abbrev XK := Value -> Option Addr -> Hp -> Prop
abbrev St := List (Option V)
abbrev VK := V -> Hp -> Prop
abbrev TE := St -> Hp -> VK -> Prop
abbrev TT := St -> Hp -> (Bool -> Hp -> Prop) -> Prop
abbrev TA := St -> Hp -> (List V -> Hp -> Prop) -> Prop
structure Ends where
 nx : St -> Hp -> Prop
 rt : VK
 bk : St -> Hp -> Prop := fun _ _ => False
 ct : St -> Hp -> Prop := fun _ _ => False
abbrev TS := Ends -> St -> Hp -> Prop
def EP (X : Cx) (pins : Q.o) (σ : St) (Q : VK) (u : Value) (s' : Shared) : Prop := ∃ v H', Inv X pins σ H' s' /\ RelV v u /\ Q v H'
def TP (X : Cx) (pins : Q.o) (σ : St) (Q : Bool -> Hp -> Prop) (b : Bool) (s' : Shared) : Prop := ∃ H', Inv X pins σ H' s' /\ Q b H'
def AP (X : Cx) (pins : Q.o) (σ : St) (Q : List V -> Hp -> Prop) (us : Q.q) (s' : Shared) : Prop := ∃ vs H', Inv X pins σ H' s' /\ Vals vs us /\ Q vs H'
def SP (X : Cx) (pins : Q.o) (D : Ends) (f : Flow) (s' : Shared) : Prop :=
 match f with
 | .next => ∃ σ' H', Inv X pins σ' H' s' /\ D.nx σ' H'
 | .brk => ∃ σ' H', Inv X pins σ' H' s' /\ D.bk σ' H'
 | .cont => ∃ σ' H', Inv X pins σ' H' s' /\ D.ct σ' H'
 | .ret u => ∃ v σ' H', Inv X pins σ' H' s' /\ RelV v u /\ D.rt v H'
def PE (X : Cx) (e : Expr) (t : TE) : Prop :=
 ∀ (pins : Q.o) (s : Shared) (σ : St) (H : Hp) (Q : VK), Inv X pins σ H s -> t σ H Q -> wpAny Q.k X.A (eval e X.env) (EP X pins σ Q) X.xe s
def PT (X : Cx) (e : Expr) (t : TT) : Prop :=
 ∀ (pins : Q.o) (s : Shared) (σ : St) (H : Hp) (Q : Bool -> Hp -> Prop), Inv X pins σ H s -> t σ H Q -> wpAny Q.k X.A (isTrue e X.env (eval e X.env)) (TP X pins σ Q) X.xe s
def PW (X : Cx) (e : Expr) (t : TT) : Prop :=
 ∀ (whole : Sem Value) (pins : Q.o) (s : Shared) (σ : St) (H : Hp) (Q : Bool -> Hp -> Prop), Inv X pins σ H s -> t σ H Q -> wpAny Q.k X.A (isTrue e X.env whole) (TP X pins σ Q) X.xe s
def PA (X : Cx) (es : List Expr) (t : TA) : Prop :=
 ∀ (pos : Pos) (pins : Q.o) (s : Shared) (σ : St) (H : Hp) (Q : List V -> Hp -> Prop), Inv X pins σ H s -> t σ H Q -> wpAny Q.k X.A (spliced (backTo pos (starEach es X.env))) (AP X pins σ Q) X.xe s
def PS (X : Cx) (st : Stmt) (t : TS) : Prop :=
 ∀ (pins : Q.o) (s : Shared) (σ : St) (H : Hp) (D : Ends), Inv X pins σ H s -> t D σ H -> wpAny Q.k X.A (exec st X.env) (SP X pins D) X.xe s
def Vv (X : Cx) (st : List Stmt) (t : TS) : Prop :=
 ∀ (pins : Q.o) (s : Shared) (σ : St) (H : Hp) (D : Ends), Inv X pins σ H s -> t D σ H -> wpAny Q.k X.A (execs st X.env) (SP X pins D) X.xe s
theorem gK {α : Type} {t : Sem α} {Q Q' : α -> Shared -> Prop} (h : wpAny M A t Q E s) (hQ : ∀ a s, Q a s -> Q' a s) : wpAny M A t Q' E s := atN h hQ fun _ _ x => x
section
def anG (i : Nat) : TE := fun σ H Q => ∃ v, σ[i]? = some (some v) /\ Q v H
def tC (v : V) : TE := fun _ H Q => Q v H
theorem ow {x : Str} {pos : Pos} (hN : X.N[i]? = some x) (hv : Vis X.env.scope x) (hd : Q.s := by decide) (rE : Q.ah := by decide) : PE X Q.B (anG i) := by
 intro pins s σ H Q I h
 obtain ⟨v, e, h⟩ := h
 obtain ⟨m, hn, hl⟩ := I.loc
 obtain ⟨u, r, l⟩ := hl i x v hN e hv
 have fin : EP X pins σ Q u s := ⟨v, H, I, r, h⟩
 rcases l with ⟨hk, hm⟩ | ⟨hk, c, hc, Kf⟩
 . exact wpAny_Name (wpAny_loadName_local I.ok.kind hk hn hm fin) hd
 . rcases hk with hk | hk
   . exact wpAny_Name (wpAny_loadName_cell I.ok.kind hk hc Kf fin) hd
   . exact wpAny_Name (wpAny_loadName_free I.ok.kind hk hc Kf fin rE) hd
theorem aad {i j pos} : PE X (.Constant (.int i) j pos) (tC (.int i)) := fun _ _ _ H _ I h => wpAny_Constant_int ⟨.int i, H, I.tok _, ⟨_, rfl⟩, h⟩
theorem akC {b j pos} : PE X (.Constant (.bool b) j pos) (tC (.bl b)) := fun _ _ _ H _ I h => Constant_bool ⟨.bl b, H, I, rfl, h⟩
theorem ahi {x j pos} : PE X (.Constant (.str x) j pos) (tC (.str x)) := fun _ _ _ H _ I h => Calls.Constant_str ⟨.str x, H, I.tok _, ⟨_, rfl⟩, h⟩
def Gl (X : Cx) (x : Str) : Prop := X.env.kindOf x = some .globalImplicit
theorem rH {σ : St} {x : Str} {pos : Pos} {Q : Q.v} (I : Q.m) (hg : Gl X x) (hm : X.mg x = some u) (h : Q u s)
   (hd : Q.s := by decide) : wpAny Q.k X.A (eval Q.B X.env) Q E s :=
 Calls.Name_function_global I.ok.kind hg (Calls.loadGlobal_global (by rw [I.ok.glob]; exact I.mod.glob.keeps I.bk) hm h) hd
theorem DJ {σ : St} {x : Str} {pos : Pos} {Q : Q.v} (I : Q.m) (hg : Gl X x) (hm : X.mg x = none) (hv : bootBuiltins x = some u) (h : Q u s)
   (hn : x ≠ "__name__" := by decide) (hd : Q.s := by decide) : wpAny Q.k X.A (eval Q.B X.env) Q E s := by
 obtain ⟨mb, h1, h2⟩ := I.mod.blt
 exact Calls.Name_function_global I.ok.kind hg (Calls.loadGlobal_builtin (by rw [I.ok.glob]; exact I.mod.glob.keeps I.bk) hm (by rw [I.ok.blt]; exact h1.keeps I.bk) ((h2 x hn).trans hv) h) hd
theorem GC {x : Str} {pos : Pos} (hg : Gl X x) (hm : X.mg x = some u) (r : RelV v u) (hd : Q.s := by decide) : PE X Q.B (tC v) :=
 fun _ _ _ H _ I h => rH I hg hm ⟨v, H, I, r, h⟩ hd
theorem ads {x : Str} {pos : Pos} (hg : Gl X x) (hm : X.mg x = none) (hv : bootBuiltins x = some u) (r : RelV v u) (hn : x ≠ "__name__" := by decide) (hd : Q.s := by decide) : PE X Q.B (tC v) :=
 fun _ _ _ H _ I h => DJ I hg hm hv ⟨v, H, I, r, h⟩ hn hd
variable {a b : Expr} {ta tb : TE} {pos : Pos}
def PC (X : Cx) (op : CmpOp) (a b : Expr) (t : TE) : Prop :=
 ∀ (pins : Q.o) (s : Shared) (σ : St) (H : Hp) (Q : VK), Inv X pins σ H s -> t σ H Q →
   wpAny Q.k X.A (eval a X.env) (fun v s₁ => wpAny Q.k X.A (eval b X.env) (fun u s₂ => wpAny Q.k X.A (compareOp op v u) (EP X pins σ Q) X.xe s₂) X.xe s₁) X.xe s
theorem Ov (b : Expr) {op : CmpOp} (h : op ≠ .In) (h2 : op ≠ .NotIn) : behindInMarks op b = false := by
 have e1 : (op == CmpOp.In) = false := by cases op <;> first | rfl | exact absurd rfl h
 have e2 : (op == CmpOp.NotIn) = false := by cases op <;> first | rfl | exact absurd rfl h2
 cases b <;> simp [behindInMarks, e1, e2]
def anH (ta : TE) : TE := fun σ H Q => ta σ H fun x H1 => Q (.bl (decide (x = .non))) H1
theorem RelV.aae {x : V} {v : Value} (r : RelV x v) : (v == Value.none) = decide (x = .non) := by
 cases x with
 | non => cases r; rfl
 | bl _ => cases r; rfl
 | int _ => obtain ⟨t, rfl⟩ := r; rfl
 | str _ => obtain ⟨t, rfl⟩ := r; rfl
 | Xk _ => obtain ⟨t, rfl⟩ := r; rfl
 | flt _ => obtain ⟨t, rfl⟩ := r; rfl
 | ref _ => cases r; rfl
 | ty _ => cases r; rfl
theorem Rn {j pos'} (ha : PE X a ta) : PC X .Is a (.Constant .none j pos') (anH ta) := by
 intro pins s σ H Q I h
 refine gK (ha pins s σ H _ I h) fun v s1 zz => ?_
 obtain ⟨x, H1, I1, r1, q1⟩ := zz
 exact Constant_none (is_none_gen ⟨.bl _, H1, I1, by rw [r1.aae]; rfl, q1⟩)
def tB (t : TE) : TT := fun σ H Q => t σ H fun x H1 => ∃ c, x = .bl c /\ Q c H1
theorem Ro {op : CmpOp} {t : TE} (h : PC X op a b t) (h1 : behindInMarks op b = false := by first | exact Ov _ Q.c Q.c | rfl) : PE X (.Compare a [op] [b] pos) t := fun pins s σ H Q I hw => wpAny_Compare1 (h pins s σ H Q I hw) h1
theorem ahj {op : CmpOp} {t : TE} (h : PC X op a b t) (h1 : behindInMarks op b = false := by first | exact Ov _ Q.c Q.c | rfl) : PT X (.Compare a [op] [b] pos) (tB t) := by
 intro pins s σ H Q I hw
 refine wpAny_isTrue_Compare1 (gK (h pins s σ H _ I hw) fun v s1 h1 => gK h1 fun u s2 h2 => gK h2 fun c s3 zz => ?_) h1
 obtain ⟨x, H1, I1, r1, q1⟩ := zz
 obtain ⟨d, rfl, q⟩ := q1
 cases r1
 exact atY ⟨H1, I1, q⟩
theorem ahk {e : Expr} {t : TE} (h : PE X e t) (he : ∀ whole, isTrue e X.env whole = (do let v ← whole; standAt e.pos; holding [v] (truthy v)) := by intro _; rfl) : PT X e (tB t) := by
 intro pins s σ H Q I hw
 refine isTrue_plain (gK (h pins s σ H _ I hw) fun v s1 zz => ?_) (he _)
 obtain ⟨x, H1, I1, r1, q1⟩ := zz
 obtain ⟨d, rfl, q⟩ := q1
 cases r1
 exact atY ⟨H1, I1, q⟩
variable {tA tB' : TT} {rest : List Expr}
def anI (t u : TT) : TT := fun σ H Q => t σ H fun c H1 => if c = true then u σ H1 Q else Q false H1
def tOr (t u : TT) : TT := fun σ H Q => t σ H fun c H1 => if c = true then Q true H1 else u σ H1 Q
def anJ (t : TT) : TT := fun σ H Q => t σ H fun c H1 => Q (!c) H1
theorem adt (ha : PT X a tA) : PW X (.BoolOp .And [a] pos) tA := by
 intro wh pins s σ H Q I h
 refine isTrue_and (gK (ha pins s σ H Q I h) fun c s1 e => ?_)
 cases c with
 | true => exact isTrue_and_nil e
 | false => exact e
theorem ahl (ha : PT X a tA) : PW X (.BoolOp .Or [a] pos) tA := by
 intro wh pins s σ H Q I h
 refine isTrue_or (gK (ha pins s σ H Q I h) fun c s1 e => ?_)
 cases c with
 | false => exact isTrue_or_nil e
 | true => exact e
theorem ahm (ha : PT X a tA) (hb : PW X (.BoolOp .And (b :: rest) pos) tB') : PW X (.BoolOp .And (a :: b :: rest) pos) (anI tA tB') := by
 intro wh pins s σ H Q I h
 refine isTrue_and (gK (ha pins s σ H _ I h) fun c s1 zz => ?_)
 obtain ⟨H1, I1, q1⟩ := zz
 cases c with
 | true => exact hb wh pins s1 σ H1 Q I1 q1
 | false => exact ⟨H1, I1, q1⟩
theorem akD (ha : PT X a tA) (hb : PW X (.BoolOp .Or (b :: rest) pos) tB') : PW X (.BoolOp .Or (a :: b :: rest) pos) (tOr tA tB') := by
 intro wh pins s σ H Q I h
 refine isTrue_or (gK (ha pins s σ H _ I h) fun c s1 zz => ?_)
 obtain ⟨H1, I1, q1⟩ := zz
 cases c with
 | true => exact ⟨H1, I1, q1⟩
 | false => exact hb wh pins s1 σ H1 Q I1 q1
theorem ahn (ha : PT X a tA) : PT X (.UnaryOp .Not a pos) (anJ tA) := by
 intro pins s σ H Q I h
 exact isTrue_not (ha pins s σ H (fun c H1 => Q (!c) H1) I h)
def akE (ta tb : TE) : TE := fun σ H Q => ta σ H fun x H1 => ∃ c, x = .bl c /\ if c = true then tb σ H1 Q else Q (.bl false) H1
def anK (ta tb : TE) : TE := fun σ H Q => ta σ H fun x H1 => ∃ c, x = .bl c /\ if c = true then Q (.bl true) H1 else tb σ H1 Q
theorem aho {op} {t : TE} (h : PE X a t) : PE X (.BoolOp op [a] pos) t := fun pins s σ H Q I hw => BoolOp_one (h pins s σ H Q I hw)
theorem ahp (ha : PE X a ta) (hb : PE X (.BoolOp .And (b :: rest) pos) tb) : PE X (.BoolOp .And (a :: b :: rest) pos) (akE ta tb) := by
 intro pins s σ H Q I h
 refine BoolOp_and (gK (ha pins s σ H _ I h) fun v s1 zz => ?_)
 obtain ⟨x, H1, I1, r1, q1⟩ := zz
 obtain ⟨c, rfl, q1⟩ := q1
 cases r1
 refine atY ?_
 cases c with
 | true => exact hb pins s1 σ H1 Q I1 q1
 | false => exact ⟨.bl false, H1, I1, rfl, q1⟩
theorem akF (ha : PE X a ta) (hb : PE X (.BoolOp .Or (b :: rest) pos) tb) : PE X (.BoolOp .Or (a :: b :: rest) pos) (anK ta tb) := by
 intro pins s σ H Q I h
 refine BoolOp_or (gK (ha pins s σ H _ I h) fun v s1 zz => ?_)
 obtain ⟨x, H1, I1, r1, q1⟩ := zz
 obtain ⟨c, rfl, q1⟩ := q1
 cases r1
 refine atY ?_
 cases c with
 | false => exact hb pins s1 σ H1 Q I1 q1
 | true => exact ⟨.bl true, H1, I1, rfl, q1⟩
end
def vJ (K : Q.l) (H : Hp) (a : Addr) (xs : List V) : Prop :=
 Rd H a (.lst xs) ∨
   ∃ (o : Obj) (its : Array Value) (n : Nat), K.lookup a = some o /\ o.cls = .type "list" /\ o.dict = none /\ o.data = .seq its n /\ its.size <= sizeLine /\ Vals xs its.toList
def Fp (K : Q.l) (H : Hp) (a : Addr) (xs : List V) : Prop :=
 Rd H a (.tup xs) ∨
   ∃ (o : Obj) (its : Array Value) (n : Nat), K.lookup a = some o /\ o.cls = .type "tuple" /\ o.data = .seq its n /\ its.size <= sizeLine /\ Vals xs its.toList
def anL : Value -> Option V
 | .none => some .non
 | .bool b => some (.bl b)
 | .int i _ => some (.int i)
 | .str x _ => some (.str x)
 | .bytes b _ => some (.Xk b)
 | .float b _ => some (.flt b)
 | .ref a => some (.ref a)
 | .type n => some (.ty n)
 | _ => none
theorem RelV.abs {x : V} (r : RelV x u) : anL u = some x := by
 cases x with
 | non => cases r; rfl
 | bl _ => cases r; rfl
 | int _ => obtain ⟨t, rfl⟩ := r; rfl
 | str _ => obtain ⟨t, rfl⟩ := r; rfl
 | Xk _ => obtain ⟨t, rfl⟩ := r; rfl
 | flt _ => obtain ⟨t, rfl⟩ := r; rfl
 | ref _ => cases r; rfl
 | ty _ => cases r; rfl
theorem RelV.inj {x y : V} (r : RelV x u) (q : RelV y u) : x = y := atv (r.abs.symm.trans q.abs)
theorem Vals.inj {xs ys : List V} (h : Vals xs us) (q : Vals ys us) : xs = ys := by
 induction h generalizing ys with
 | nil => cases q; rfl
 | cons r _ i => cases q with
   | cons r' t' => rw [r.inj r', i t']
variable {σ : St} {xs ys : List V} {K : Q.l}
theorem vJ.of (h : H a = some (.lst xs)) : vJ K H a xs := .inl (.inl h)
theorem Fp.of (h : H a = some (.tup xs)) : Fp K H a xs := .inl (.inl h)
theorem Inv.list (I : Q.m) (h : vJ X.K H a xs) : ∃ its : List Value, Vals xs its /\ PlainL s.heap a its.toArray /\ xs.length <= sizeLine := by
 rcases h with h | ⟨o, its, n, hk, hc, hd, hs, hz, r⟩
 . obtain ⟨z, its, n, r, e⟩ := h.ok I.gQ
   exact ⟨its, r, ⟨_, n, e, rfl, rfl, rfl⟩, z⟩
 . refine ⟨its.toList, r, ⟨o, n, I.JS a o hk, hc, hd, by simpa using hs⟩, ?_⟩
   have e := r.length
   simp only [Array.length_toList] at e
   omega
theorem Inv.tuple (I : Q.m) (h : Fp X.K H a xs) : ∃ its : List Value, Vals xs its /\ IsTup s.heap a its.toArray /\ xs.length <= sizeLine := by
 rcases h with h | ⟨o, its, n, hk, hc, hs, hz, r⟩
 . obtain ⟨z, its, r, p⟩ := h.ok I.gQ
   exact ⟨its, r, p, z⟩
 . refine ⟨its.toList, r, ⟨o, I.JS a o hk, hc, n, by simpa using hs⟩, ?_⟩
   have e := r.length
   simp only [Array.length_toList] at e
   omega
theorem Inv.Ow (I : Q.m) (h : vJ X.K H a xs) (h' : vJ X.K H a ys) : xs = ys := by
 obtain ⟨its, r, ⟨o, n, e, _, _, d⟩, _⟩ := I.list h
 obtain ⟨its', r', ⟨o', n', e', _, _, d'⟩, _⟩ := I.list h'
 rw [e] at e'; cases e'
 rw [d] at d'
 injection d' with d1 _
 have : its = its' := by simpa using congrArg Array.toList d1
 subst this
 exact r.inj r'
theorem Inv.Xo (I : Q.m) (h : Fp X.K H a xs) (h' : Fp X.K H a ys) : xs = ys := by
 obtain ⟨its, r, ⟨o, e, _, n, d⟩, _⟩ := I.tuple h
 obtain ⟨its', r', ⟨o', e', _, n', d'⟩, _⟩ := I.tuple h'
 rw [e] at e'; cases e'
 rw [d] at d'
 injection d' with d1 _
 have : its = its' := by simpa using congrArg Array.toList d1
 subst this
 exact r.inj r'
abbrev Cx.wish (X : Cx) (E : Q.v) : Cx := { X with xe := E }
abbrev Cx.nox (X : Cx) : Cx := X.wish fun _ _ => False
theorem Cx.Ok.wish (ok : X.Ok) (E : Q.v) : (X.wish E).Ok :=
 ⟨ok.mod, ok.kind, ok.glob, ok.blt, ok.above, ok.inj, ok.has, ok.cab, ok.hd, ok.frames, ok.stk, ok.exf, ok.bs, ok.Z9, ok.Rm, ok.Xm, ok.zg, ok.frf⟩
theorem Cx.Ok.pN (ok : (X.wish E).Ok) : X.Ok :=
 ⟨ok.mod, ok.kind, ok.glob, ok.blt, ok.above, ok.inj, ok.has, ok.cab, ok.hd, ok.frames, ok.stk, ok.exf, ok.bs, ok.Z9, ok.Rm, ok.Xm, ok.zg, ok.frf⟩
theorem Inv.wish (I : Q.m) (E : Q.v) : Inv (X.wish E) pins σ H s := ⟨I.ok.wish E, I.os, I.bare, I.base, I.loc, I.cell, I.free, I.pY, I.pin, I.gQ, I.len⟩
theorem Inv.pN (I : Inv (X.wish E) pins σ H s) : Inv X pins σ H s := ⟨I.ok.pN, I.os, I.bare, I.base, I.loc, I.cell, I.free, I.pY, I.pin, I.gQ, I.len⟩
theorem SP.pN {D : Ends} {f : Flow} {s' : Shared} (h : SP (X.wish E) pins D f s') : SP X pins D f s' := by
 cases f with
 | next => obtain ⟨σ', H', I, q⟩ := h; exact ⟨σ', H', I.pN, q⟩
 | brk => obtain ⟨σ', H', I, q⟩ := h; exact ⟨σ', H', I.pN, q⟩
 | cont => obtain ⟨σ', H', I, q⟩ := h; exact ⟨σ', H', I.pN, q⟩
 | ret u => obtain ⟨v, σ', H', I, r, q⟩ := h; exact ⟨v, σ', H', I.pN, r, q⟩
theorem Vv.nox {st : List Stmt} {t : TS} (h : Vv X.nox st t) : Vv X st t := fun pins s σ H D I hw =>
 atN (h pins s σ H D (I.wish _) hw) (fun _ _ q => q.pN) fun _ _ z => False.elim z
section
variable {st : Stmt} {rest : List Stmt} {t u : TS} {e : Expr} {te : TE} {pos : Pos}
def akG : TS := fun D σ H => D.nx σ H
def anM (t u : TS) : TS := fun D σ H => t { D with nx := u D } σ H
theorem adv : Vv X [] akG := fun _ _ σ H _ I h => wpAny_execs_nil ⟨σ, H, I, h⟩
theorem Bd (h1 : PS X st t) (h2 : Vv X rest u) : Vv X (st :: rest) (anM t u) := by
 intro pins s σ H D I h
 refine wpAny_execs_cons (gK (h1 pins s σ H { D with nx := u D } I h) fun f s1 q => ?_)
 cases f with
 | next =>
   obtain ⟨σ', H', I', q⟩ := q
   exact h2 pins s1 σ' H' D I' q
 | ret v => exact q
 | brk => exact q
 | cont => exact q
theorem Inv.quiet (I : Q.m) : interactive X.env = false := by simp [interactive, I.ok.kind]
def akH (te : TE) : TS := fun D σ H => te σ H fun _ H1 => D.nx σ H1
theorem Be (he : PE X e te) (hs : swapsWith e none pos.line X.env = pure false := by rfl) : PS X (.Expr e pos) (akH te) := by
 intro pins s σ H D I h
 exact wpAny_Expr_any (gK (he pins s σ H _ I h) fun v s1 ⟨x, H1, I1, r1, q1⟩ => ⟨σ, H1, I1, q1⟩) I.quiet hs
def anN (te : TE) : TS := fun D σ H => te σ H D.rt
theorem ahq (he : PE X e te) : PS X (.Return (some e) pos) (anN te) := by
 intro pins s σ H D I h
 exact wpAny_Return_some (gK (he pins s σ H _ I h) fun v s1 ⟨x, H1, I1, r1, q1⟩ => ⟨x, σ, H1, I1, r1, q1⟩)
def anO (c : TT) (t u : TS) : TS := fun D σ H => c σ H fun b H1 => if b = true then t D σ H1 else u D σ H1
theorem akI {c : Expr} {a b : List Stmt} {tc : TT} (hc : PT X c tc) (ha : Vv X a t) (hb : Vv X b u) : PS X (.If c a b pos) (anO tc t u) := by
 intro pins s σ H D I h
 refine wpAny_If (gK (hc pins s σ H _ I h) fun d s1 zz => ?_)
 obtain ⟨H1, I1, q1⟩ := zz
 cases d with
 | true => exact ha pins s1 σ H1 D I1 q1
 | false => exact hb pins s1 σ H1 D I1 q1
end
abbrev TG := V -> St -> Hp -> (St -> Hp -> Prop) -> Prop
abbrev TGs := List V -> St -> Hp -> (St -> Hp -> Prop) -> Prop
def PG (X : Cx) (target : Expr) (t : TG) : Prop :=
 ∀ (pins : Q.o) (s : Shared) (σ : St) (H : Hp) (v : V) (u : Value) (Q : St -> Hp -> Prop), Inv X pins σ H s -> RelV v u -> t v σ H Q →
   wpAny Q.k X.A (assign target X.env u) (fun _ s' => ∃ σ' H', Inv X pins σ' H' s' /\ Q σ' H') X.xe s
def PGs (X : Cx) (ts : List Expr) (t : TGs) : Prop :=
 ∀ (pins : Q.o) (s : Shared) (σ : St) (H : Hp) (vs : List V) (us : Q.q) (Q : St -> Hp -> Prop), Inv X pins σ H s -> Vals vs us -> t vs σ H Q →
   wpAny Q.k X.A (assignInOrder ((assignEach ts X.env).map (·.2)) us) (fun _ s' => ∃ σ' H', Inv X pins σ' H' s' /\ Q σ' H') X.xe s
abbrev ahs := V -> V -> V -> Hp -> (Hp -> Prop) -> Prop
def akJ (X : Cx) (t : ahs) : Prop :=
 ∀ (pins : Q.o) (s : Shared) (σ : St) (H : Hp) (o i v : V) (ov iv u : Value) (Q : Hp -> Prop), Inv X pins σ H s -> RelV o ov -> RelV i iv -> RelV v u -> t o i v H Q →
   wpAny Q.k X.A (setItem ov iv u) (fun _ s' => ∃ H', Inv X pins σ H' s' /\ Q H') X.xe s
variable {pos : Pos}
def Fq (i : Nat) : TG := fun v σ H Q => Q (σ.set i (some v)) H
theorem Bf {x : Str} (hN : X.N.Nodup) (hi : X.N[i]? = some x) (hx : Loc X.env.scope x) (hf : Q.az := by first | exact .inl rfl | exact .inr rfl | assumption) : PG X Q.B (Fq i) := by
 intro pins s σ H v u Q I r h
 exact wpAny_assign_Name (Hr I hN hi hx r (fun s' I' => ⟨_, H, I', h⟩) hf)
def aht : TGs := fun vs σ H Q => vs = [] /\ Q σ H
def Ox (t : TG) (u : TGs) : TGs := fun vs σ H Q => ∃ v r, vs = v :: r /\ t v σ H fun σ' H' => u r σ' H' Q
theorem adw : PGs X [] aht := by
 intro pins s σ H vs us Q I r h
 obtain ⟨e, h⟩ := h
 subst e
 cases r
 exact assignInOrder_nil ⟨σ, H, I, h⟩
variable {es : List Expr}
theorem Oz {e : Expr} {t : TG} {u : TGs} (h1 : PG X e t) (h2 : PGs X es u)
   (hs : (assignEach (e :: es) X.env).map (·.2) = assign e X.env :: (assignEach es X.env).map (·.2) := by rfl) : PGs X (e :: es) (Ox t u) := by
 intro pins s σ H vs us Q I r h
 obtain ⟨v, vr, e1, h⟩ := h
 subst e1
 cases r with
 | cons r rr =>
   rw [hs]
   refine assignInOrder_cons (gK (h1 pins s σ H _ _ _ I r h) fun _ s1 zz => ?_)
   obtain ⟨σ1, H1, I1, q1⟩ := zz
   exact h2 pins s1 σ1 H1 _ _ Q I1 rr q1
def ahu (K : Q.l) (n : Nat) (t : TGs) : TG := fun v σ H Q => ∃ a xs, v = .ref a /\ Fp K H a xs /\ xs.length = n /\ t xs σ H Q
variable {k : Nat}
theorem ahv {t : TGs} {n : Nat} (hc : X.calm = true) (h : PGs X es t)
   (hn : (assignEach es X.env).length = n := by rfl) (vW : (assignEach es X.env).findIdx? (·.1) = none := by rfl) : PG X (.Tuple es k pos) (ahu X.K n t) := by
 intro pins s σ H v u Q I r hw
 obtain ⟨a, xs, e1, hq, hl, hw⟩ := hw
 subst e1
 cases r
 obtain ⟨its, rv, ht, hz⟩ := I.tuple hq
 refine assign_Tuple_tuple (I.ok.hd hc) ht (by simp [hn, ← hl, rv.length]) vW fun h' hx => ?_
 have I1 : Inv X pins σ H { s with heap := h' } := I.kept (t' := s.toks) fun b o e => hx b o (aty (atd e)) e
 exact h pins _ σ H xs _ Q I1 (by simpa using rv) hw
def anP (to ti : TE) (t : ahs) : TG := fun v σ H Q => to σ H fun o H1 => ti σ H1 fun i H2 => t o i v H2 fun H3 => Q σ H3
theorem aaf {o i : Expr} {to ti : TE} {t : ahs} (ho : PE X o to) (hi : PE X i ti) (hs : akJ X t)
   (ha : ∀ v, assign (.Subscript o i pos) X.env v = (do
     let ov ← holding [v] (eval o X.env)
     let iv ← holding [v, ov] (eval i X.env)
     standAt pos
     holding [v, ov, iv] (setItem ov iv v)
     release [v, ov, iv] []) := by intro _; rfl) : PG X (.Subscript o i pos) (anP to ti t) := by
 intro pins s σ H v u Q I r h
 rw [ha]
 refine atb (aun (gK (ho pins s σ H _ I h) fun ov s1 zz => ?_))
 obtain ⟨x, H1, I1, r1, q1⟩ := zz
 refine atb (aun (gK (hi pins s1 σ H1 _ I1 q1) fun iv s2 zz => ?_))
 obtain ⟨y, H2, I2, r2, q2⟩ := zz
 refine atb (wpAny_standAt (atb (aun (gK (hs pins s2 σ H2 x y v ov iv u _ I2 r1 r2 r q2) fun _ s3 zz => ?_))))
 obtain ⟨H3, I3, q3⟩ := zz
 exact wpAny_release ⟨σ, H3, I3, q3⟩
def akK (te : TE) (g : TG) : TS := fun D σ H => te σ H fun x H1 => g x σ H1 D.nx
variable {tg : Expr} {te : TE}
theorem aag {e : Expr} {g : TG} (he : PE X e te) (hg : PG X tg g) (hs : swapsWithSole [tg] e pos.line X.env = pure false := by rfl) (hw : swappedStores [tg] e X.env = pure none := by rfl)
   (h1 : (assignEach [tg] X.env).map (·.2) = [assign tg X.env] := by rfl) : PS X (.Assign [tg] e pos) (akK te g) := by
 intro pins s σ H D I h
 refine wpAny_Assign_stores (gK (he pins s σ H _ I h) fun v s1 zz => ?_) hs hw
 obtain ⟨x, H1, I1, r1, q1⟩ := zz
 rw [h1]
 exact gK (hg pins s1 σ H1 x v _ I1 r1 q1) fun _ s2 q => q
theorem Rp {x : Str} {e : Expr} {pos' : Pos} (hN : X.N.Nodup) (hi : X.N[i]? = some x) (hx : Loc X.env.scope x) (he : PE X e te) (hs : Q.ay := by rfl) (hf : Q.az := by first | exact .inl rfl | exact .inr rfl | assumption) :
   PS X (.Assign [.Name x pos'] e pos) (akK te (Fq i)) := by
 intro pins s σ H D I h
 refine wpAny_Assign_Name (gK (he pins s σ H _ I h) fun v s1 zz => ?_) hs
 obtain ⟨y, H1, I1, r1, q1⟩ := zz
 exact Hr I1 hN hi hx r1 (fun s2 I2 => ⟨_, H1, I2, q1⟩) hf
def ahw (c : TT) (tb : TS) : TS := fun D σ H => ∃ W : Nat -> St -> Hp -> Prop, (∃ m, W m σ H) /\ ∀ m σ H, W m σ H →
 c σ H fun b H1 => if b = true then ∃ N : St -> Hp -> Prop, (∀ σ' H', N σ' H' -> ∃ m', m' < m /\ W m' σ' H') /\ tb { D with nx := N, ct := N, bk := D.nx } σ H1 else D.nx σ H1
theorem aah {c : Expr} {body : List Stmt} {tc : TT} {tb : TS} (hp : PassesOwn Q.k X.A X.env X.xe) (hc : PT X c tc) (hb : Vv X body tb) : PS X (.While c body [] pos) (ahw tc tb) := by
 intro pins s σ H D I h
 obtain ⟨W, ⟨m0, w0⟩, turn⟩ := h
 refine wpAny_While (codeAny_whileLoop (fun n s' => ∃ σ' H', Inv X pins σ' H' s' /\ W n σ' H') ?_ m0 ⟨σ, H, I, w0⟩)
 rintro n s1 ⟨σ1, H1, I1, w1⟩
 refine auj hp (gK (hc pins s1 σ1 H1 _ I1 (turn n σ1 H1 w1)) fun b s2 zz => ?_)
 obtain ⟨H2, I2, q2⟩ := zz
 cases b with
 | true =>
   obtain ⟨N, hN, q2⟩ := q2
   rw [asM rfl]
   refine auj hp (gK (hb pins s2 σ1 H2 _ I2 q2) fun f s3 q3 => ?_)
   cases f with
   | next =>
     obtain ⟨σ3, H3, I3, n3⟩ := q3
     obtain ⟨m', hm, w3⟩ := hN σ3 H3 n3
     exact ⟨m', hm, σ3, H3, I3, w3⟩
   | cont =>
     obtain ⟨σ3, H3, I3, n3⟩ := q3
     obtain ⟨m', hm, w3⟩ := hN σ3 H3 n3
     exact ⟨m', hm, σ3, H3, I3, w3⟩
   | brk => exact q3
   | ret v => exact q3
 | false =>
   rw [asH as7]
   exact wpAny_execs_nil ⟨σ1, H2, I2, q2⟩
structure It where
 go : Nat -> Hp -> Prop
 yld : Nat -> Hp -> V -> Hp -> Prop
 stop : Nat -> Hp -> Prop
def F2 (X : Cx) (pins : Q.o) (H : Hp) (b : Addr) : Prop :=
 H b = none /\ b ≠ X.env.locals /\ b ∉ X.fs /\ (b ∈ X.ex \/ X.s₀.heap.objs.size <= b) /\ (∀ x c, X.env.cells.lookup x = some c -> c ≠ b) /\ ∀ p ∈ X.pn ++ pins, p.1 ≠ b
theorem Inv.K6 (I : Q.m) (hb : s.heap.objs.size <= b) (hn : H' b = none) : F2 X pins H' b := by
 refine ⟨hn, Nat.ne_of_gt (atx I.lt hb), I.anz hb, .inr (asS I.sz hb), fun x c e z => ?_, fun p hp z => ?_⟩
 . obtain ⟨v, q⟩ := I.cell x c e
   exact absurd (atx q.lt (by rw [z]; exact hb)) (auL _)
 . exact absurd (atx (atd (I.pin p hp).1) (by rw [z]; exact hb)) (auL _)
structure Turn (P : Program) (w : World) (K : Q.l) (tg : Expr) (J : It) (fp : Q.p) (it : Addr) (tn : Nat -> Heap -> Prop) : Prop where
 mem : it ∈ fp
 obj : ∀ i h, tn i h -> ∀ b ∈ fp, ∃ o, h.get? b = some o /\ ∀ v, o.data ≠ .cell v
 keep : ∀ i h h', tn i h -> (∀ b ∈ fp, ∀ o, h.get? b = some o -> h'.get? b = some o) -> tn i h'
 item : ∀ (X : Cx), X.prog = P -> X.w = w -> X.K = K -> X.calm = true -> ∀ (i : Nat) (pins : Q.o) (s : Shared) (σ : St) (H : Hp) (E : Q.v), Inv X pins σ H s -> (∀ b ∈ fp, F2 X pins H b) -> tn i s.heap -> J.go i H →
   wpAny (model P w) X.A (pyNext (.ref it)) (fun r s1 => ∃ u, r = some u ∧
     wpAny (model P w) X.A (letOwnedTupleGo tg (.ref it) u) (fun _ s2 => ∃ x H', Inv X pins σ H' s2 /\ RelV x u /\ J.yld i H x H' /\ tn (i + 1) s2.heap /\ ∀ b ∈ fp, H' b = none) E s1) E s
 done : ∀ (X : Cx), X.prog = P -> X.w = w -> X.K = K -> X.calm = true -> ∀ (i : Nat) (pins : Q.o) (s : Shared) (σ : St) (H : Hp) (E : Q.v), Inv X pins σ H s -> (∀ b ∈ fp, F2 X pins H b) -> tn i s.heap -> J.stop i H →
   wpAny (model P w) X.A (pyNext (.ref it)) (fun r s1 => r = none /\ Inv X pins σ H s1) E s
 self : ∀ (A : Around) (i : Nat) (s : Shared) (Q : Q.v) (E : Q.v), tn i s.heap -> Q (.ref it) s -> wpAny (model P w) A (pyIter (.ref it)) Q E s
abbrev TI := St -> Hp -> (It -> Hp -> Prop) -> Prop
def PIE (X : Cx) (pins : Q.o) (σ : St) (tg : Expr) (R : It -> Hp -> Prop) (itv : Value) (s2 : Shared) : Prop :=
 ∃ (it : Addr) (fp : Q.p) (tn : Nat -> Heap -> Prop) (J : It) (H' : Hp), itv = .ref it /\ Inv X pins σ H' s2 /\ Turn X.prog X.w X.K tg J fp it tn /\ tn 0 s2.heap /\ (∀ b ∈ fp, F2 X pins H' b) /\ R J H'
def PI (X : Cx) (tg iter : Expr) (wi : TI) : Prop :=
 ∀ (pins : Q.o) (s : Shared) (σ : St) (H : Hp) (R : It -> Hp -> Prop), Inv X pins σ H s -> wi σ H R →
   wpAny Q.k X.A (eval iter X.env) (fun v s1 => wpAny Q.k X.A (pyIter v) (PIE X pins σ tg R) X.xe s1) X.xe s
theorem OB {it : Addr} {o : Obj} {n : String} {vs : Array Value} (ho : s.heap.get? it = some o) (hc : o.cls = .type n) (hd : o.data = .fields vs)
   (hn : ["enumerate", "zip", "dict_itemiterator", "dict_reverseitemiterator", "odict_iterator", "itertools.zip_longest", "itertools.pairwise"].contains n = false) (hQ : Q () s) : wpAny M A (letOwnedTupleGo tg (.ref it) u) Q E s := by
 unfold letOwnedTupleGo
 cases tg <;> first
   | exact atA hQ
   | (cases u <;> first
       | exact atA hQ
       | (refine atb (wpAny_load ho ?_)
          rw [hc, hd]
          show wpAny M A (if (["enumerate", "zip", "dict_itemiterator", "dict_reverseitemiterator", "odict_iterator", "itertools.zip_longest", "itertools.pairwise"].contains n && vs[0]? == some (rawInt _)) = true then _ else _) Q E s
          rw [asH (by intro h; rw [hn, atG] at h; cases h)]
          exact atA hQ))
def Itl (K : Q.l) (a : Addr) : It :=
 ⟨fun i H => ∃ xs x, vJ K H a xs /\ xs[i]? = some x, fun i H x H' => H' = H /\ ∀ xs, vJ K H a xs -> xs[i]? = some x, fun i H => ∃ xs, vJ K H a xs /\ xs.length <= i⟩
def Itt (K : Q.l) (a : Addr) : It :=
 ⟨fun i H => ∃ xs x, Fp K H a xs /\ xs[i]? = some x, fun i H x H' => H' = H /\ ∀ xs, Fp K H a xs -> xs[i]? = some x, fun i H => ∃ xs, Fp K H a xs /\ xs.length <= i⟩
def Itr (lo : Int) (n : Nat) : It := ⟨fun i _ => i < n, fun i H x H' => H' = H /\ x = .int (lo + i), fun i _ => n <= i⟩
theorem Xp (a it : Addr) : Turn P w K tg (Itl K a) [it] it (fun i h => h.IsListIter it a i) where
 mem := by simp
 obj := fun i h st b hb => by
   have e : b = it := by simpa using hb
   subst e
   obtain ⟨o, e, c, d⟩ := st
   exact ⟨o, e, fun v z => by rw [d] at z; cases z⟩
 keep := fun i h h' st k => st.at fun o e => k it Q.r o e
 item := by
   intro X hP hw hK hc i pins s σ H E I hf st hg
   subst hP hw hK
   obtain ⟨xs, x, hq, hx⟩ := hg
   obtain ⟨its, rv, p, hz⟩ := I.list hq
   obtain ⟨u, hu, ru⟩ := rv.get hx
   obtain ⟨f0, f1, f2, f3, f4, f5⟩ := hf it Q.r
   refine wpAny_pyNext_list_item st p.isList (x := u) (by simpa using hu) fun h' Vw sb => ?_
   have I1 : Inv X pins σ H { s with heap := h' } := I.turned (t' := s.toks) (fun b o hb e => (sb.2 b hb).trans e) f0 f1 f3 f4 f5
   obtain ⟨o, e, c, d⟩ := id Vw
   exact ⟨u, rfl, OB (s := { s with heap := h' }) e c d Q.c ⟨x, H, I1, ru, ⟨rfl, fun ys hy => by rw [I.Ow hy hq]; exact hx⟩, Vw, fun b hb => (hf b hb).1⟩⟩
 done := by
   intro X hP hw hK hc i pins s σ H E I hf st hg
   subst hP hw hK
   obtain ⟨xs, hq, hx⟩ := hg
   obtain ⟨its, rv, p, hz⟩ := I.list hq
   obtain ⟨f0, f1, f2, f3, f4, f5⟩ := hf it Q.r
   have hl := rv.length
   exact wpAny_pyNext_list_end (I.ok.hd hc) st p.isList (by simp; omega) fun h' eb => ⟨rfl, I.turned (t' := s.toks) (fun b o hb e => eb b o hb e) f0 f1 f3 f4 f5⟩
 self := fun _ _ _ _ _ st h => wpAny_pyIter_listiter st h
theorem Rq (a it : Addr) : Turn P w K tg (Itt K a) [it] it (fun i h => h.IsTupleIter it a i) where
 mem := by simp
 obj := fun i h st b hb => by
   have e : b = it := by simpa using hb
   subst e
   obtain ⟨o, e, c, d⟩ := st
   exact ⟨o, e, fun v z => by rw [d] at z; cases z⟩
 keep := fun i h h' st k => st.at fun o e => k it Q.r o e
 item := by
   intro X hP hw hK hc i pins s σ H E I hf st hg
   subst hP hw hK
   obtain ⟨xs, x, hq, hx⟩ := hg
   obtain ⟨its, rv, p, hz⟩ := I.tuple hq
   obtain ⟨u, hu, ru⟩ := rv.get hx
   obtain ⟨f0, f1, f2, f3, f4, f5⟩ := hf it Q.r
   refine wpAny_pyNext_tuple_item st (show s.heap.IsTuple a its.toArray from p) (x := u) (by simpa using hu) fun h' Vw sb => ?_
   have I1 : Inv X pins σ H { s with heap := h' } := I.turned (t' := s.toks) (fun b o hb e => (sb.2 b hb).trans e) f0 f1 f3 f4 f5
   obtain ⟨o, e, c, d⟩ := id Vw
   exact ⟨u, rfl, OB (s := { s with heap := h' }) e c d Q.c ⟨x, H, I1, ru, ⟨rfl, fun ys hy => by rw [I.Xo hy hq]; exact hx⟩, Vw, fun b hb => (hf b hb).1⟩⟩
 done := by
   intro X hP hw hK hc i pins s σ H E I hf st hg
   subst hP hw hK
   obtain ⟨xs, hq, hx⟩ := hg
   obtain ⟨its, rv, p, hz⟩ := I.tuple hq
   obtain ⟨f0, f1, f2, f3, f4, f5⟩ := hf it Q.r
   have hl := rv.length
   exact wpAny_pyNext_tuple_end (I.ok.hd hc) st (show s.heap.IsTuple a its.toArray from p) (by simp; omega) fun h' eb => ⟨rfl, I.turned (t' := s.toks) (fun b o hb e => eb b o hb e) f0 f1 f3 f4 f5⟩
 self := fun _ _ _ _ _ st h => wpAny_pyIter_tupleiter st h
theorem Rr (it : Addr) (lo : Int) (n : Nat) : Turn P w K tg (Itr lo n) [it] it (fun i h => IsRangeIter h it (lo + (i : Nat) * 1) ((n : Int) - (i : Nat)) 1) where
 mem := by simp
 obj := fun i h st b hb => by
   have e : b = it := by simpa using hb
   subst e
   exact ⟨_, st, fun v z => by
     have z' : Data.fields _ = Data.cell v := z
     cases z'⟩
 keep := fun i h h' st k => k it Q.r _ st
 item := by
   intro X hP hw hK hc i pins s σ H E I hf st hg
   subst hP hw hK
   obtain ⟨f0, f1, f2, f3, f4, f5⟩ := hf it Q.r
   have W := Walks.range (prog := X.prog) (w := X.w) (I.ok.hd hc) it lo 1 n
   refine W.item i s _ _ hg st fun v h' tk hv Vw kk => ?_
   obtain ⟨t, rfl⟩ := hv
   have I1 : Inv X pins σ H { s with heap := h', toks := tk } := I.turned (fun b o hb e => kk b o (by simpa using hb) e) f0 f1 f3 f4 f5
   refine ⟨_, rfl, OB (s := { s with heap := h', toks := tk }) (n := "range_iterator") Vw rfl rfl Q.c ⟨.int (lo + i), H, I1, ⟨t, ?_⟩, ⟨rfl, rfl⟩, Vw, fun b hb => (hf b hb).1⟩⟩
   rw [Int.mul_one]
 done := by
   intro X hP hw hK hc i pins s σ H E I hf st hg
   subst hP hw hK
   obtain ⟨f0, f1, f2, f3, f4, f5⟩ := hf it Q.r
   exact wpAny_pyNext_range_end (I.ok.hd hc) st (by have : n <= i := hg; omega) fun h' eb => ⟨rfl, I.turned (t' := s.toks) (fun b o hb e => eb b o hb e) f0 f1 f3 f4 f5⟩
 self := fun _ _ _ _ _ st h => wpAny_pyIter_rangeiter st h
def akL (K : Q.l) (tl : TE) : TI := fun σ H R => tl σ H fun x H1 => ∃ a, x = .ref a /\ (∃ xs, vJ K H1 a xs) /\ R (Itl K a) H1
def anQ (K : Q.l) (tl : TE) : TI := fun σ H R => tl σ H fun x H1 => ∃ a, x = .ref a /\ (∃ xs, Fp K H1 a xs) /\ R (Itt K a) H1
theorem adx {l : Expr} {tl : TE} (hl : PE X l tl) : PI X tg l (akL X.K tl) := by
 intro pins s σ H R I h
 refine gK (hl pins s σ H _ I h) fun v s1 zz => ?_
 obtain ⟨x, H1, I1, r1, q1⟩ := zz
 obtain ⟨a, e, ⟨xs, hq⟩, q⟩ := q1
 subst e
 cases r1
 obtain ⟨its, rv, p, hz⟩ := I1.list hq
 refine wpAny_pyIter_list p.isList ?_
 refine ⟨s1.heap.objs.size, [s1.heap.objs.size], _, _, H1, rfl, I1.kept (t' := s1.toks) fun b o e => as6 _ e, Xp a _, ⟨_, atz _ rfl, rfl, rfl⟩, fun b hb => ?_, q⟩
 have e : b = s1.heap.objs.size := by simpa using hb
 subst e
 exact I1.K6 (as3 _) (I1.gQ.fresh (as3 _))
theorem ahx {l : Expr} {tl : TE} (hl : PE X l tl) : PI X tg l (anQ X.K tl) := by
 intro pins s σ H R I h
 refine gK (hl pins s σ H _ I h) fun v s1 zz => ?_
 obtain ⟨x, H1, I1, r1, q1⟩ := zz
 obtain ⟨a, e, ⟨xs, hq⟩, q⟩ := q1
 subst e
 cases r1
 obtain ⟨its, rv, p, hz⟩ := I1.tuple hq
 refine wpAny_pyIter_tuple (show s1.heap.IsTuple a its.toArray from p) ?_
 refine ⟨s1.heap.objs.size, [s1.heap.objs.size], _, _, H1, rfl, I1.kept (t' := s1.toks) fun b o e => as6 _ e, Rq a _, ⟨_, atz _ rfl, rfl, rfl⟩, fun b hb => ?_, q⟩
 have e : b = s1.heap.objs.size := by simpa using hb
 subst e
 exact I1.K6 (as3 _) (I1.gQ.fresh (as3 _))
theorem OD {R : It -> Hp -> Prop} {lo hi : Int} {t u v : Tok} {tk : Nat} (I : Q.m) (h1 : -(2 ^ 62) <= lo) (h2 : lo < 2 ^ 62) (h3 : -(2 ^ 62) <= hi) (h4 : hi < 2 ^ 62)
   (q : R (Itr lo (hi - lo).toNat) H) : wpAny Q.k X.A (pyIter (.ref s.heap.objs.size)) (PIE X pins σ tg R) E { s with heap := s.heap.push { cls := .type "range", data := .fields #[.int lo t, .int hi u, .int 1 v] }, toks := tk } := by
 refine wpAny_pyIter_range (IsRange.new ..) (small_one h1 h2 h3 h4) ?_
 have I1 : Inv X pins σ H { s with heap := s.heap.push { cls := .type "range", data := .fields #[.int lo t, .int hi u, .int 1 v] }, toks := tk } := I.kept fun b o e => as6 _ e
 refine ⟨(s.heap.push { cls := .type "range", data := .fields #[.int lo t, .int hi u, .int 1 v] }).objs.size, [(s.heap.push { cls := .type "range", data := .fields #[.int lo t, .int hi u, .int 1 v] }).objs.size], _, _, H, rfl,
   I1.kept (t' := tk) fun b o e => as6 _ e, Rr _ lo (hi - lo).toNat, ?_, fun b hb => ?_, q⟩
 . have e1 : lo + ((0 : Nat) : Int) * 1 = lo := by simp
   have e2 : (((hi - lo).toNat : Nat) : Int) - ((0 : Nat) : Int) = Builtin.Range.rangeSize lo hi 1 := by rw [rangeSize_one]; split <;> omega
   show IsRangeIter _ _ (lo + ((0 : Nat) : Int) * 1) ((((hi - lo).toNat : Nat) : Int) - ((0 : Nat) : Int)) 1
   rw [e1, e2]
   exact atz _ rfl
 . have e : b = (s.heap.push { cls := .type "range", data := .fields #[.int lo t, .int hi u, .int 1 v] }).objs.size := by simpa using hb
   subst e
   exact I1.K6 (as3 _) (I1.gQ.fresh (as3 _))
def akM (ta : TA) : TI := fun σ H R => ta σ H fun vs H1 => ∃ j : Int, vs = [.int j] /\ -(2 ^ 62) <= j /\ j < 2 ^ 62 /\ R (Itr 0 j.toNat) H1
def akN (ta : TA) : TI := fun σ H R => ta σ H fun vs H1 => ∃ i j : Int, vs = [.int i, .int j] /\ (-(2 ^ 62) <= i /\ i < 2 ^ 62 /\ -(2 ^ 62) <= j /\ j < 2 ^ 62) /\ R (Itr i (j - i).toNat) H1
variable {p : Pos}
theorem Xq {a : Expr} {ta : TA} (hg : Gl X "range") (hm : X.mg "range" = none) (ha : PA X [a] ta) (hs : starEach [a] X.env = [(false, eval a X.env)] := by rfl) : PI X tg (.Call (.Name "range" p) [a] [] pos) (akM ta) := by
 intro pins s σ H R I h
 refine Call_ (DJ I hg hm boot_range (auf (gK (ha pos pins s σ H _ I h) fun us s1 zz => ?_) hs rfl))
 obtain ⟨vs, H1, I1, r1, q1⟩ := zz
 obtain ⟨j, e, q1, q2, q⟩ := q1
 subst e
 cases r1 with
 | cons r rr =>
   cases rr
   obtain ⟨t, rfl⟩ := r
   exact call_range_1 (OD I1 Q.a Q.a q1 q2 (by simpa using q))
theorem Xr {a b : Expr} {ta : TA} (hg : Gl X "range") (hm : X.mg "range" = none) (ha : PA X [a, b] ta) (hs : starEach [a, b] X.env = [(false, eval a X.env), (false, eval b X.env)] := by rfl) (Om : starEach [b] X.env = [(false, eval b X.env)] := by rfl) :
   PI X tg (.Call (.Name "range" p) [a, b] [] pos) (akN ta) := by
 intro pins s σ H R I h
 refine Call_ (DJ I hg hm boot_range (auf (gK (ha pos pins s σ H _ I h) fun us s1 zz => ?_) (by rw [hs, Om]) (by rw [Om]; rfl)))
 obtain ⟨vs, H1, I1, r1, q1⟩ := zz
 obtain ⟨i, j, e, ⟨q1, q2, q3, q4⟩, q⟩ := q1
 subst e
 cases r1 with
 | cons r rr =>
   cases rr with
   | cons r' rr =>
     cases rr
     obtain ⟨t, rfl⟩ := r
     obtain ⟨t', rfl⟩ := r'
     exact call_range_2 (OD I1 q1 q2 q3 q4 q)
def anR (wi : TI) (g : TG) (tb : TS) : TS := fun D σ H => wi σ H fun J H1 => ∃ W : Nat -> Nat -> St -> Hp -> Prop, (∃ m, W 0 m σ H1) /\ ∀ i m σ H, W i m σ H →
 (J.stop i H /\ D.nx σ H) \/ (J.go i H /\ ∃ N : St -> Hp -> Prop, (∀ σ' H', N σ' H' -> ∃ m', m' < m /\ W (i + 1) m' σ' H') /\ ∀ x H', J.yld i H x H' -> g x σ H' fun σ2 H2 => tb { D with nx := N, ct := N, bk := D.nx } σ2 H2)
def Hs (fp : Q.p) (h : Heap) : List (Addr × Obj) := fp.filterMap fun b => (h.get? b).map fun o => (b, o)
theorem tX {fp : Q.p} {o : Obj} (hb : b ∈ fp) (e : h.get? b = some o) : (b, o) ∈ Hs fp h := List.mem_filterMap.mpr ⟨b, hb, by rw [e]; rfl⟩
theorem Xs {fp : Q.p} {p : Addr × Obj} (hp : p ∈ Hs fp h) : p.1 ∈ fp /\ h.get? p.1 = some p.2 := by
 obtain ⟨b, hb, e⟩ := List.mem_filterMap.mp hp
 cases q : h.get? b with
 | none => rw [q] at e; cases e
 | some o =>
   rw [q] at e
   have e' : (b, o) = p := atv e
   subst e'
   exact ⟨hb, q⟩
theorem Inv.pinned {fp : Q.p} (I : Q.m) (hf : ∀ b ∈ fp, F2 X pins H b) (ho : ∀ b ∈ fp, ∃ o, s.heap.get? b = some o /\ ∀ v, o.data ≠ .cell v) : Inv X (pins ++ Hs fp s.heap) σ H s :=
 I.GB fun p hp => (asQ.mp hp).elim (fun z => I.pin p (asJ _ z)) fun z => by
   obtain ⟨hb, e⟩ := Xs z
   obtain ⟨f0, f1, f2, _⟩ := hf p.1 hb
   obtain ⟨o, e', d⟩ := ho p.1 hb
   rw [e] at e'; cases e'
   exact ⟨e, f0, f1, f2, d⟩
theorem Inv.Bg {pl : Q.o} (I : Inv X (pins ++ pl) σ H s) : Inv X pins σ H s := I.GB fun p hp => I.pin p (asJ _ (asL _ hp))
theorem aai {iter : Expr} {body : List Stmt} {wi : TI} {g : TG} {tb : TS} (hp : PassesOwn Q.k X.A X.env X.xe) (hc : X.calm = true) (hi : PI X tg iter wi) (hg : PG X tg g) (hb : Vv X body tb)
   (hs : Q.al := by intro _; rfl) : PS X (.For tg iter body [] pos) (anR wi g tb) := by
 intro pins s σ H D I h
 refine wpAny_For (gK (hi pins s σ H _ I h) fun v s1 h1 => gK h1 fun itv s2 h2 => ?_) hs
 obtain ⟨it, fp, tn, J, H2, e, I2, T, st2, f2, W, ⟨m0, w0⟩, turn⟩ := h2
 subst e
 have stat : ∀ {H' : Hp}, (∀ b ∈ fp, H' b = none) -> ∀ b ∈ fp, F2 X pins H' b := fun hn b hb => ⟨hn b hb, (f2 b hb).2⟩
 refine codeAny_forLoop_any (fun n s' => ∃ i σ' H', Inv X pins σ' H' s' /\ tn i s'.heap /\ (∀ b ∈ fp, H' b = none) /\ W i n σ' H') ?_ m0 ⟨0, σ, H2, I2, st2, fun b hb => (f2 b hb).1, w0⟩
 rintro n s3 ⟨i, σ3, H3, I3, st3, fr3, w3⟩
 rcases turn i n σ3 H3 w3 with ⟨stop, qn⟩ | ⟨go, N, hN, step⟩
 . refine auj hp (gK (T.done X rfl rfl rfl hc i pins s3 σ3 H3 X.xe I3 (stat fr3) st3 stop) fun r s4 zz => ?_)
   obtain ⟨hr, I4⟩ := zz
   subst hr
   exact wpAny_execs_nil ⟨σ3, H3, I4, qn⟩
 . refine auj hp (gK (T.item X rfl rfl rfl hc i pins s3 σ3 H3 X.xe I3 (stat fr3) st3 go) fun r s4 zz => ?_)
   obtain ⟨u, hr, h4⟩ := zz
   subst hr
   refine auj hp (gK h4 fun _ s5 zz => ?_)
   obtain ⟨x, H5, I5, r5, y5, st5, fr5⟩ := zz
   have I5' := I5.pinned (stat fr5) (T.obj _ _ st5)
   refine auj hp (gK (hg _ s5 σ3 H5 x u _ I5' r5 (step x H5 y5)) fun _ s6 zz => ?_)
   obtain ⟨σ6, H6, I6, q6⟩ := zz
   refine auj hp (gK (hb _ s6 σ6 H6 _ I6 q6) fun f s7 q7 => ?_)
   have again : ∀ {σ7 : St} {H7 : Hp}, Inv X (pins ++ Hs fp s5.heap) σ7 H7 s7 -> N σ7 H7 -> ∃ m, m < n /\ ∃ i σ' H', Inv X pins σ' H' s7 /\ tn i s7.heap /\ (∀ b ∈ fp, H' b = none) /\ W i m σ' H' := fun {σ7 H7} I7 n7 => by
     obtain ⟨m', hm, w7⟩ := hN σ7 H7 n7
     refine ⟨m', hm, i + 1, σ7, H7, I7.Bg, T.keep _ _ _ st5 fun b hb o e => (I7.pin (b, o) (asJ _ (asJ _ (tX hb e)))).1, fun b hb => ?_, w7⟩
     obtain ⟨o, e, d⟩ := T.obj _ _ st5 b hb
     exact (I7.pin (b, o) (asJ _ (asJ _ (tX hb e)))).2.1
   cases f with
   | next => obtain ⟨σ7, H7, I7, n7⟩ := q7; exact again I7 n7
   | cont => obtain ⟨σ7, H7, I7, n7⟩ := q7; exact again I7 n7
   | brk => obtain ⟨σ7, H7, I7, q7⟩ := q7; exact ⟨σ7, H7, I7.Bg, q7⟩
   | ret v => obtain ⟨x7, σ7, H7, I7, r7, q7⟩ := q7; exact ⟨x7, σ7, H7, I7.Bg, r7, q7⟩
abbrev R2 := V -> V -> Hp -> VK -> Prop
def vX (X : Cx) (f : Value -> Value -> Sem Value) (r : R2) : Prop :=
 ∀ (pins : Q.o) (s : Shared) (σ : St) (H : Hp) (x y : V) (v u : Value) (Q : VK), Inv X pins σ H s -> RelV x v -> RelV y u -> r x y H Q →
   wpAny Q.k X.A (f v u) (EP X pins σ Q) X.xe s
def UnR (X : Cx) (f : Value -> Sem Value) (r : V -> Hp -> VK -> Prop) : Prop :=
 ∀ (pins : Q.o) (s : Shared) (σ : St) (H : Hp) (x : V) (v : Value) (Q : VK), Inv X pins σ H s -> RelV x v -> r x H Q →
   wpAny Q.k X.A (f v) (EP X pins σ Q) X.xe s
def vq (X : Cx) (f : Value) (r : List V -> Hp -> VK -> Prop) : Prop :=
 ∀ (pins : Q.o) (s : Shared) (σ : St) (H : Hp) (xs : List V) (us : Q.q) (Q : VK), Inv X pins σ H s -> Vals xs us -> r xs H Q →
   wpAny Q.k X.A (call f us) (EP X pins σ Q) X.xe s
def tOp (r : R2) (ta tb : TE) : TE := fun σ H Q => ta σ H fun x H1 => tb σ H1 fun y H2 => r x y H2 Q
def tUn (r : V -> Hp -> VK -> Prop) (ta : TE) : TE := fun σ H Q => ta σ H fun x H1 => r x H1 Q
def rI (C : Int -> Int -> Prop) (g : Int -> Int -> V) : R2 := fun x y H Q => ∃ i j, x = .int i /\ y = .int j /\ C i j /\ Q (g i j) H
def rI0 (g : Int -> Int -> V) : R2 := fun x y H Q => ∃ i j, x = .int i /\ y = .int j /\ Q (g i j) H
def rU (g : Int -> V) : V -> Hp -> VK -> Prop := fun x H Q => ∃ i, x = .int i /\ Q (g i) H
variable {a b : Expr} {ta tb : TE} {f : Value -> Value -> Sem Value}
theorem ahy (ha : PE X a ta) (hb : PE X b tb) {R : V -> V -> Hp -> Prop} (I : Q.m)
   (h : ta σ H fun x H1 => tb σ H1 fun y H2 => R x y H2) {Q : Q.v}
   (hf : ∀ v u s2 x y H2, Inv X pins σ H2 s2 -> RelV x v -> RelV y u -> R x y H2 -> wpAny Q.k X.A (f v u) Q X.xe s2) :
   wpAny Q.k X.A (eval a X.env) (fun v s₁ => wpAny Q.k X.A (eval b X.env) (fun u s₂ => wpAny Q.k X.A (f v u) Q X.xe s₂) X.xe s₁) X.xe s := by
 refine gK (ha pins s σ H _ I h) fun v s1 zz => ?_
 obtain ⟨x, H1, I1, r1, q1⟩ := zz
 refine gK (hb pins s1 σ H1 _ I1 q1) fun u s2 zz => ?_
 obtain ⟨y, H2, I2, r2, q2⟩ := zz
 exact hf v u s2 x y H2 I2 r1 r2 q2
variable {r : R2}
theorem aaj {op : Operator} (ho : vX X (binaryOp op) r) (ha : PE X a ta) (hb : PE X b tb) : PE X (.BinOp a op b pos) (tOp r ta tb) := by
 intro pins s σ H Q I h
 exact wpAny_BinOp (ahy ha hb I h fun v u s2 x y H2 I2 rx ry q => ho pins s2 σ H2 x y v u Q I2 rx ry q)
theorem akP {op : UnaryOp} {r : V -> Hp -> VK -> Prop} (ho : UnR X (unaryOp op) r) (ha : PE X a ta) : PE X (.UnaryOp op a pos) (tUn r ta) := by
 intro pins s σ H Q I h
 exact UnaryOp_ (gK (ha pins s σ H _ I h) fun v s1 ⟨x, H1, I1, r1, q1⟩ => ho pins s1 σ H1 x v Q I1 r1 q1)
theorem opI {C : Int -> Int -> Prop} {g : Int -> Int -> Int}
   (rule : ∀ (i j : Int) (t u : Tok) (s : Shared) (Q : Q.v) (E : Q.v), C i j -> Q (.int (g i j) s.toks) { s with toks := s.toks + 1 } -> wpAny Q.k X.A (f (.int i t) (.int j u)) Q E s) :
   vX X f (rI C fun i j => .int (g i j)) := by
 intro pins s σ H x y v u Q I rx ry h
 obtain ⟨i, j, rfl, rfl, hc, q⟩ := h
 obtain ⟨t, rfl⟩ := rx
 obtain ⟨t', rfl⟩ := ry
 exact rule i j t t' s _ _ hc ⟨.int (g i j), H, I.tok _, ⟨_, rfl⟩, q⟩
theorem akR {g : Int -> Int -> Int}
   (rule : ∀ (i j : Int) (t u : Tok) (s : Shared) (Q : Q.v) (E : Q.v), Q (.int (g i j) s.toks) { s with toks := s.toks + 1 } -> wpAny Q.k X.A (f (.int i t) (.int j u)) Q E s) :
   vX X f (rI0 fun i j => .int (g i j)) := by
 intro pins s σ H x y v u Q I rx ry h
 obtain ⟨i, j, rfl, rfl, q⟩ := h
 obtain ⟨t, rfl⟩ := rx
 obtain ⟨t', rfl⟩ := ry
 exact rule i j t t' s _ _ ⟨.int (g i j), H, I.tok _, ⟨_, rfl⟩, q⟩
theorem ahz {g : Int -> Int -> Bool}
   (rule : ∀ (i j : Int) (t u : Tok) (s : Shared) (Q : Q.v) (E : Q.v), Q (.bool (g i j)) s -> wpAny Q.k X.A (f (.int i t) (.int j u)) Q E s) :
   vX X f (rI0 fun i j => .bl (g i j)) := by
 intro pins s σ H x y v u Q I rx ry h
 obtain ⟨i, j, rfl, rfl, q⟩ := h
 obtain ⟨t, rfl⟩ := rx
 obtain ⟨t', rfl⟩ := ry
 exact rule i j t t' s _ _ ⟨.bl (g i j), H, I, rfl, q⟩
def akS (i j : Int) : Prop := 0 < j /\ j < 1073741824
def akT (i j : Int) : Prop := 0 <= j /\ j <= 1000000 /\ i.natAbs < 2 ^ 64
def adA (i j : Int) : Prop := (-(2 ^ 64) < i /\ i < 2 ^ 64) \/ (-(2 ^ 64) < j /\ j < 2 ^ 64)
theorem adA.ok {i j : Int} (h : adA i j) : IntMulOk i j := by
 rcases h with ⟨h1, h2⟩ | ⟨h1, h2⟩
 . exact .of_left (intBits_le_64 h1 h2)
 . exact .of_right (intBits_le_64 h1 h2)
theorem ahA : vX X (binaryOp .Add) (rI0 fun i j => .int (i + j)) := akR fun _ _ _ _ _ _ _ q => add_int q
theorem ahB : vX X (binaryOp .Sub) (rI0 fun i j => .int (i - j)) := akR fun _ _ _ _ _ _ _ q => sub_int q
theorem ahC : vX X (binaryOp .Mult) (rI adA fun i j => .int (i * j)) := opI fun _ _ _ _ _ _ _ hc q => mul_int q hc.ok
theorem adB : vX X (binaryOp .FloorDiv) (rI akS fun i j => .int (i / j)) := opI fun i j _ _ _ _ _ hc q => by
 have h1 : (0 : Int) < j := hc.1
 have h2 : j < 1073741824 := hc.2
 exact floordiv_int Q.a (by rw [Int.fdiv_eq_ediv_of_nonneg i Q.a]; exact q) (.inl (PyProof.noPylong_small Q.a))
theorem ahD : vX X (binaryOp .Mod) (rI (fun _ j => 0 < j) fun i j => .int (i % j)) := opI fun i j _ _ _ _ _ hc q => by
 have h1 : (0 : Int) < j := hc
 exact mod_int' Q.a (by rw [Int.fmod_eq_emod_of_nonneg i Q.a]; exact q)
theorem ahE : vX X (binaryOp .Pow) (rI akT fun i j => .int (i ^ j.toNat)) := opI fun _ _ _ _ _ _ _ hc q => pow_int_small hc.1 hc.2.1 hc.2.2 q
theorem unI {f : Value -> Sem Value} {g : Int -> Int}
   (rule : ∀ (i : Int) (t : Tok) (s : Shared) (Q : Q.v) (E : Q.v), Q (.int (g i) s.toks) { s with toks := s.toks + 1 } -> wpAny Q.k X.A (f (.int i t)) Q E s) :
   UnR X f (rU fun i => .int (g i)) := by
 intro pins s σ H x v Q I rx h
 obtain ⟨i, rfl, q⟩ := h
 obtain ⟨t, rfl⟩ := rx
 exact rule i t s _ _ ⟨.int (g i), H, I.tok _, ⟨_, rfl⟩, q⟩
theorem ahF : UnR X (unaryOp .USub) (rU fun i => .int (-i)) := unI fun _ _ _ _ _ q => neg_int q
def ahG : V -> V -> Bool
 | .non, .non => true | .non, .int _ => true | .int _, .non => true | .non, .bl _ => true | .bl _, .non => true | .non, .str _ => true | .str _, .non => true
 | .int _, .int _ => true | .bl _, .bl _ => true | .str _, .str _ => true | .Xk _, .Xk _ => true
 | .int _, .str _ => true | .str _, .int _ => true | .bl _, .str _ => true | .str _, .bl _ => true
 | _, _ => false
def rEq : R2 := fun x y H Q => ahG x y = true /\ Q (.bl (decide (x = y))) H
def rNe : R2 := fun x y H Q => ahG x y = true /\ Q (.bl (!decide (x = y))) H
theorem Vx {i j : Int} : decide (V.int i = V.int j) = (i == j) := by
 rw [auy]
 simp
theorem aak {i j : Bool} : decide (V.bl i = V.bl j) = (i == j) := by
 rw [auy]
 simp
theorem Vy {i j : Str} : decide (V.str i = V.str j) = (i == j) := by
 rw [auy]
 simp
theorem Vz {i j : Array UInt8} : decide (V.Xk i = V.Xk j) = (i.toList == j.toList) := by
 rw [auy]
 cases i
 cases j
 simp
variable {c : Expr} {tc : TE}
theorem dz {Q : VK} {k k' : Bool} (I : Q.m) (q : Q (.bl k) H) (e : k = k') : EP X pins σ Q (.bool k') s := by
 subst e
 exact ⟨.bl k, H, I, rfl, q⟩
theorem aal : vX X (compareOp .Eq) rEq := by
 intro pins s σ H x y v u Q I rx ry h
 obtain ⟨hs, q⟩ := h
 cases x with
 | non =>
   cases rx
   cases y with
   | non => cases ry; exact PySem.EqNone.eq_none_none Q.L
   | bl j => cases ry; exact PySem.EqNone.eq_none_bool Q.L
   | int j => obtain ⟨t', rfl⟩ := ry; exact PySem.EqNone.eq_none_int Q.L
   | str j => obtain ⟨t', rfl⟩ := ry; exact PySem.EqNone.eq_none_str Q.L
   | _ => exact absurd Q.ad as7
 | bl i =>
   cases rx
   cases y with
   | non => cases ry; exact PySem.EqNone.eq_bool_none Q.L
   | bl j => cases ry; exact eq_bool (dz I q aak)
   | str j => obtain ⟨t', rfl⟩ := ry; exact PySem.EqMixed.eq_bool_str Q.L
   | _ => exact absurd Q.ad as7
 | int i =>
   obtain ⟨t, rfl⟩ := rx
   cases y with
   | non => cases ry; exact PySem.EqNone.eq_int_none Q.L
   | int j => obtain ⟨t', rfl⟩ := ry; exact eq_int (dz I q Vx)
   | str j => obtain ⟨t', rfl⟩ := ry; exact PySem.EqMixed.eq_int_str Q.L
   | _ => exact absurd Q.ad as7
 | str i =>
   obtain ⟨t, rfl⟩ := rx
   cases y with
   | non => cases ry; exact PySem.EqNone.eq_str_none Q.L
   | bl j => cases ry; exact PySem.EqMixed.eq_str_bool Q.L
   | int j => obtain ⟨t', rfl⟩ := ry; exact PySem.EqMixed.eq_str_int Q.L
   | str j => obtain ⟨t', rfl⟩ := ry; exact eq_str (dz I q Vy)
   | _ => exact absurd Q.ad as7
 | Xk i =>
   obtain ⟨t, rfl⟩ := rx
   cases y with
   | Xk j => obtain ⟨t', rfl⟩ := ry; exact PySem.W.eq_bytes (dz I q Vz)
   | _ => exact absurd Q.ad as7
 | _ => cases y <;> exact absurd Q.ad as7
theorem agy : vX X (compareOp .NotEq) rNe := by
 intro pins s σ H x y v u Q I rx ry h
 obtain ⟨hs, q⟩ := h
 cases x with
 | non =>
   cases rx
   cases y with
   | non => cases ry; exact PySem.EqNone.ne_none_none Q.L
   | bl j => cases ry; exact PySem.EqNone.ne_none_bool Q.L
   | int j => obtain ⟨t', rfl⟩ := ry; exact PySem.EqNone.ne_none_int Q.L
   | str j => obtain ⟨t', rfl⟩ := ry; exact PySem.EqNone.ne_none_str Q.L
   | _ => exact absurd Q.ad as7
 | bl i =>
   cases rx
   cases y with
   | non => cases ry; exact PySem.EqNone.ne_bool_none Q.L
   | bl j => cases ry; exact ne_bool (dz I q (congrArg not aak))
   | str j => obtain ⟨t', rfl⟩ := ry; exact PySem.EqMixed.ne_bool_str Q.L
   | _ => exact absurd Q.ad as7
 | int i =>
   obtain ⟨t, rfl⟩ := rx
   cases y with
   | non => cases ry; exact PySem.EqNone.ne_int_none Q.L
   | int j => obtain ⟨t', rfl⟩ := ry; exact ne_int (dz I q (congrArg not Vx))
   | str j => obtain ⟨t', rfl⟩ := ry; exact PySem.EqMixed.ne_int_str Q.L
   | _ => exact absurd Q.ad as7
 | str i =>
   obtain ⟨t, rfl⟩ := rx
   cases y with
   | non => cases ry; exact PySem.EqNone.ne_str_none Q.L
   | bl j => cases ry; exact PySem.EqMixed.ne_str_bool Q.L
   | int j => obtain ⟨t', rfl⟩ := ry; exact PySem.EqMixed.ne_str_int Q.L
   | str j => obtain ⟨t', rfl⟩ := ry; exact ne_str (dz I q (congrArg not Vy))
   | _ => exact absurd Q.ad as7
 | Xk i =>
   obtain ⟨t, rfl⟩ := rx
   cases y with
   | Xk j => obtain ⟨t', rfl⟩ := ry; exact PySem.W.ne_bytes (dz I q (congrArg not Vz))
   | _ => exact absurd Q.ad as7
 | _ => cases y <;> exact absurd Q.ad as7
theorem VA : vX X (compareOp .Lt) (rI0 fun i j => .bl (decide (i < j))) := ahz fun _ _ _ _ _ _ _ q => lt_int q
theorem akU : vX X (compareOp .LtE) (rI0 fun i j => .bl (decide (i <= j))) := ahz fun _ _ _ _ _ _ _ q => le_int q
theorem akV : vX X (compareOp .Gt) (rI0 fun i j => .bl (decide (j < i))) := ahz fun _ _ _ _ _ _ _ q => gt_int q
theorem K7 : vX X (compareOp .NotIn) (fun x y H Q => ∃ i j, x = .str i /\ y = .str j /\ Q (.bl (!(!(Builtin.Str.occurrences j i 0 j.length 1).isEmpty))) H) := by
 intro pins s σ H x y v u Q I rx ry h
 obtain ⟨i, j, rfl, rfl, q⟩ := h
 obtain ⟨t, rfl⟩ := rx
 obtain ⟨t', rfl⟩ := ry
 exact notIn_str (dz I q rfl)
variable {op : CmpOp}
theorem tY (b : Expr) (h : op ≠ .In := by decide) (h2 : op ≠ .NotIn := by decide) : behindInMarks op b = false := by
 have e1 : (op == CmpOp.In) = false := by cases op <;> first | rfl | exact absurd rfl h
 have e2 : (op == CmpOp.NotIn) = false := by cases op <;> first | rfl | exact absurd rfl h2
 cases b <;> simp [behindInMarks, e1, e2]
theorem xJ (ho : vX X (compareOp op) r) (ha : PE X a ta) (hb : PE X b tb) (hm : behindInMarks op b = false) : PE X (.Compare a [op] [b] pos) (tOp r ta tb) := by
 intro pins s σ H Q I h
 exact wpAny_Compare1 (ahy ha hb I h fun v u s2 x y H2 I2 rx ry q => ho pins s2 σ H2 x y v u Q I2 rx ry q) hm
def agz (t : TE) : TT := fun σ H Q => t σ H fun x H' => ∃ k, x = .bl k /\ Q k H'
theorem xK (ho : vX X (compareOp op) r) (ha : PE X a ta) (hb : PE X b tb) (hm : behindInMarks op b = false) : PT X (.Compare a [op] [b] pos) (agz (tOp r ta tb)) := by
 intro pins s σ H Q I h
 refine wpAny_isTrue_Compare1 (gK (ha pins s σ H _ I h) fun v s1 ⟨x, H1, I1, r1, q1⟩ => gK (hb pins s1 σ H1 _ I1 q1) fun u s2 ⟨y, H2, I2, r2, q2⟩ =>
   gK (ho pins s2 σ H2 x y v u _ I2 r1 r2 q2) fun c s3 ⟨z, H3, I3, r3, k, e, q3⟩ => ?_) hm
 subst e
 cases r3
 exact atY ⟨H3, I3, q3⟩
def aam (r r' : R2) (ta tb tc : TE) : TE := fun σ H Q => ta σ H fun x H1 => tb σ H1 fun y H2 => r x y H2 fun z H3 => ∃ k, z = .bl k ∧
 (if k = true then tc σ H3 fun w' H4 => r' y w' H4 Q else Q (.bl false) H3)
theorem aan {op' : CmpOp} {r' : R2} (ho : vX X (compareOp op) r) (JX : vX X (compareOp op') r') (ha : PE X a ta) (hb : PE X b tb) (hc : PE X c tc)
   (hm : lastMarks [op, op'] [b, c] = false := by with_unfolding_all rfl) : PE X (.Compare a [op, op'] [b, c] pos) (aam r r' ta tb tc) := by
 intro pins s σ H Q I h
 refine Compare_chain (gK (ha pins s σ H _ I h) fun v s1 ⟨x, H1, I1, r1, q1⟩ => chain_link (gK (hb pins s1 σ H1 _ I1 q1) fun u s2 ⟨y, H2, I2, r2, q2⟩ =>
   gK (ho pins s2 σ H2 x y v u _ I2 r1 r2 q2) fun d s3 ⟨z, H3, I3, r3, k, e, q3⟩ => ?_)) hm
 subst e
 cases r3
 refine atY ?_
 cases k with
 | false => exact ite_ff ⟨.bl false, H3, I3, rfl, q3⟩
 | true => exact ite_tt (chain_last (gK (hc pins s3 σ H3 _ I3 q3) fun w' s4 ⟨z', H4, I4, r4, q4⟩ => JX pins s4 σ H4 y z' u w' Q I4 r2 r4 q4))
theorem aao {op' : CmpOp} {r' : R2} (ho : vX X (compareOp op) r) (JX : vX X (compareOp op') r') (ha : PE X a ta) (hb : PE X b tb) (hc : PE X c tc)
   (hm : lastMarks [op, op'] [b, c] = false := by with_unfolding_all rfl) : PT X (.Compare a [op, op'] [b, c] pos) (agz (aam r r' ta tb tc)) := by
 intro pins s σ H Q I h
 refine isTrue_chain (gK (ha pins s σ H _ I h) fun v s1 ⟨x, H1, I1, r1, q1⟩ => test_link (gK (hb pins s1 σ H1 _ I1 q1) fun u s2 ⟨y, H2, I2, r2, q2⟩ =>
   gK (ho pins s2 σ H2 x y v u _ I2 r1 r2 q2) fun d s3 ⟨z, H3, I3, r3, k, e, q3⟩ => ?_)) hm
 subst e
 cases r3
 refine atY ?_
 cases k with
 | false =>
   obtain ⟨k', e', q'⟩ := q3
   cases e'
   exact ite_ff ⟨H3, I3, q'⟩
 | true =>
   refine ite_tt (test_last (gK (hc pins s3 σ H3 _ I3 q3) fun w' s4 ⟨z', H4, I4, r4, q4⟩ => gK (JX pins s4 σ H4 y z' u w' _ I4 r2 r4 q4) fun d' s5 zz => ?_))
   obtain ⟨z2, H5, I5, r5, k2, e2, q5⟩ := zz
   subst e2
   cases r5
   exact atY ⟨H5, I5, q5⟩
theorem DK : (sizeLine : Nat) < 2 ^ 63 := by rw [atP]; decide
theorem Rt : vX X (binaryOp .Add) (fun x y H Q => ∃ i j, x = .str i /\ y = .str j /\ i.length + j.length <= sizeLine /\ Q (.str (i ++ j)) H) := by
 intro pins s σ H x y v u Q I rx ry h
 obtain ⟨i, j, rfl, rfl, hz, q⟩ := h
 obtain ⟨t, rfl⟩ := rx
 obtain ⟨t', rfl⟩ := ry
 exact add_str (fun t' tk => ⟨.str (i ++ j), H, I.tok _, ⟨_, rfl⟩, q⟩) hz
theorem vals1 {x : V} (r : Vals [x] us) : ∃ u, us = [u] /\ RelV x u := by
 cases r with
 | cons r1 r2 => cases r2; exact ⟨_, rfl, r1⟩
theorem Xu : vq X (.type "int") (fun xs H Q => (∃ i, xs = [.int i] /\ Q (.int i) H) \/ ∃ k, xs = [.bl k] /\ Q (.int (if k then 1 else 0)) H) := by
 intro pins s σ H xs us Q I r h
 rcases h with ⟨i, rfl, q⟩ | ⟨k, rfl, q⟩
 . obtain ⟨u, rfl, t, rfl⟩ := vals1 r
   exact call_int_int ⟨.int i, H, I, ⟨_, rfl⟩, q⟩
 . obtain ⟨u, rfl, r1⟩ := vals1 r
   cases r1
   exact call_int_bool ⟨.int (if k then 1 else 0), H, I.tok _, ⟨_, rfl⟩, q⟩
theorem K8 : vq X (.type "str") (fun xs H Q => ∃ i, xs = [.int i] /\ i.natAbs.log2 < 1920 /\ Q (.str (toString i)) H) := by
 intro pins s σ H xs us Q I r h
 obtain ⟨i, rfl, hz, q⟩ := h
 obtain ⟨u, rfl, t, rfl⟩ := vals1 r
 exact PySem.P.str_of_int hz ⟨.str _, H, I.tok _, ⟨_, rfl⟩, q⟩
structure Xv (h : Heap) (x dx C : Addr) (mA : Q.A) : Prop where
 obj : h.get? x = some (PySem.W.instObj C dx)
 ns : h.Ns1 dx mA
 ne : dx ≠ x
variable {dx : Addr}
theorem Xw {mA : Q.A} (n : h.Ns1 dx mA) : ∃ od, h.get? dx = some od /\ ∀ name, PySem.W.lookIn name od = some (mA name) := by
 obtain ⟨o, es, ep, ho, hd, hk, _, hm⟩ := n
 refine ⟨o, ho, fun name => ?_⟩
 have e := hm name
 unfold nsFind findBy at e
 rw [← Array.find?_toList] at e
 unfold PySem.W.lookIn
 rw [hd]
 dsimp only
 split
 . rename_i y q
   rw [q] at e
   exact congrArg some e
 . rename_i q
   rw [q] at e
   have a : es.toList.any (·.refKey) = false := by
     rw [List.any_eq_false]
     intro y hy
     obtain ⟨z, t, anT⟩ := hk y (Array.mem_toList_iff.mp hy)
     simp [DictEntry.refKey, anT]
   have a' : ¬ es.toList.any (·.refKey) = true := by rw [a]; exact as7
   rw [asH a']
   exact congrArg some e
variable {C : Addr}
theorem Xv.look {mA : Q.A} (I : Xv h x dx C mA) : ∃ od, PySem.W.InstAt h x (PySem.W.instObj C dx) C (some od) /\ ∀ name, PySem.W.lookIn name od = some (mA name) :=
 let ⟨od, ho, hl⟩ := Xw I.ns
 ⟨od, ⟨I.obj, rfl, rfl, ho⟩, hl⟩
variable {prog : Program} {f : Addr} {mA : Q.A} {name : Str} {v : Value}
theorem get_map {expr : Bool} {Q : Q.v} (X : K.In s.heap) (I : Xv s.heap x dx C mA) (hg : PySem.W.plainGet K C name = true) (hh : PySem.W.hasDictIn K C = true)
   (ha : PySem.W.findIn K (.ref C) name = some none) (hv : mA name = some v) (hv' : PySem.W.handedIn v = true) (h : Q v { s with toks := s.toks + 1 }) :
   wpAny (model prog w) A (getAttr (.ref x) name expr) Q E s := by
 obtain ⟨od, J, hl⟩ := I.look
 exact PySem.W.get_value X J (PySem.W.plainGet_of hg).1 (PySem.W.findObj_own hh ha rfl (by rw [hl, hv])) hv' h
theorem adC {ns : Q.h} (X : K.In s.heap) (I : Xv s.heap x dx C mA)
   (hs : PySem.W.findIn K (.ref C) "__setattr__" = some (some (.builtin "object.__setattr__"))) (hp : PySem.W.plainOver K C = true) (ht : PySem.W.takerIn K C name = some none) (hh : PySem.W.hasDictIn K C = true)
   (hw : PySem.Within mA ns) (hsz : ns.length <= sizeLine)
   (h : ∀ h', Xv h' x dx C (fun y => if y = name then some v else mA y) -> Heap.SameBut dx s.heap h' -> Q () { s with heap := h', toks := s.toks + 2 }) :
   wpAny (model prog w) A (setAttr (.ref x) name v) Q E s := by
 obtain ⟨od, J, hl⟩ := I.look
 refine PySem.W.set_plain X J hs (PySem.W.osa_open (s := { s with toks := s.toks + 1 }) (r := none) X J hp ht fun b => ?_)
 obtain ⟨cd, hc, hd'⟩ := PySem.W.any_some hh
 have hx : s.heap.get? x = some ⟨.ref C, some dx, .plain, #[]⟩ := I.obj
 refine atb (atA (atb (atb (wpAny_loadPart hx (atb (PySem.W.Looks.here (s := { s with toks := s.toks + 1 }) (PySem.W.looks_clsIn X hc) ?_))))))
 rw [hd']
 refine atA (a := some dx) (atb (atA (atb ?_)))
 refine wpAny_nsSet1 (s := { s with toks := s.toks + 1 }) I.ns fun h' hn2 Om => ?_
 obtain ⟨oD, esD, epD, hoD, hdD, hcD⟩ := hn2.count (PySem.Within.cons name v hw)
 refine atb (wpAny_lookBehind hoD (by rw [hdD]; exact pastItsLine_dict (asS hcD (by rw [atE]; omega))) ?_)
 exact atA (h _ ⟨(Om.2 _ (aui I.ne)).trans I.obj, hn2, I.ne⟩ Om)
theorem aap {R : Result -> Shared -> Prop} {vs : Q.q} {kw : List (Str × Value)} (X : K.In s.heap) (hm : PySem.W.makesIn K C = true)
   (hi : PySem.W.findIn K (.ref C) "__init__" = some (some (.ref f))) (hf : PySem.W.typeIn K (.ref f) = some (.type "function"))
   (h : codeAny (model prog w) (A.under (.builtin "type.__call__" ⟨.ref C :: vs, kw⟩)) (.call (.ref f) ⟨.ref Q.U :: vs, kw⟩) (PySem.W.InitBack Q.U R)
     { s with heap := (s.heap.push PySem.W.emptyDict).push (PySem.W.instObj C s.heap.objs.size) }) :
   codeAny (model prog w) A (.call (.ref C) ⟨vs, kw⟩) R s := by
 obtain ⟨hh, g, d, t, os⟩ := s
 exact PySem.W.make_core (PySem.W.makes_of X hm) (PySem.W.looks_findIn X hi) (fun self => PySem.W.bind_fn X self hf) (.inl rfl) h
def qL (f : Str) (v : V) : List (Str × V) -> List (Str × V)
 | [] => [(f, v)]
 | (g, x) :: r => if g = f then (g, v) :: r else (g, x) :: qL f v r
theorem Ft (f g : Str) (v : V) : ∀ fs : List (Str × V), (qL f v fs).lookup g = if g = f then some v else fs.lookup g
 | [] => by
   show List.lookup g [(f, v)] = _
   by_cases h : g = f
   . have hb : (g == f) = true := auJ.mpr h
     simp only [List.lookup, hb, asM h]
   . have hb : (g == f) = false := aus.mpr h
     simp only [List.lookup, hb, asH h]
 | (k, x) :: r => by
   have ih := Ft f g v r
   rw [show qL f v ((k, x) :: r) = (if k = f then (k, v) :: r else (k, x) :: qL f v r) from rfl]
   by_cases hk : k = f
   . rw [asM hk]
     by_cases h : g = k
     . have hb : (g == k) = true := auJ.mpr h
       simp only [List.lookup, hb, asM (h.trans hk)]
     . have hb : (g == k) = false := aus.mpr h
       simp only [List.lookup, hb, asH (fun e : g = f => h (e.trans hk.symm))]
   . rw [asH hk]
     by_cases h : g = k
     . have hb : (g == k) = true := auJ.mpr h
       simp only [List.lookup, hb, asH (fun e : g = f => hk (h.symm.trans e))]
     . have hb : (g == k) = false := aus.mpr h
       simp only [List.lookup, hb]
       exact ih
theorem DL (f : Str) (v : V) : ∀ fs : List (Str × V), f ∈ (qL f v fs).map (·.1) /\ ∀ g, g ∈ fs.map (·.1) -> g ∈ (qL f v fs).map (·.1)
 | [] => ⟨by simp [qL], fun g h => by simp at h⟩
 | (k, x) :: r => by
   obtain ⟨i1, i2⟩ := DL f v r
   rw [show qL f v ((k, x) :: r) = (if k = f then (k, v) :: r else (k, x) :: qL f v r) from rfl]
   by_cases hk : k = f
   . rw [asM hk]
     subst hk
     exact ⟨by simp, fun g h => by simpa using h⟩
   . rw [asH hk]
     refine ⟨?_, fun g h => ?_⟩
     . rw [atg]
       exact asV _ i1
     . rw [atg] at h ⊢
       rcases asX.mp h with e | e
       . exact asX.mpr (.inl e)
       . exact asV _ (i2 g e)
theorem Fv (f : Str) (v : V) : ∀ fs : List (Str × V), (qL f v fs).length <= fs.length + 1
 | [] => by simp [qL]
 | (k, x) :: r => by
   have ih := Fv f v r
   rw [show qL f v ((k, x) :: r) = (if k = f then (k, v) :: r else (k, x) :: qL f v r) from rfl]
   by_cases hk : k = f
   . rw [asM hk, atE, atE]; omega
   . rw [asH hk, atE, atE]; omega
theorem Ho.some_of {v : V} {o : Option Value} (r : Ho (some v) o) : ∃ u, o = some u /\ RelV v u := by
 cases o with
 | none => exact (show False from r).elim
 | some u => exact ⟨u, rfl, r⟩
theorem Xx {v : V} (r : RelV v u) : PySem.W.handedIn u = true := by
 cases v with
 | non => cases (show u = Value.none from r); rfl
 | bl b => cases (show u = Value.bool b from r); rfl
 | int i => obtain ⟨t, e⟩ := (show ∃ t, u = Value.int i t from r); cases e; rfl
 | str x => obtain ⟨t, e⟩ := (show ∃ t, u = Value.str x t from r); cases e; rfl
 | Xk b => obtain ⟨t, e⟩ := (show ∃ t, u = Value.bytes b t from r); cases e; rfl
 | flt b => obtain ⟨t, e⟩ := (show ∃ t, u = Value.float b t from r); cases e; rfl
 | ref a => cases (show u = Value.ref a from r); rfl
 | ty n => cases (show u = Value.type n from r); rfl
variable {a : Addr} {fs : List (Str × V)}
theorem VB (gQ : xH P w H h) (e : H a = some (.ins C dx fs)) : ∃ mA, Xv h a dx C mA /\ (∀ f, Ho (fs.lookup f) (mA f)) /\ PySem.Within mA (fs.map (·.1)) /\ fs.length <= 1000 /\ H dx = some (.own a) := by
 obtain ⟨d, z, ne, ob, mA, n, r, q⟩ := (show iP P w H h a (.ins C dx fs) from gQ a _ e)
 exact ⟨mA, ⟨ob, n, ne⟩, r, q, z, d⟩
structure DM (K : Q.l) (C : Addr) : Prop where
 pg : PySem.W.plainGet K C Str.empty = true
 hd : PySem.W.hasDictIn K C = true
 po : PySem.W.plainOver K C = true
 sa : PySem.W.findIn K (.ref C) "__setattr__" = some (some (.builtin "object.__setattr__"))
theorem DM.get (c : DM K C) (f : Str) : PySem.W.plainGet K C f = true := c.pg
def bQ (K : Q.l) (C : Addr) (f : Str) : Prop := PySem.W.findIn K (.ref C) f = some none
theorem bQ.akW {f : Str} (n : bQ K C f) : PySem.W.takerIn K C f = some none := by
 unfold PySem.W.takerIn
 rw [show PySem.W.findIn K (.ref C) f = some none from n]
 rfl
variable {f : Str} {v : V}
theorem Ru {b : Bool} {Q : Q.v} (I : Q.m) (e : H a = some (.ins C dx fs)) (c : DM X.K C) (n : bQ X.K C f) (l : fs.lookup f = some v)
   (h : ∀ u s', Inv X pins σ H s' -> RelV v u -> Q u s') : wpAny Q.k A (getAttr (.ref a) f b) Q E s := by
 obtain ⟨mA, O, r, _, _, _⟩ := VB I.gQ e
 obtain ⟨u, hu, ru⟩ := Ho.some_of (v := v) (o := mA f) (by rw [← l]; exact r f)
 exact get_map I.JS O (c.get f) c.hd n hu (Xx ru) (h u _ (I.tok _) ru)
theorem Rw {y : V} (I : Q.m) (e : H a = some (.ins C dx fs)) (c : DM X.K C) (n : bQ X.K C f) (hl : fs.length < 1000) (ry : RelV y u)
   (h : ∀ s', Inv X pins σ (upd H a (.ins C dx (qL f y fs))) s' -> Q () s') : wpAny Q.k A (setAttr (.ref a) f u) Q E s := by
 obtain ⟨mA, O, r, wi, _, ho⟩ := VB I.gQ e
 have hz : (fs.map (·.1)).length <= sizeLine := by rw [asG, atP]; omega
 refine adC I.JS O c.sa c.po n.akW c.hd wi hz fun h' O' sb => h _ ?_
 have hd : ∃ o, h'.get? dx = some o := let ⟨o, _, _, e', _⟩ := O'.ns; ⟨o, e'⟩
 refine I.write (x := a) (e := dx) (by rw [e]; exact True.intro) (.inr ho) (fun b q hb z => (sb.2 b hb).trans z) hd ?_
 refine ⟨by rw [aP O.ne]; exact ho, ?_, O.ne, O'.obj, _, O'.ns, fun g => ?_, fun g hg => ?_⟩
 . have := Fv f y fs; omega
 . show Ho ((qL f y fs).lookup g) (if g = f then some u else mA g)
   rw [Ft]
   by_cases q : g = f
   . rw [asM q, asM q]; exact ry
   . rw [asH q, asH q]; exact r g
 . by_cases q : g = f
   . rw [q]; exact (DL f y fs).1
   . refine (DL f y fs).2 g (wi g fun z => hg ?_)
     show (if g = f then some u else mA g) = none
     rw [asH q]; exact z
theorem Inv.made (I : Q.m) : Inv X pins σ (upd (upd H s.heap.objs.size (.own Q.U)) Q.U (.ins C s.heap.objs.size []))
   { s with heap := (s.heap.push PySem.W.emptyDict).push (PySem.W.instObj C s.heap.objs.size) } := by
 have e1 : (s.heap.push PySem.W.emptyDict).get? s.heap.objs.size = some PySem.W.emptyDict := atz s.heap rfl
 have e2 : ((s.heap.push PySem.W.emptyDict).push (PySem.W.instObj C s.heap.objs.size)).get? Q.U = some (PySem.W.instObj C s.heap.objs.size) := by
   have := atz (s.heap.push PySem.W.emptyDict) (o := PySem.W.instObj C s.heap.objs.size) rfl
   rwa [Heap.size_push] at this
 have e3 : (s.heap.push PySem.W.emptyDict).Ns s.heap.objs.size (fun _ => none) := ⟨PySem.W.emptyDict, #[], _, e1, rfl, (fun e he => absurd he Q.r), fun _ => rfl⟩
 have I1 := I.laid (a := s.heap.objs.size) (o := .own Q.U) (h' := s.heap.push PySem.W.emptyDict) (t' := s.toks) (fun b u q => as6 _ q) (as3 _) ⟨_, e1⟩
 refine I1.laid (a := s.heap.objs.size + 1) (o := .ins C s.heap.objs.size []) (t' := s.toks) (fun b u q => as6 _ q) (Nat.le_of_eq (Heap.size_push _ _)) ?_
 have ne : s.heap.objs.size ≠ s.heap.objs.size + 1 := aty (auK _)
 refine ⟨by rw [aP ne, bR], ata _, ne, e2, fun _ => none, (Heap.Ns1.of_empty e3).at fun o q => as6 _ q, fun _ => True.intro, fun y hy => absurd rfl hy⟩
theorem adD {env : Env} {e : Expr} {Q : Q.v} (hb : attributeBase e f env (eval e env) = eval e env)
   (h : wpAny (model prog w) A (eval e env) (fun o s₁ => wpAny (model prog w) A (getAttr o f true) Q E s₁) E s) : wpAny (model prog w) A (eval (.Attribute e f pos) env) Q E s :=
 Attribute_any_ h (by rw [arm_eval_Attribute, hb])
def anU (K : Q.l) (ta : TE) (f : Str) : TE := fun σ H Q => ta σ H fun x H1 => ∃ a C dx fs v, x = .ref a /\ H1 a = some (.ins C dx fs) /\ DM K C /\ bQ K C f /\ fs.lookup f = some v /\ Q v H1
def anV (K : Q.l) (ta tv : TE) (f : Str) : TS := fun D σ H => tv σ H fun y H1 => ta σ H1 fun x H2 => ∃ a C dx fs, x = .ref a /\ H2 a = some (.ins C dx fs) /\ DM K C /\ bQ K C f /\ fs.length < 1000 ∧
 D.nx σ (upd H2 a (.ins C dx (qL f y fs)))
variable {o e value : Expr} {pos' : Pos} {tv : TE}
theorem aaq (he : PE X e ta) (hb : attributeBase e f X.env (eval e X.env) = eval e X.env) : PE X (.Attribute e f pos) (anU X.K ta f) := by
 intro pins s σ H Q I h
 refine adD hb (gK (he pins s σ H _ I h) fun u s1 zz => ?_)
 obtain ⟨x, H1, I1, rx, a, C, dx, fs, v, ex, ea, c, n, l, q⟩ := zz
 subst ex
 obtain rfl : u = Value.ref a := rx
 exact Ru I1 ea c n l fun u' s2 I2 ru => ⟨v, H1, I2, ru, q⟩
theorem ahH (ha : PE X o ta) (hv : PE X value tv) (hs : swapsWith value (some (.Attribute o f pos')) pos.line X.env = pure false) : PS X (.Assign [.Attribute o f pos'] value pos) (anV X.K ta tv f) := by
 intro pins s σ H D I h
 refine plainObj_wpAny_Assign_Attribute (gK (hv pins s σ H _ I h) fun u s1 ⟨y, H1, I1, ry, q⟩ => gK (ha pins s1 σ H1 _ I1 q) fun ov s2 zz => ?_) hs
 obtain ⟨x, H2, I2, rx, a, C, dx, fs, ex, ea, c, n, l, q2⟩ := zz
 subst ex
 obtain rfl : ov = Value.ref a := rx
 exact Rw I2 ea c n l ry fun s3 I3 => ⟨σ, _, I3, q2⟩
structure jD (k : Nat) (A : Around) : Prop where
 hd : A.handled = none
 dp : A.depth + 3 * k + 5 < recursionLimit
 un : A.units + 16 * k + 200 < cLine
theorem jD.mono {j : Nat} (r : jD k A) (h : j <= k) : jD j A := ⟨r.hd, by have := r.dp; omega, by have := r.un; omega⟩
theorem jD.deeper (r : jD (k + 1) A) (env : Env) : jD k (A.deeper env) :=
 ⟨r.hd, by have := r.dp; show A.depth + 1 + 3 * k + 5 < _; omega, by have := r.un; show A.units + 3 + 16 * k + 200 < _; omega⟩
theorem Rx {kw : List (Str × Value)} : (A.under (.builtin "type.__call__" ⟨.ref C :: us, kw⟩)).depth = A.depth + 1 := by
 first | rfl | simp [Around.under, Code.weight, Code.isCreation, Code.isGuard, Code.isCaller, Code.frames, Code.isFrame, guardIds]
theorem Ry {kw : List (Str × Value)} : (A.under (.builtin "type.__call__" ⟨.ref C :: us, kw⟩)).units = A.units + 1 := by
 first | rfl | simp [Around.under, Code.cUnits, Code.frames, Code.isFrame]
theorem jD.make (r : jD (k + 1) A) (C : Addr) (us : Q.q) (kw : List (Str × Value)) : jD k (A.under (.builtin "type.__call__" ⟨.ref C :: us, kw⟩)) :=
 ⟨r.hd, by have := r.dp; rw [Rx]; omega, by have := r.un; rw [Ry]; omega⟩
theorem jD.depth (r : jD k A) : A.depth < recursionLimit := by have := r.dp; omega
theorem jD.units (r : jD k A) : A.units + 64 < cLine := by have := r.un; omega
def akX : TA := fun _ H Q => Q [] H
def akY (ta : TE) (tr : TA) : TA := fun σ H Q => ta σ H fun x H1 => tr σ H1 fun xs H2 => Q (x :: xs) H2
variable {t : TA}
theorem iy : PA X [] akX := fun _ _ _ _ H Q I h => Calls.spliced_nil ⟨[], H, I, .nil, h⟩
theorem dh (ha : PE X e te) (hr : PA X es t) (hs : Q.O := by rfl) : PA X (e :: es) (akY te t) := by
 intro pos pins s σ H Q I h
 rw [hs]
 show wpAny _ _ (spliced ((false, eval e X.env) :: backTo pos (starEach es X.env))) _ _ s
 refine Calls.spliced_cons (gK (ha pins s σ H _ I h) fun u s1 zz => ?_)
 obtain ⟨x, H1, I1, r1, q1⟩ := zz
 exact gK (hr pos pins s1 σ H1 _ I1 q1) fun us s2 ⟨xs, H2, I2, r2, q2⟩ => ⟨x :: xs, H2, I2, .cons r1 r2, q2⟩
def anW (t : TA) : TE := fun σ H Q => t σ H fun xs H1 => xs.length <= sizeLine /\ ∀ p, H1 p = none -> Q (.ref p) (upd H1 p (.tup xs))
def anY (t : TA) : TE := fun σ H Q => t σ H fun xs H1 => xs.length <= sizeLine /\ ∀ p, H1 p = none -> Q (.ref p) (upd H1 p (.lst xs))
theorem ahI {x1} (h : PA X es t) : PE X (.Tuple es x1 pos) (anW t) := by
 intro pins s σ H Q I hq
 refine wpAny_Tuple_spliced (gK (h pos pins s σ H _ I hq) fun us s1 ⟨xs, H1, I1, r, z, q⟩ => ⟨by rw [← r.length]; exact z, ?_⟩)
 have hf : H1 s1.heap.objs.size = none := I1.gQ.fresh (as3 _)
 refine ⟨.ref s1.heap.objs.size, upd H1 s1.heap.objs.size (.tup xs), I1.laid (t' := s1.toks) (fun b u e => as6 _ e) (as3 _) ?_, rfl, q _ hf⟩
 exact ⟨z, us, r, ⟨_, atz _ rfl, rfl, _, rfl⟩⟩
theorem ahJ (h : PA X es t) : PE X (.List es pos) (anY t) := by
 intro pins s σ H Q I hq
 refine wpAny_List_spliced (gK (h pos pins s σ H _ I hq) fun us s1 ⟨xs, H1, I1, r, z, q⟩ => ⟨by rw [← r.length]; exact z, ?_⟩)
 have hf : H1 s1.heap.objs.size = none := I1.gQ.fresh (as3 _)
 refine ⟨.ref s1.heap.objs.size, upd H1 s1.heap.objs.size (.lst xs), I1.laid (t' := s1.toks) (fun b u e => as6 _ e) (as3 _) ?_, rfl, q _ hf⟩
 exact ⟨z, us, 0, r, atz _ rfl⟩
abbrev Sp := List V -> Hp -> VK -> XK -> Prop
abbrev ZQ := List Env -> Hp -> Shared -> XK -> Value -> Shared -> Prop
structure Rz (P : Program) (w : World) (K : Q.l) (mg : Q.A) (base : Heap) (A : Around) (outer : List Env) (s : Shared) (H : Hp) : Prop where
 frames : A.frames = some outer
 mod : Mod K mg base
 bs : ∀ b o, base.get? b = some o -> s.heap.get? b = some o /\ H b = none
 Z9 : base.objs.size <= s.heap.objs.size
 zg : s.heap.FunFrames base outer
 frf : ∀ b ∈ vV outer, H b = none
 gQ : xH P w H s.heap
 bare : AllBare s.gens
def CE (outer : List Env) (P : Program) (w : World) (H : Hp) (s : Shared) (Q : VK) (u : Value) (s' : Shared) : Prop :=
 ∃ v H', s'.os = s.os /\ AllBare s'.gens /\ Un (vV outer) [] H H' s.heap s'.heap /\ xH P w H' s'.heap /\ RelV v u /\ Q v H'
def CR (CX : ZQ) (outer : List Env) (P : Program) (w : World) (H : Hp) (s : Shared) (Q : VK) (E : XK) (r : Result) (s' : Shared) : Prop :=
 match r with
 | .ok (.ret u) => CE outer P w H s Q u s'
 | .ok _ => False
 | .error e => CX outer H s E e s'
structure ic (P : Program) (w : World) (K : Q.l) (mg : Q.A) (base : Heap) (CX : ZQ) (k : Nat) (f : Addr) (fd : FuncData) (ps : Q.h) (sp : Sp) : Prop where
 len : ∀ vs H Q E, sp vs H Q E -> vs.length = ps.length
 run : ∀ (A : Around) (outer : List Env) (s : Shared) (H : Hp) (args : Args) (us : Q.q) (vs : List V) (Q : VK) (E : XK), jD k A -> Rz P w K mg base A outer s H -> BindsTo s fd args (ps.zip us) -> Vals vs us -> sp vs H Q E →
   codeAny (model P w) A (.call (.ref f) args) (CR CX outer P w H s Q E) s
variable {mg : Q.A} {base : Heap} {CX : ZQ} {ps : Q.h}
theorem ic.imp {f : Addr} {fd : FuncData} {sp sp' : Sp} (F : ic P w K mg base CX k f fd ps sp)
   (h : ∀ vs H Q E, sp' vs H Q E -> sp vs H Q E) : ic P w K mg base CX k f fd ps sp' :=
 ⟨fun vs H Q E q => F.len vs H Q E (h _ _ _ _ q), fun A outer s H args us vs Q E hr he hb hv hs => F.run A outer s H args us vs Q E hr he hb hv (h _ _ _ _ hs)⟩
theorem Rz.make {outer : List Env} (e : Rz P w K mg base A outer s H) (C : Addr) (us : Q.q) (kw : List (Str × Value)) :
   Rz P w K mg base (A.under (.builtin "type.__call__" ⟨.ref C :: us, kw⟩)) outer s H := ⟨by first | exact e.frames | (simpa [Around.under, Code.envs, Code.isFrame, pushEnvs] using e.frames), e.mod, e.bs, e.Z9, e.zg, e.frf, e.gQ, e.bare⟩
variable {s' : Shared}
theorem Inv.ahL (I : Q.m) : Rz X.prog X.w X.K X.mg X.base X.A X.stack s H :=
 ⟨I.ok.frames, I.ok.mod, I.bs, asS I.ok.Z9 I.sz, I.stack, I.K5, I.gQ, I.bare⟩
theorem Inv.after {Q : VK} (I : Q.m) (h : CE X.stack X.prog X.w H s Q u s') : EP X pins σ Q u s' := by
 obtain ⟨v, H', os, bare, un, gQ, r, q⟩ := h
 obtain ⟨hh, g, d, t, os'⟩ := s'
 obtain rfl : os' = s.os := os
 exact ⟨v, H', I.call (h' := hh) (g' := g) (d' := d) (t' := t) (ch := []) un gQ bare (fun b z => absurd z Q.r), r, q⟩
def agA (sp : Sp) (OG : List V) (E : XK) (t : TA) : TE := fun σ H Q => t σ H fun vs H1 => sp (vs ++ OG) H1 Q E
def akZ (C : Addr) (sp : Sp) (OG : List V) (E : XK) (t : TA) : TE := fun σ H Q => t σ H fun vs H1 => ∀ x dx, H1 x = none -> H1 dx = none -> dx ≠ x →
 sp (.ref x :: (vs ++ OG)) (upd (upd H1 dx (.own x)) x (.ins C dx [])) (fun v H2 => v = .non /\ Q (.ref x) H2) E
def Binds (K : Q.l) (fd : FuncData) (ps : Q.h) (ds : Q.q) : Prop :=
 ∀ (s : Shared) (us : Q.q), K.In s.heap -> (us ++ ds).length = ps.length -> BindsTo s fd ⟨us, []⟩ (ps.zip (us ++ ds))
theorem Binds.all {fd : FuncData} (h : ∀ us : List Value, us.length = ps.length -> bindArgs fd ⟨us, []⟩ = pure (ps.zip us)) : Binds K fd ps [] := fun s us _ hl => by
 rw [atw] at hl ⊢
 exact .of_eq (h us hl)
def Passes (CX : ZQ) (X : Cx) (E : XK) : Prop := ∀ (pins : Q.o) (σ : St) (H : Hp) (s : Shared) (e : Value) (s' : Shared), Inv X pins σ H s -> CX X.stack H s E e s' -> X.xe e s'
section
variable {f : Addr} {fd : FuncData} {sp : Sp} {OG : List V} {ds : Q.q} {E : XK} {x : Str}
theorem aar {Q : VK} {vs : List V} (F : ic X.prog X.w X.K X.mg X.base CX k f fd ps sp) (hr : jD k X.A) (hb : Binds X.K fd ps ds) (hd : Vals OG ds) (hx : Passes CX X E)
   (I : Q.m) (r : Vals vs us) (h : sp (vs ++ OG) H Q E) : wpAny Q.k X.A (call (.ref f) us) (EP X pins σ Q) X.xe s := by
 have r2 : Vals (vs ++ OG) (us ++ ds) := r.append hd
 have hl : (us ++ ds).length = ps.length := by rw [← r2.length]; exact F.len _ _ _ _ h
 refine wpAny_call (auE (F.run X.A X.stack s H ⟨us, []⟩ (us ++ ds) (vs ++ OG) Q E hr I.ahL (hb s us I.JS hl) r2 h) fun r s' hq => ?_)
 cases r with
 | error e => exact hx pins σ H s e s' I hq
 | ok fl =>
   cases fl with
   | ret u => exact I.after hq
   | next => exact False.elim hq
   | brk => exact False.elim hq
   | cont => exact False.elim hq
theorem VC (F : ic X.prog X.w X.K X.mg X.base CX k f fd ps sp) (hr : jD k X.A) (hg : Gl X x) (hm : X.mg x = some (.ref f)) (hk : PySem.W.keepIn X.K (.ref f) = true) (hb : Binds X.K fd ps ds) (hd : Vals OG ds) (hx : Passes CX X E)
   (ha : PA X (e :: es) t) (Bh : Q.s := by decide) (he : Q.O := by rfl) (hpl : Q.W := by rfl) :
   PE X (.Call (.Name x p) (e :: es) [] pos) (agA sp OG E t) := by
 intro pins s σ H Q I h
 refine auh (rH I hg hm ?_ Bh)
 refine PySem.W.callWith_K (h₀ := X.base) I.ok.mod.Z8 hk (gK (ha pos pins s σ H _ I h) fun us s1 ⟨vs, H1, I1, r, q⟩ => ⟨I1.JS, ?_⟩) he hpl
 exact aar F hr hb hd hx I1 r q
theorem aas (F : ic X.prog X.w X.K X.mg X.base CX k f fd ps sp) (hr : jD k X.A) (hg : Gl X x) (hm : X.mg x = some (.ref f)) (hk : PySem.W.keepIn X.K (.ref f) = true) (hb : Binds X.K fd ps ds) (hd : Vals OG ds) (hx : Passes CX X E)
   (Bh : Q.s := by decide) : PE X (.Call (.Name x p) [] [] pos) (agA sp OG E akX) := by
 intro pins s σ H Q I h
 refine auh (rH I hg hm ?_ Bh)
 exact PySem.W.callWith_K0 I.JS hk (aar (us := []) F hr hb hd hx I .nil h)
structure Mk (K : Q.l) (C f : Addr) : Prop where
 makes : PySem.W.makesIn K C = true
 init : PySem.W.findIn K (.ref C) "__init__" = some (some (.ref f))
 fn : PySem.W.isFn K (.ref f) = true
 kp : PySem.W.keepIn K (.ref C) = true
theorem aat {Q : VK} {vs : List V} (M : Mk X.K C f) (F : ic X.prog X.w X.K X.mg X.base CX k f fd ps sp) (hr : jD (k + 1) X.A) (hb : Binds X.K fd ps ds) (hd : Vals OG ds)
   (hx : Passes CX X E) (I : Q.m) (r : Vals vs us)
   (h : ∀ x dx, H x = none -> H dx = none -> dx ≠ x -> sp (.ref x :: (vs ++ OG)) (upd (upd H dx (.own x)) x (.ins C dx [])) (fun v H2 => v = .non /\ Q (.ref x) H2) E) :
   wpAny Q.k X.A (call (.ref C) us) (EP X pins σ Q) X.xe s := by
 have hq := h Q.U s.heap.objs.size (I.gQ.fresh (Nat.le_succ _)) (I.gQ.fresh (as3 _)) (aty (auK _))
 have I2 := Inv.made (C := C) I
 have r2 : Vals (V.ref Q.U :: (vs ++ OG)) (Value.ref Q.U :: (us ++ ds)) := .cons rfl (r.append hd)
 have hl : (Value.ref Q.U :: us ++ ds).length = ps.length := by
   have e := r2.length
   rw [F.len _ _ _ _ hq] at e
   exact e.symm
 refine wpAny_call (aap (f := f) I.JS M.makes M.init (auJ.mp M.fn) (auE (F.run _ X.stack _ _ ⟨Value.ref Q.U :: us, []⟩ (Value.ref Q.U :: (us ++ ds)) _ _ E (hr.make C us [])
   (I2.ahL.make C us []) (hb _ (Value.ref Q.U :: us) I2.JS hl) r2 hq) fun r s' hq' => ?_))
 cases r with
 | error e => exact hx pins σ _ _ e s' I2 hq'
 | ok fl =>
   cases fl with
   | ret u =>
     obtain ⟨v, H', I3, rv, ev, q3⟩ := I2.after hq'
     subst ev
     exact ⟨rv, ⟨V.ref Q.U, H', I3, rfl, q3⟩⟩
   | next => exact False.elim hq'
   | brk => exact False.elim hq'
   | cont => exact False.elim hq'
theorem VD (M : Mk X.K C f) (F : ic X.prog X.w X.K X.mg X.base CX k f fd ps sp) (hr : jD (k + 1) X.A) (hg : Gl X x) (hm : X.mg x = some (.ref C)) (hb : Binds X.K fd ps ds) (hd : Vals OG ds) (hx : Passes CX X E)
   (ha : PA X (e :: es) t) (Bh : Q.s := by decide) (he : Q.O := by rfl) (hpl : Q.W := by rfl) :
   PE X (.Call (.Name x p) (e :: es) [] pos) (akZ C sp OG E t) := by
 intro pins s σ H Q I h
 refine auh (rH I hg hm ?_ Bh)
 refine PySem.W.callWith_K (h₀ := X.base) I.ok.mod.Z8 M.kp (gK (ha pos pins s σ H _ I h) fun us s1 ⟨vs, H1, I1, r, q⟩ => ⟨I1.JS, ?_⟩) he hpl
 exact aat M F hr hb hd hx I1 r q
end
structure aY (N P : Q.h) (sc : Scope) : Prop where
 kind : sc.kind = .function
 co : sc.isCoroutine = false
 gen : sc.isGenerator = false
 nd : N.Nodup
 pre : N.take P.length = P
 par : ∀ x ∈ P, sc.names.lookup x = some .local \/ sc.names.lookup x = some .cell
 ahM : ∀ y ∈ sc.names, y.2 ≠ .free
theorem Kg {kindOf : Str -> Option NameKind} {x : Str} : ∀ {binds : List (Str × Value)} {m : Q.A}, (∀ v, (x, v) ∉ binds) -> bindL kindOf binds m x = m x
 | [], _, _ => rfl
 | (n, v) :: r, m, h => by
   unfold bindL
   rw [Kg fun w hw => h w (asV _ hw)]
   split
   . have : x ≠ n := by rintro rfl; exact h v asT
     simp [this]
   . rfl
theorem Kh {kindOf : Str -> Option NameKind} {x : Str} : ∀ {binds : List (Str × Value)} {m : Q.A}, (∀ v, (x, v) ∉ binds) -> bindC kindOf binds m x = m x
 | [], _, _ => rfl
 | (n, v) :: r, m, h => by
   unfold bindC
   rw [Kh fun w hw => h w (asV _ hw)]
   split
   . rfl
   . have : x ≠ n := by rintro rfl; exact h v asT
     simp [this]
theorem Kl {kindOf : Str -> Option NameKind} {x : Str} {v : Value} : ∀ {P : Q.h} {vs : Q.q} {i : Nat} {m : Q.A}, P.Nodup -> P[i]? = some x -> vs[i]? = some v -> kindOf x = some .local →
   bindL kindOf (P.zip vs) m x = some v
 | [], _, _, _, _, h, _, _ => by simp at h
 | _ :: _, [], _, _, _, _, h, _ => by simp at h
 | p :: P, w :: vs, 0, m, nd, h1, h2, hk => by
   simp at h1 h2; subst h1; subst h2
   show bindL kindOf ((p, w) :: P.zip vs) m p = _
   unfold bindL
   rw [Kg fun v hv => (atL.mp nd).1 (List.of_mem_zip hv).1, asM hk]
   simp
 | p :: P, w :: vs, i + 1, m, nd, h1, h2, hk => by
   show bindL kindOf ((p, w) :: P.zip vs) m x = _
   unfold bindL
   exact Kl (i := i) (List.nodup_cons.mp nd).2 (by simpa using h1) (by simpa using h2) hk
theorem Km {kindOf : Str -> Option NameKind} {x : Str} {v : Value} : ∀ {P : Q.h} {vs : Q.q} {i : Nat} {m : Q.A}, P.Nodup -> P[i]? = some x -> vs[i]? = some v -> kindOf x ≠ some .local →
   bindC kindOf (P.zip vs) m x = some v
 | [], _, _, _, _, h, _, _ => by simp at h
 | _ :: _, [], _, _, _, _, h, _ => by simp at h
 | p :: P, w :: vs, 0, m, nd, h1, h2, hk => by
   simp at h1 h2; subst h1; subst h2
   show bindC kindOf ((p, w) :: P.zip vs) m p = _
   unfold bindC
   rw [Kh fun v hv => (atL.mp nd).1 (List.of_mem_zip hv).1, asH hk]
   simp
 | p :: P, w :: vs, i + 1, m, nd, h1, h2, hk => by
   show bindC kindOf ((p, w) :: P.zip vs) m x = _
   unfold bindC
   exact Km (i := i) (List.nodup_cons.mp nd).2 (by simpa using h1) (by simpa using h2) hk
def start (N : Q.h) (vs : List V) : St := vs.map some ++ List.replicate (N.length - vs.length) none
def DN (CX : ZQ) (P : Program) (w : World) (K : Q.l) (mg : Q.A) (base : Heap) (N : Q.h) (qual : Str) (scope : Scope) (f : Addr) (cd : Value) (A : Around) (outer : List Env) (s : Shared) (H : Hp) (E : XK) : Cx where
 prog := P
 w := w
 K := K
 mg := mg
 base := base
 A := A.deeper (envOfC qual scope s.heap.objs.size f cd)
 N := N
 s₀ := s
 H₀ := H
 env := envOfC qual scope s.heap.objs.size f cd
 outer := outer
 stack := envOfC qual scope s.heap.objs.size f cd :: outer
 ex := []
 calm := true
 fn := fun _ => true
 pn := []
 xe := fun e s' => wpAny (model P w) (A.deeper (envOfC qual scope s.heap.objs.size f cd)) (leaving (envOfC qual scope s.heap.objs.size f cd) e) (fun _ s'' => CX outer H s E e s'') (fun e' s'' => CX outer H s E e' s'') s'
theorem OI {sc : Scope} {n : Nat} {x : Str} (h : sc.names.lookup x = some .cell) : ∃ c, (cellsFrom n sc.names []).lookup x = some c := by
 have q := PySem.W.cellsFrom_some sc.names n [] (.inl h)
 exact Option.isSome_iff_exists.mp q
theorem Xy {N : Q.h} {qual : Str} {scope : Scope} {f : Addr} {cd : Value} {outer : List Env} {s1 : Shared} {E : XK} {vs : List V}
   (S : aY N ps scope) (hd : A.handled = none) (e0 : Rz P w K mg base A outer s H) (hl : vs.length = ps.length) (r : Vals vs us)
   (x : InCallC s s.heap.objs.size (bindL (envOfC qual scope s.heap.objs.size f cd).kindOf (ps.zip us) fun _ => none) (cellsFrom Q.U scope.names []) (bindC (envOfC qual scope s.heap.objs.size f cd).kindOf (ps.zip us) fun _ => none) s1) :
   Inv (DN CX P w K mg base N qual scope f cd A outer s H E) [] (start N vs) H s1 := by
 have hpl : ps.length <= N.length := by have := congrArg List.length S.pre; rw [atF] at this; omega
 obtain ⟨h1, tk, rfl, hk⟩ := x.done
 have noA : ∀ b : Addr, b ∉ (DN CX P w K mg base N qual scope f cd A outer s H E).ex := fun b z => absurd (show b ∈ ([] : List Addr) from z) Q.r
 refine ⟨⟨e0.mod, S.kind, rfl, rfl, as3 _, fun y z c h1 h2 => ?_, fun y hy => ?_, fun y c _ h => ?_, fun _ => hd, Around.frames_deeper e0.frames, .inr ⟨rfl, rfl⟩, fun b z => absurd z (noA b), e0.bs, e0.Z9, fun b _ _ => noA b, fun b z => absurd z (noA b), e0.zg, e0.frf⟩,
   rfl, e0.bare, Un.kept hk, ⟨_, x.toInCall.ns, fun i y v h1 h2 h3 => ?_⟩, fun y c h => ⟨_, x.cell y c h⟩, e0.gQ.fresh (as3 _), fun y c h => ?_, fun p hp => absurd (show p ∈ ([] : List (Addr × Obj)) from hp) Q.r, e0.gQ.kept hk, ?_⟩
 . exact name_of_addr x.apart (at3 h1) (at3 h2)
 . have hy : scope.names.lookup y = some .cell \/ scope.names.lookup y = some .free := hy
   rcases hy with hy | hy
   . exact OI hy
   . exact absurd rfl (S.ahM _ (at3 hy))
 . exact atJ (x.above y c (at3 h))
 . have hi : i < vs.length := by
     unfold start at h2
     by_cases hi : i < vs.length
     . exact hi
     . rw [List.getElem?_append_right (by simpa using hi)] at h2
       rw [List.getElem?_replicate] at h2
       split at h2 <;> cases h2
   have ha : vs[i]? = some v := by
     unfold start at h2
     rw [List.getElem?_append_left (by simpa using hi), List.getElem?_map] at h2
     cases e : vs[i]? with
     | none => rw [e] at h2; cases h2
     | some a => rw [e] at h2; cases h2; rfl
   obtain ⟨u, hu, rv⟩ := r.get ha
   have hp : ps[i]? = some y := by
     rw [← S.pre, List.getElem?_take_of_lt Q.a]; exact h1
   have ndP : ps.Nodup := by rw [← S.pre]; exact S.nd.sublist (List.take_sublist _ _)
   refine ⟨u, rv, ?_⟩
   rcases S.par y (atB hp) with k | k
   . exact .inl ⟨k, Kl ndP hp hu k⟩
   . obtain ⟨c, e⟩ := OI (n := s.heap.objs.size + 1) k
     refine .inr ⟨.inl k, c, e, ?_⟩
     have q := x.cell y c e
     rw [Km ndP hp hu (by show scope.names.lookup y ≠ _; rw [k]; decide)] at q
     exact q
 . exact e0.gQ.fresh (atJ (x.above y c (at3 h)))
 . unfold start
   show _ = N.length
   rw [as5, asG, at9]
   omega
theorem agB {f : Addr} {qual : Str} {params : Arguments} {body : List Stmt} {scope : Scope} {dV kV doc pm lu ct oc : Value} {an od : Option Addr}
   {osl : Array (Option Value)} {N : Q.h} {sp : Sp} (lk : K.lookup f = some ⟨oc, od, .func (PySem.W.fnOf name qual params body scope dV kV doc pm an lu ct), osl⟩) (rE : PySem.W.codeIn K lu qual = true) (S : aY N ps scope)
   (len : ∀ vs H Q E, sp vs H Q E -> vs.length = ps.length)
   (aau : ∀ (A : Around) (outer : List Env) (s : Shared) (H : Hp) (vs : List V) (Q : VK) (E : XK), jD k (A.deeper (envOfC qual scope s.heap.objs.size f lu)) -> sp vs H Q E →
     ∃ t, Vv (DN CX P w K mg base N qual scope f lu A outer s H E) body t /\ t { nx := fun _ H' => Q .non H', rt := Q } (start N vs) H) :
   ic P w K mg base CX (k + 1) f (PySem.W.fnOf name qual params body scope dV kV doc pm an lu ct) ps sp := by
 refine ⟨len, fun A outer s H args us vs Q E hr e0 hb r JT => ?_⟩
 have hl := len _ _ _ _ JT
 have KX : K.In s.heap := e0.mod.Z8.keeps fun b o e => (e0.bs b o e).1
 have lim : s.heap.NoLimit := e0.mod.nolimit.keeps fun b o e => (e0.bs b o e).1
 have VF : ∀ y ∈ ps.zip us, scope.names.lookup y.1 = some .local \/ (scope.names.lookup y.1 = some .cell /\ ((cellsFrom Q.U scope.names []).lookup y.1).isSome = true) := fun ⟨n, v⟩ hy => by
   rcases S.par n (List.of_mem_zip hy).1 with q | q
   . exact .inl q
   . exact .inr ⟨q, PySem.W.cellsFrom_some _ _ _ (.inl q)⟩
 refine codeAny_call_function hr.depth (KX _ _ lk) rfl S.co S.gen rfl (PySem.W.codeRec_of KX rE) (hb _ _ _ _ ?_)
 refine wpAny_newFunctionEnv_cells S.kind VF fun env he s1 x => ?_
 subst he
 refine ⟨lim.keeps x.toInCall.keep, codeAny_func ?_⟩
 obtain ⟨t, ht, hq⟩ := aau A outer s H vs Q E (hr.deeper _) JT
 have I : Inv (DN CX P w K mg base N qual scope f lu A outer s H E) [] (start N vs) H s1 := Xy S hr.hd e0 hl r x
 refine atN (ht [] s1 (start N vs) H _ I hq) (fun fl s' hs => ?_) fun e s' hs => hs
 have fin : ∀ {σ' : St} {H' : Hp} {v : V} {u : Value}, Inv (DN CX P w K mg base N qual scope f lu A outer s H E) [] σ' H' s' -> RelV v u -> Q v H' -> CE outer P w H s Q u s' :=
   fun {σ' H' v u} J rv q => ⟨v, H', J.os, J.bare, J.base, J.gQ, rv, q⟩
 cases fl with
 | ret u =>
   obtain ⟨v, σ', H', J, rv, q⟩ := hs
   exact fin J rv q
 | next =>
   obtain ⟨σ', H', J, q⟩ := hs
   exact fin (v := V.non) (u := Value.none) J rfl q
 | brk =>
   obtain ⟨_, _, _, q⟩ := hs
   exact False.elim q
 | cont =>
   obtain ⟨_, _, _, q⟩ := hs
   exact False.elim q
section
variable {x : Str} {id T : String} {r : List V -> Hp -> VK -> Prop}
def tCB (r : List V -> Hp -> VK -> Prop) (t : TA) : TE := fun σ H Q => t σ H fun vs H1 => r vs H1 Q
theorem vY (hc : vq X (.builtin id) r) (hg : Gl X x) (hm : X.mg x = none) (hv : bootBuiltins x = some (.builtin id)) (ha : PA X (e :: es) t) (hn : x ≠ "__name__" := by decide) (Bh : Q.s := by decide)
   (he : Q.O := by rfl) (hpl : Q.W := by rfl) : PE X (.Call (.Name x p) (e :: es) [] pos) (tCB r t) := by
 intro pins s σ H Q I h
 refine auh (DJ I hg hm hv ?_ hn Bh)
 exact PyProof.Rows.callWith_builtin1 (gK (ha pos pins s σ H _ I h) fun us s1 ⟨vs, H1, I1, r1, q1⟩ => hc pins s1 σ H1 vs us Q I1 r1 q1) he hpl
theorem qC (hc : vq X (.type T) r) (hg : Gl X x) (hm : X.mg x = none) (hv : bootBuiltins x = some (.type T)) (ha : PA X (e :: es) t) (hn : x ≠ "__name__" := by decide) (Bh : Q.s := by decide)
   (he : Q.O := by rfl) (hpl : Q.W := by rfl) : PE X (.Call (.Name x p) (e :: es) [] pos) (tCB r t) := by
 intro pins s σ H Q I h
 refine auh (DJ I hg hm hv ?_ hn Bh)
 exact auf (gK (ha pos pins s σ H _ I h) fun us s1 ⟨vs, H1, I1, r1, q1⟩ => hc pins s1 σ H1 vs us Q I1 r1 q1) he hpl
end
end L2
namespace HT
open PySem PyProof.Rows
def DP (n d : Nat) : Option Int -> Nat
 | none => d
 | some v => if v < 0 then (v + (n : Int)).toNat else min v.toNat n
end HT
namespace L2
open PySem PySem.Spec PyProof.Rows
abbrev TO := St -> Hp -> (Option Int -> Hp -> Prop) -> Prop
def PO (X : Cx) (e : Option Expr) (t : TO) : Prop :=
 ∀ (pins : Q.o) (s : Shared) (σ : St) (H : Hp) (Q : Option Int -> Hp -> Prop), Inv X pins σ H s -> t σ H Q →
   wpAny Q.k X.A (evalPart e X.env) (fun u s' => ∃ o H', Inv X pins σ H' s' /\ IsPart u o /\ Q o H') X.xe s
def adE : TO := fun _ H Q => Q none H
def ak3 (t : TE) : TO := fun σ H Q => t σ H fun x H1 => ∃ i, x = .int i /\ Q (some i) H1
theorem intsAre_of {ns : Q.e} : ∀ {us : Q.q}, Vals (ns.map V.int) us -> IntsAre us ns := by
 induction ns with
 | nil => intro us r; rw [List.map_nil] at r; cases r; exact .nil
 | cons n ns ih =>
   intro us r
   rw [atg] at r
   cases r with
   | cons r1 r2 =>
     obtain ⟨t, e⟩ := r1
     subst e
     exact .cons n t (ih r2)
variable {X : Cx} {e : Expr} {te : TE} {lo hi : Option Expr} {tl th : TO} {pos p2 : Pos}
theorem adF : PO X none adE := by
 intro pins s σ H Q I h
 rw [evalPart_none]
 exact atA ⟨none, H, I, .none, h⟩
theorem adG (h : PE X e te) : PO X (some e) (ak3 te) := by
 intro pins s σ H Q I hw
 rw [evalPart_some]
 refine gK (h pins s σ H _ I hw) fun u s1 zz => ?_
 obtain ⟨x, H1, I1, r1, q1⟩ := zz
 obtain ⟨i, rfl, q⟩ := q1
 obtain ⟨t, rfl⟩ := r1
 exact ⟨some i, H1, I1, .int i t, q⟩
def SlR (X : Cx) (r : V -> Option Int -> Option Int -> Hp -> VK -> Prop) : Prop :=
 ∀ (pins : Q.o) (s : Shared) (σ : St) (H : Hp) (x : V) (v vl vu : Value) (lo hi : Option Int) (sl : Addr) (Q : VK), Inv X pins σ H s -> RelV x v -> s.heap.IsSliceOf sl vl vu .none -> IsPart vl lo -> IsPart vu hi -> r x lo hi H Q →
   ∃ T id, typeLookup (.type T) "__getitem__" = pure (some (.builtin id)) /\ s.TypeIs v T /\ wpAny Q.k X.A (getItem v (.ref sl)) (EP X pins σ Q) X.xe s
def tSl (r : V -> Option Int -> Option Int -> Hp -> VK -> Prop) (te : TE) (tl th : TO) : TE := fun σ H Q => te σ H fun x H1 => tl σ H1 fun l H2 => th σ H2 fun u H3 => r x l u H3 Q
theorem OJ {r : V -> Option Int -> Option Int -> Hp -> VK -> Prop} (hr : SlR X r) (he : PE X e te) (hl : PO X lo tl) (hu : PO X hi th) : PE X (.Subscript e (.Slice lo hi none p2) pos) (tSl r te tl th) := by
 intro pins s σ H Q I h
 refine Subscript_ (gK (he pins s σ H _ I h) fun v s1 zz => ?_)
 obtain ⟨x, H1, I1, r1, q1⟩ := zz
 refine wpAny_Slice (gK (hl pins s1 σ H1 _ I1 q1) fun vl s2 ⟨l, H2, I2, pl, q2⟩ => gK (hu pins s2 σ H2 _ I2 q2) fun vu s3 zz => ?_)
 obtain ⟨u, H3, I3, pu, q3⟩ := zz
 rw [evalPart_none]
 refine atA ?_
 have I4 : Inv X pins σ H3 { s3 with heap := s3.heap.push { cls := .type "slice", data := .fields #[vl, vu, .none] } } := I3.kept (t' := s3.toks) fun b ob q => as6 _ q
 obtain ⟨T, id, hT, ht, hg⟩ := hr pins { s3 with heap := s3.heap.push { cls := .type "slice", data := .fields #[vl, vu, .none] } } σ H3 x v vl vu l u s3.heap.objs.size Q I4 r1 (Heap.IsSliceOf.new ..) pl pu q3
 show wpAny Q.k X.A (subscriptTail e (.Slice lo hi none p2) v (.ref s3.heap.objs.size)) (EP X pins σ Q) X.xe { s3 with heap := s3.heap.push { cls := .type "slice", data := .fields #[vl, vu, .none] } }
 exact tail_any (ops := [.ref s3.heap.objs.size, v]) ht hT hg (by with_unfolding_all rfl)
def Xz (xs : List V) (lo hi : Option Int) : List V := (xs.drop (HT.DP xs.length 0 lo)).take (HT.DP xs.length xs.length hi - HT.DP xs.length 0 lo)
theorem OL (xs : List V) (lo hi : Option Int) : (Xz xs lo hi).length <= xs.length := by
 unfold Xz
 rw [atF, List.length_drop]
 omega
def xM (n : Nat) (i : Int) : Option Nat := if 0 <= i then (if i < n then some i.toNat else none) else if -(n : Int) <= i then some (i + n).toNat else none
variable {α : Type}
def Bc (xs : List α) (i : Int) : Option α := (xM xs.length i).bind fun j => xs[j]?
variable {n : Nat}
theorem Bj {i : Int} {j : Nat} (h : xM n i = some j) : seqIndex? i n = some j /\ j < n /\ -(n : Int) <= i /\ i < n := by
 unfold xM at h
 by_cases h0 : 0 <= i
 . rw [asM h0] at h
   by_cases h1 : i < n
   . rw [asM h1] at h
     have e : i.toNat = j := atv h
     exact ⟨by rw [seqIndex_of h0 h1, e], by omega, by omega, h1⟩
   . rw [asH h1] at h; cases h
 . rw [asH h0] at h
   by_cases h1 : -(n : Int) <= i
   . rw [asM h1] at h
     have e : (i + n).toNat = j := atv h
     exact ⟨by rw [seqIndex_neg Q.a h1, e], by omega, h1, by omega⟩
   . rw [asH h1] at h; cases h
theorem K9 {xs : List α} {i : Int} {v : α} (h : Bc xs i = some v) : ∃ j, seqIndex? i xs.length = some j /\ xs[j]? = some v /\ j < xs.length /\ -(xs.length : Int) <= i /\ i < xs.length := by
 unfold Bc at h
 cases e : xM xs.length i with
 | none => rw [e] at h; cases h
 | some j =>
   rw [e] at h
   obtain ⟨h1, h2, h3, h4⟩ := Bj e
   exact ⟨j, h1, h, h2, h3, h4⟩
theorem b6 {xs : List α} {j : Nat} {v : α} (h : xs[j]? = some v) : Bc xs (j : Int) = some v := by
 have hj : j < xs.length := (atl.mp h).1
 have e : xM xs.length (j : Int) = some j := by
   unfold xM
   rw [asM Q.a, asM Q.a]; simp
 unfold Bc; rw [e]; exact h
def Bk (b : Expr) : Prop := ∀ o i, subscripted b false o i = operate [o, i] (getItem o i)
def IxR (X : Cx) (r : R2) : Prop :=
 ∀ (value slice : Expr) (pins : Q.o) (s : Shared) (σ : St) (H : Hp) (x y : V) (v u : Value) (Q : VK), Inv X pins σ H s -> RelV x v -> RelV y u -> r x y H Q →
   subscripted slice false v u = operate [v, u] (getItem v u) -> wpAny Q.k X.A (subscriptTail value slice v u) (EP X pins σ Q) X.xe s
def MtR (X : Cx) (id : String) (r : V -> List V -> Hp -> VK -> Prop) : Prop :=
 ∀ (pins : Q.o) (s : Shared) (σ : St) (H : Hp) (x : V) (xs : List V) (v : Value) (us : Q.q) (Q : VK), Inv X pins σ H s -> RelV x v -> Vals xs us -> r x xs H Q →
   wpAny Q.k X.A (call (.builtin id) (v :: us)) (EP X pins σ Q) X.xe s
section
variable {a b : Expr} {ta tb : TE}
theorem OO {r : R2} (hr : IxR X r) (ha : PE X a ta) (hb : PE X b tb) (hs : Bk b) : PE X (.Subscript a b pos) (tOp r ta tb) := by
 intro pins s σ H Q I h
 exact Subscript_ (ahy ha hb I h fun v u s2 x y H2 I2 rx ry q => hr a b pins s2 σ H2 x y v u Q I2 rx ry q (hs _ _))
def an0 (K : Q.l) : R2 := fun x y H Q => ∃ p xs i v, x = .ref p /\ y = .int i /\ vJ K H p xs /\ Bc xs i = some v /\ Q v H
def an1 (K : Q.l) : R2 := fun x y H Q => ∃ p xs i v, x = .ref p /\ y = .int i /\ Fp K H p xs /\ Bc xs i = some v /\ Q v H
def an2 : R2 := fun x y H Q => ∃ z i c, x = .str z /\ y = .int i /\ z.length <= sizeLine /\ Bc z.cps.toList i = some c /\ Q (.str ⟨#[c]⟩) H
theorem VG : IxR X (an0 X.K) := by
 intro value slice pins s σ H x y v u Q I rx ry h hs
 obtain ⟨p, xs, i, z, rfl, rfl, hq, he, q⟩ := h
 cases rx
 obtain ⟨t, rfl⟩ := ry
 obtain ⟨its, r, pl, hz⟩ := I.list hq
 obtain ⟨j, h1, h2, h3, h4, h5⟩ := K9 he
 obtain ⟨w, ew, rw'⟩ := r.get h2
 have hl := r.length
 have hn := DK
 have fin : EP X pins σ Q w s := ⟨z, H, I, rw', q⟩
 by_cases h0 : 0 <= i
 . have hj : i.toNat = j := by
     rw [seqIndex_of h0 h5] at h1
     exact atv h1
   exact item_listR pl.isList h0 Q.a (by rw [hj]; simpa using ew) fin hs
 . have hj : (i + (its.toArray.size : Int)).toNat = j := by
     rw [seqIndex_neg Q.a h4] at h1
     rw [atm, ← hl]
     exact atv h1
   exact subscriptTail_builtinR (x := w) pl.isList.typeIs slot_list_getitem.lookup
     (wpAny_getItem_list_neg (Q := fun r s' => r = w /\ EP X pins σ Q r s') pl.isList Q.a (by rw [List.size_toArray] <;> omega) Q.a (by rw [hj]; simpa using ew) ⟨rfl, fin⟩) hs
theorem aav : IxR X (an1 X.K) := by
 intro value slice pins s σ H x y v u Q I rx ry h hs
 obtain ⟨p, xs, i, z, rfl, rfl, hq, he, q⟩ := h
 cases rx
 obtain ⟨t, rfl⟩ := ry
 obtain ⟨its, r, pl, hz⟩ := I.tuple hq
 obtain ⟨j, h1, h2, h3, h4, h5⟩ := K9 he
 obtain ⟨w, ew, rw'⟩ := r.get h2
 have hl := r.length
 have hn := DK
 have fin : EP X pins σ Q w s := ⟨z, H, I, rw', q⟩
 exact subscriptTail_builtinR (x := w) pl.typeIs slot_tuple_getitem.lookup
   (getItem_tuple (j := j) (Q := fun r s' => r = w /\ EP X pins σ Q r s') pl Q.a Q.a (by rw [List.size_toArray, ← hl]; exact h1) (by simpa using ew) ⟨rfl, fin⟩) hs
theorem ahO : IxR X an2 := by
 intro value slice pins s σ H x y v u Q I rx ry h hs
 obtain ⟨z, i, c, rfl, rfl, hz, he, q⟩ := h
 obtain ⟨t, rfl⟩ := rx
 obtain ⟨t', rfl⟩ := ry
 obtain ⟨j, h1, h2, h3, h4, h5⟩ := K9 he
 have hl : z.cps.toList.length = z.length := by simp [Str.length]
 rw [hl] at h1 h4 h5
 have hn := DK
 exact tail_any (typeIs_str s z t) slot_str_getitem.lookup (getItem_str (c := c) (by
   have e1 : decide (i < -(2 ^ 63 : Int)) = false := asY Q.a
   have e2 : decide (i ≥ 2 ^ 63) = false := asY Q.a
   rw [e1, e2, Bool.or_false]) (by rw [h1]; simpa using h2) ⟨.str ⟨#[c]⟩, H, I.tok _, ⟨_, rfl⟩, q⟩) hs
theorem RA (its : Q.q) (n j : Nat) (u : Value) : Obj.mapSeq (·.setIfInBounds j u) { cls := .type "list", data := .seq its.toArray n } = { cls := .type "list", data := .seq (its.set j u).toArray n } := by
 simp [Obj.mapSeq]
theorem Inv.lst {pins : Q.o} {σ : St} {H : Hp} {s : Shared} {p : Addr} {xs : List V} (I : Q.m) (h : H p = some (.lst xs)) :
   ∃ (its : Q.q) (n : Nat), Vals xs its /\ s.heap.get? p = some { cls := .type "list", data := .seq its.toArray n } /\ xs.length <= sizeLine := by
 obtain ⟨z, its, n, r, e⟩ := I.gQ p _ h
 exact ⟨its, n, r, e, z⟩
theorem Inv.ahP {pins : Q.o} {σ : St} {H : Hp} {s : Shared} {p : Addr} {xs ys : List V} {its its' : Q.q} {n' : Nat} {f : Obj -> Obj} (I : Q.m) (h : H p = some (.lst xs))
   (ho : s.heap.get? p = some { cls := .type "list", data := .seq its.toArray n }) (hf : f { cls := .type "list", data := .seq its.toArray n } = { cls := .type "list", data := .seq its'.toArray n' }) (r : Vals ys its') (hz : ys.length <= sizeLine) (t : Nat) :
   Inv X pins σ (upd H p (.lst ys)) { s with heap := s.heap.update p f, toks := t } := by
 have e : (s.heap.update p f).get? p = some { cls := .type "list", data := .seq its'.toArray n' } := by
   rw [Heap.get?_update_self f ho (by rw [hf] <;> rfl), hf]
 refine I.write (x := p) (e := p) (by rw [h]; trivial) (.inl rfl) (fun b u hb q => (Heap.get?_update_other _ _ (aui hb)).trans q) ⟨_, e⟩ ?_
 exact ⟨hz, its', n', r, e⟩
def ak4 : V -> V -> V -> Hp -> (Hp -> Prop) -> Prop := fun o i v H Q => ∃ p xs k j, o = .ref p /\ i = .int k /\ H p = some (.lst xs) /\ xM xs.length k = some j /\ Q (upd H p (.lst (xs.set j v)))
theorem set_list : akJ X ak4 := by
 intro pins s σ H o i v ov iv u Q I ro ri rv h
 obtain ⟨p, xs, k, j, rfl, rfl, hp, hj, q⟩ := h
 cases ro
 obtain ⟨t, rfl⟩ := ri
 obtain ⟨its, n, r, ho, hz⟩ := I.lst hp
 obtain ⟨h1, h2, h3, h4⟩ := Bj hj
 have hl := r.length
 have hn := DK
 have I' : Inv X pins σ (upd H p (.lst (xs.set j v))) { s with heap := s.heap.update p (Obj.mapSeq (·.setIfInBounds j u)) } :=
   I.ahP hp ho (RA its n j u) (r.set rv j) (by rw [atc]; exact hz) s.toks
 by_cases h0 : 0 <= k
 . have hk : k.toNat = j := by
     rw [seqIndex_of h0 h4] at h1
     exact atv h1
   exact PySem.W.ki_setAt ho h0 Q.a (by rw [atm, ← hl]; exact h4) (by rw [hk]; exact ⟨_, I', q⟩)
 . have hk : (k + (its.toArray.size : Int)).toNat = j := by
     rw [seqIndex_neg Q.a h3] at h1
     rw [atm, ← hl]
     exact atv h1
   exact PySem.W.ki_setBack ho Q.a (by rw [atm, ← hl]; exact h3) Q.a (by rw [hk]; exact ⟨_, I', q⟩)
theorem La (lo hi : Option Int) (n : Nat) : (sliceBounds lo hi none n).1 = ((HT.DP n 0 lo : Nat) : Int) /\ (sliceBounds lo hi none n).2.1 = ((HT.DP n n hi : Nat) : Int) /\ (sliceBounds lo hi none n).2.2 = 1 := by
 refine ⟨?_, ?_, rfl⟩
 . cases lo with
   | none => simp [sliceBounds, HT.DP]
   | some i =>
     simp only [sliceBounds, HT.DP, Option.getD_none, show (1 : Int) > 0 by decide, if_true]
     by_cases h : i < 0
     . simp only [h, if_true] <;> omega
     . simp only [h, if_false] <;> omega
 . cases hi with
   | none => simp [sliceBounds, HT.DP]
   | some i =>
     simp only [sliceBounds, HT.DP, Option.getD_none, show (1 : Int) > 0 by decide, if_true]
     by_cases h : i < 0
     . simp only [h, if_true] <;> omega
     . simp only [h, if_false] <;> omega
theorem JY (its : Q.q) (lo hi : Option Int) : slicePick its.toArray lo hi none = ((its.drop (HT.DP its.length 0 lo)).take (HT.DP its.length its.length hi - HT.DP its.length 0 lo)).toArray := by
 obtain ⟨h1, h2, h3⟩ := La lo hi its.toArray.size
 unfold slicePick
 rw [h1, h2, h3]
 simp only [sliceRange_one, pick_run, atm] <;> rfl
def an3 (K : Q.l) : V -> Option Int -> Option Int -> Hp -> VK -> Prop := fun x lo hi H Q => ∃ a xs, x = .ref a /\ vJ K H a xs /\ ∀ p, H p = none -> Q (.ref p) (upd H p (.lst (Xz xs lo hi)))
theorem adH : SlR X (an3 X.K) := by
 intro pins s σ H x v vl vu lo hi sl Q I rx hs pl pu h
 obtain ⟨a, xs, rfl, hx, q⟩ := h
 cases rx
 obtain ⟨its, r, ht, hz⟩ := I.list hx
 have hlen := r.length
 refine ⟨"list", _, slot_list_getitem.lookup, ht.isList.typeIs, ?_⟩
 refine wpAny_getItem_list_slice ht.isList hs pl pu .none Q.r ?_ (by rw [atm] <;> omega)
 rw [JY, ← hlen]
 refine ⟨.ref s.heap.objs.size, _, I.laid (t' := s.toks) (o := .lst (Xz xs lo hi)) (fun b ob q => as6 _ q) (as3 _) ?_, rfl, q _ (I.gQ.fresh (as3 _))⟩
 exact ⟨asS (OL xs lo hi) hz, _, 0, (r.drop (HT.DP xs.length 0 lo)).take (HT.DP xs.length xs.length hi - HT.DP xs.length 0 lo), atz _ rfl⟩
def yS : V -> Bool
 | .non => true
 | .bl _ => true
 | .int _ => true
 | .str _ => true
 | _ => false
def eqV : V -> V -> Bool
 | .non, .non => true
 | .bl a, .bl b => a == b
 | .bl a, .int b => (if a then 1 else 0) == b
 | .int a, .bl b => a == (if b then 1 else 0)
 | .int a, .int b => a == b
 | .str a, .str b => a == b
 | _, _ => false
theorem ahQ {A : Around} {s : Shared} {y x : V} {u v : Value} (ry : RelV y u) (rx : RelV x v) (fy : yS y = true) (fx : yS x = true) : SeqAt.EqAt A s u v (eqV y x) := by
 cases y with
 | non =>
   cases ry
   cases x with
   | non => cases rx; exact SeqAt.EqAt.same _
   | bl b => cases rx; exact SeqAt.EqAt.none_bool b
   | int b => obtain ⟨t, rfl⟩ := rx; exact SeqAt.EqAt.none_int b t
   | str b => obtain ⟨t, rfl⟩ := rx; exact SeqAt.EqAt.none_str b t
   | _ => exact absurd (show false = true from fx) as7
 | bl a =>
   cases ry
   cases x with
   | non => cases rx; exact SeqAt.EqAt.bool_none a
   | bl b => cases rx; exact SeqAt.EqAt.bool_bool a b
   | int b => obtain ⟨t, rfl⟩ := rx; exact SeqAt.EqAt.bool_int a b t
   | str b => obtain ⟨t, rfl⟩ := rx; exact SeqAt.EqAt.bool_str a b t
   | _ => exact absurd (show false = true from fx) as7
 | int a =>
   obtain ⟨t', rfl⟩ := ry
   cases x with
   | non => cases rx; exact SeqAt.EqAt.int_none a t'
   | bl b => cases rx; exact SeqAt.EqAt.int_bool a t' b
   | int b => obtain ⟨t, rfl⟩ := rx; exact SeqAt.EqAt.int_int a t' b t
   | str b => obtain ⟨t, rfl⟩ := rx; exact SeqAt.EqAt.int_str a t' b t
   | _ => exact absurd (show false = true from fx) as7
 | str a =>
   obtain ⟨t', rfl⟩ := ry
   cases x with
   | non => cases rx; exact SeqAt.EqAt.str_none a t'
   | bl b => cases rx; exact SeqAt.EqAt.str_bool a t' b
   | int b => obtain ⟨t, rfl⟩ := rx; exact SeqAt.EqAt.str_int a t' b t
   | str b => obtain ⟨t, rfl⟩ := rx; exact SeqAt.EqAt.str_str a t' b t
   | _ => exact absurd (show false = true from fx) as7
 | _ => exact absurd (show false = true from fy) as7
def RB (x : V) (u : Value) : Bool := match u with
 | .none => eqV .non x
 | .bool b => eqV (.bl b) x
 | .int i _ => eqV (.int i) x
 | .str z _ => eqV (.str z) x
 | _ => false
theorem aax {x y : V} {u : Value} (r : RelV y u) (f : yS y = true) : RB x u = eqV y x := by
 cases y with
 | non => cases r; rfl
 | bl b => cases r; rfl
 | int i => obtain ⟨t, rfl⟩ := r; rfl
 | str z => obtain ⟨t, rfl⟩ := r; rfl
 | _ => exact absurd (show false = true from f) as7
theorem Bl {x : V} : ∀ {xs : List V} {us : Q.q}, Vals xs us -> xs.all yS = true -> us.any (RB x) = xs.any fun y => eqV y x
 | _, _, .nil, _ => rfl
 | y :: xs, u :: us, .cons r t, f => by
   rw [atV, asZ] at f
   rw [atW, atW, aax r f.1, Bl t f.2]
theorem vZ {A : Around} {s : Shared} {x : V} {v : Value} (rx : RelV x v) (fx : yS x = true) : ∀ {xs : List V} {us : Q.q}, Vals xs us -> xs.all yS = true -> ∀ u ∈ us, SeqAt.EqAt A s u v (RB x u)
 | _, _, .nil, _ => fun u hu => by cases hu
 | y :: xs, u :: us, .cons r t, f => fun u' hu => by
   rw [atV, asZ] at f
   rcases asX.mp hu with rfl | hu
   . rw [aax r f.1]; exact ahQ r rx f.1 fx
   . exact vZ rx fx t f.2 u' hu
def inV (x : V) (xs : List V) : Bool := xs.any fun y => eqV y x
def rIn (K : Q.l) (neg : Bool) : R2 := fun x y H Q => ∃ p xs, y = .ref p /\ (vJ K H p xs \/ Fp K H p xs) /\ yS x = true /\ xs.all yS = true /\ Q (.bl (if neg then !inV x xs else inV x xs)) H
theorem xN : vX X (compareOp .In) (rIn X.K false) := by
 intro pins s σ H x y v u Q I rx ry h
 obtain ⟨p, xs, rfl, hq, fx, fs, q⟩ := h
 cases ry
 rcases hq with hq | hq
 . obtain ⟨its, r, pl, hz⟩ := I.list hq
   refine SeqAt.in_listAt (RB x) pl.isList (fun w hw => vZ rx fx r fs w (by simpa using hw)) ⟨.bl _, H, I, rfl, ?_⟩
   rw [show its.toArray.any (RB x) = its.any (RB x) by simp, Bl r fs]
   exact q
 . obtain ⟨its, r, pl, hz⟩ := I.tuple hq
   refine SeqAt.in_tupleAt (RB x) pl (fun w hw => vZ rx fx r fs w (by simpa using hw)) ⟨.bl _, H, I, rfl, ?_⟩
   rw [show its.toArray.any (RB x) = its.any (RB x) by simp, Bl r fs]
   exact q
theorem p9 : vX X (compareOp .NotIn) (rIn X.K true) := by
 intro pins s σ H x y v u Q I rx ry h
 obtain ⟨p, xs, rfl, hq, fx, fs, q⟩ := h
 cases ry
 rcases hq with hq | hq
 . obtain ⟨its, r, pl, hz⟩ := I.list hq
   refine SeqAt.notIn_listAt (RB x) pl.isList (fun w hw => vZ rx fx r fs w (by simpa using hw)) ⟨.bl _, H, I, rfl, ?_⟩
   rw [show its.toArray.any (RB x) = its.any (RB x) by simp, Bl r fs]
   exact q
 . obtain ⟨its, r, pl, hz⟩ := I.tuple hq
   refine SeqAt.notIn_tupleAt (RB x) pl (fun w hw => vZ rx fx r fs w (by simpa using hw)) ⟨.bl _, H, I, rfl, ?_⟩
   rw [show its.toArray.any (RB x) = its.any (RB x) by simp, Bl r fs]
   exact q
theorem Lb : vq X (.builtin "len") (fun xs H Q => ∃ p ys, xs = [.ref p] /\ (vJ X.K H p ys \/ Fp X.K H p ys) /\ Q (.int ys.length) H) := by
 intro pins s σ H xs us Q I r h
 obtain ⟨p, ys, rfl, hq, q⟩ := h
 obtain ⟨u, rfl, rx⟩ := vals1 r
 cases rx
 have hn := DK
 rcases hq with hq | hq
 . obtain ⟨its, r', pl, hz⟩ := I.list hq
   have hlen := r'.length
   exact Calls.call_len_list pl.isList (by simp only [atm] <;> omega) ⟨.int ys.length, H, I.tok _, ⟨s.toks + 1, by rw [atm, hlen]⟩, q⟩
 . obtain ⟨its, r', pl, hz⟩ := I.tuple hq
   have hlen := r'.length
   exact len_tuple pl (by simp only [atm] <;> omega) ⟨.int ys.length, H, I.tok _, ⟨s.toks + 1, by rw [atm, hlen]⟩, q⟩
theorem Lc : vq X (.builtin "len") (fun xs H Q => ∃ z, xs = [.str z] /\ z.length <= sizeLine /\ Q (.int z.length) H) := by
 intro pins s σ H xs us Q I r h
 obtain ⟨z, rfl, hz, q⟩ := h
 obtain ⟨u, rfl, t, rfl⟩ := vals1 r
 have hn := DK
 exact len_str Q.a ⟨.int z.length, H, I.tok _, ⟨_, rfl⟩, q⟩
theorem Bm : vq X (.type "list") (fun xs H Q => ∃ p ys, xs = [.ref p] /\ (vJ X.K H p ys \/ Fp X.K H p ys) /\ ∀ l, H l = none -> Q (.ref l) (upd H l (.lst ys))) := by
 intro pins s σ H xs us Q I r h
 obtain ⟨p, ys, rfl, hq, q⟩ := h
 obtain ⟨u, rfl, rx⟩ := vals1 r
 cases rx
 have fin : ∀ (its : Q.q), Vals ys its -> ys.length <= sizeLine -> ∀ (h' : Heap) (c' : Nat), (∀ b o', s.heap.get? b = some o' -> h'.get? b = some o') →
     h'.get? s.heap.objs.size = some { cls := .type "list", dict := none, data := .seq its.toArray c', slots := #[] } -> EP X pins σ Q (.ref s.heap.objs.size) { s with heap := h' } := fun its r' hz h' c' kp e =>
   ⟨.ref s.heap.objs.size, _, I.laid (t' := s.toks) kp (as3 _) (show iP X.prog X.w _ h' _ (.lst ys) from ⟨hz, its, c', r', e⟩), rfl, q _ (I.gQ.fresh (as3 _))⟩
 rcases hq with hq | hq
 . obtain ⟨its, r', pl, hz⟩ := I.list hq
   have hlen := r'.length
   obtain ⟨o, ho, hc, n, hd⟩ := pl.isList
   exact call_list_seq p (.inl rfl) ho hc hd (fun h' c' kp e => fin its r' hz h' c' kp e) (by simp only [atm] <;> omega)
 . obtain ⟨its, r', pl, hz⟩ := I.tuple hq
   have hlen := r'.length
   obtain ⟨o, ho, hc, n, hd⟩ := pl
   exact call_list_seq p (.inr rfl) ho hc hd (fun h' c' kp e => fin its r' hz h' c' kp e) (by simp only [atm] <;> omega)
theorem JZ : vq X (.type "tuple") (fun xs H Q => ∃ p ys, xs = [.ref p] /\ ((vJ X.K H p ys /\ ∀ l, H l = none -> Q (.ref l) (upd H l (.tup ys))) \/ (Fp X.K H p ys /\ Q (.ref p) H))) := by
 intro pins s σ H xs us Q I r h
 obtain ⟨p, ys, rfl, h⟩ := h
 obtain ⟨u, rfl, rx⟩ := vals1 r
 cases rx
 rcases h with ⟨hq, q⟩ | ⟨hq, q⟩
 . obtain ⟨its, r', pl, hz⟩ := I.list hq
   have hlen := r'.length
   refine call_tuple_list pl.isList (fun h' kp => ?_) (by simp only [atm] <;> omega)
   have I1 : Inv X pins σ H { s with heap := h' } := I.kept (t' := s.toks) kp
   have I2 : Inv X pins σ (upd H h'.objs.size (.tup ys)) { s with heap := h'.push { cls := .type "tuple", data := .seq its.toArray } } :=
     I1.laid (t' := s.toks) (fun b o e => as6 _ e) (as3 _) (show iP X.prog X.w _ _ _ (.tup ys) from ⟨hz, its, r', IsTup.new _ _⟩)
   exact ⟨.ref h'.objs.size, _, I2, rfl, q _ (I1.gQ.fresh (as3 _))⟩
 . obtain ⟨its, r', pl, hz⟩ := I.tuple hq
   exact call_tuple_same pl ⟨.ref p, H, I, rfl, q⟩
def tyV (K : Q.l) (T : String) (x : V) (H : Hp) : Prop := match x with
 | .str _ => T = "str"
 | .int _ => T = "int"
 | .ref p => (T = "list" /\ ∃ xs, vJ K H p xs) \/ (T = "tuple" /\ ∃ o, K.lookup p = some o /\ o.cls = .type "tuple" /\ o.dict = none) ∨
     (T = "dict" /\ ((∃ b8, H p = some (.dK b8)) \/ ∃ b8, H p = some (.dT b8))) \/ (T = "set" /\ ∃ S n, H p = some (.set S n))
 | _ => False
theorem ahR {pins : Q.o} {σ : St} {H : Hp} {s : Shared} {T : String} {x : V} {v : Value} (I : Q.m) (r : RelV x v) (ty : tyV X.K T x H) :
   s.TypeIs v T /\ ∀ a, v = .ref a -> ∃ ob, s.heap.get? a = some ob /\ ob.dict = none := by
 cases x with
 | str z =>
   obtain ⟨t, rfl⟩ := r
   cases (show T = "str" from ty)
   exact ⟨typeIs_str s z t, fun _ e => nomatch e⟩
 | int i =>
   obtain ⟨t, rfl⟩ := r
   cases (show T = "int" from ty)
   exact ⟨typeIs_int s i t, fun _ e => nomatch e⟩
 | ref p =>
   cases r
   rcases ty with ⟨rfl, xs, hq⟩ | ⟨rfl, o, hk, hc, hd⟩ | ⟨rfl, hk⟩ | ⟨rfl, S, n, hk⟩
   . obtain ⟨its, _, pl, _⟩ := I.list hq
     refine ⟨pl.isList.typeIs, fun a e => ?_⟩
     cases e
     obtain ⟨o, n, e, c, hd, _⟩ := pl
     exact ⟨o, e, hd⟩
   . refine ⟨⟨o, I.JS p o hk, hc⟩, fun a e => ?_⟩
     cases e
     exact ⟨o, I.JS _ o hk, hd⟩
   . have z : ∃ o, s.heap.get? p = some o /\ o.ExactDict := by
       rcases hk with ⟨b8, hk⟩ | ⟨b8, hk⟩
       . obtain ⟨_, _, _, _, o, _, _, e, ex, _⟩ := I.gQ p _ hk
         exact ⟨o, e, ex⟩
       . obtain ⟨_, _, _, _, o, _, _, e, ex, _⟩ := I.gQ p _ hk
         exact ⟨o, e, ex⟩
     obtain ⟨o, e, ex⟩ := z
     refine ⟨⟨o, e, ex.1⟩, fun a e2 => ?_⟩
     cases e2
     exact ⟨o, e, ex.2.1⟩
   . obtain ⟨o, _, _, _, e, ex, _⟩ := I.gQ p _ hk
     refine ⟨⟨o, e, ex.1⟩, fun a e2 => ?_⟩
     cases e2
     exact ⟨o, e, ex.2.1⟩
 | _ => exact False.elim ty
def tBM (K : Q.l) (T : String) (r : V -> List V -> Hp -> VK -> Prop) (to : TE) (t : TA) : TE := fun σ H Q => to σ H fun x H1 => tyV K T x H1 /\ t σ H1 fun xs H2 => r x xs H2 Q
variable {o : Expr} {es : List Expr} {to : TE} {t : TA} {name : Str} {apos yI : Pos} {T id : String} {r : V -> List V -> Hp -> VK -> Prop}
theorem aay (pa : PlainAttrs T) (slot : Slot T name id) (hty : typeOf (.builtin id) = pure (.type "method_descriptor")) (hm : MtR X id r) (ho : PE X o to) (ha : PA X (e :: es) t)
   (Bo : attributeBase o name X.env (eval o X.env) = eval o X.env := by rfl)
   (Ld : ((backTo yI (starEach (e :: es) X.env)).all (fun x => !x.1) && (backToKw yI (keywordEach [] X.env)).all (fun x => x.1.isSome)
     && decide ((e :: es).length + ([] : List Keyword).length + (if ([] : List Keyword).isEmpty then 0 else 1) < 30)) = true := by rfl)
   (hline : (apos.endLine == yI.line) = true := by rfl) (hs : Q.O := by rfl) (ahT : (backTo yI (starEach es X.env)).any (·.1) = false := by rfl) :
   PE X (.Call (.Attribute o name apos) (e :: es) [] yI) (tBM X.K T r to t) := by
 intro pins s σ H Q I h
 refine wpAny_Call_method_late Bo Ld hline rfl (gK (ho pins s σ H _ I h) fun v s1 zz => ?_)
 obtain ⟨x, H1, I1, r1, ty, q1⟩ := zz
 obtain ⟨h1, h2⟩ := ahR I1 r1 ty
 refine ⟨T, id, pa, slot, hty, h1, h2, ?_⟩
 have hA := ha yI pins s1 σ H1 _ I1 q1
 rw [hs] at hA ⊢
 refine Calls.callWith_builtin (by show (false || (backTo yI (starEach es X.env)).any (·.1)) = false; rw [ahT] <;> rfl) (Calls.evalArgs_plain ?_)
 exact gK hA fun us s2 ⟨vs, H2, I2, r2, q2⟩ => hm pins s2 σ H2 x vs v us Q I2 r1 r2 q2
end
def MtM (X : Cx) (id : String) (r : V -> List V -> Hp -> VK -> Prop) : Prop :=
 ∀ (pins : Q.o) (s : Shared) (σ : St) (H : Hp) (x : V) (xs : List V) (v : Value) (us : Q.q) (Q : VK), Inv X pins σ H s -> RelV x v -> Vals xs us -> r x xs H Q →
   wpAny Q.k X.A (call (.builtin id) (v :: us)) (EP X pins σ Q) X.xe s
variable {x : V}
theorem Vals.one {us : Q.q} (h : Vals [x] us) : ∃ u, us = [u] /\ RelV x u := by
 cases h with
 | cons r h => cases h; exact ⟨_, rfl, r⟩
theorem Vals.two {y : V} {us : Q.q} (h : Vals [x, y] us) : ∃ u v, us = [u, v] /\ RelV x u /\ RelV y v := by
 cases h with
 | cons r h => cases h with
   | cons q h => cases h; exact ⟨_, _, rfl, r, q⟩
theorem Vals.rep {xs : List V} {us : Q.q} (h : Vals xs us) : ∀ k : Nat, Vals (List.replicate k xs).flatten (List.replicate k us).flatten
 | 0 => .nil
 | k + 1 => by
   rw [at4, at4, auo, auo]
   exact Vals.append h (Vals.rep h k)
theorem foldl_rep (its : Q.q) : ∀ (k : Nat) (acc : Q.q),
   List.foldl (fun x1 x2 => x1 ++ x2) acc.toArray (List.replicate k its.toArray) = (acc ++ (List.replicate k its).flatten).toArray
 | 0, acc => by simp
 | k + 1, acc => by
   have e : acc.toArray ++ its.toArray = (acc ++ its).toArray := by simp
   have e2 : (acc ++ its) ++ (List.replicate k its).flatten = acc ++ (List.replicate (k + 1) its).flatten := by
     rw [at4, auo, asO]
   rw [← e2, ← foldl_rep its k (acc ++ its), ← e, at4, List.foldl_cons]
variable {pins : Q.o} {σ : St} {H : Hp} {s : Shared} {l : Addr} {xs ys : List V}
theorem Inv.ak5 {its its' : Q.q} {f : Array Value -> Array Value} {t' : Nat} (I : Q.m) (hH : H l = some (.lst xs))
   (e : s.heap.get? l = some { cls := .type "list", data := .seq its.toArray n }) (hf : f its.toArray = its'.toArray) (hv : Vals ys its') (hz : ys.length <= sizeLine) :
   Inv X pins σ (upd H l (.lst ys)) { s with heap := s.heap.update l (Obj.mapSeq f), toks := t' } := by
 have q := PySem.IsL.update e f
 rw [hf] at q
 refine I.write (x := l) (e := l) (by rw [hH]; exact trivial) (.inl rfl) (fun b' u hb hu => (Heap.get?_update_other s.heap (Obj.mapSeq f) (aui hb)).trans hu) ⟨_, q⟩ ?_
 exact ⟨hz, its', _, hv, q⟩
theorem Inv.ak6 {its : Q.q} {t' : Nat} (I : Q.m) (hv : Vals ys its) (hz : ys.length <= sizeLine) :
   Inv X pins σ (upd H s.heap.objs.size (.lst ys)) { s with heap := s.heap.push { cls := .type "list", data := .seq its.toArray }, toks := t' } :=
 I.laid (fun _ _ q => as6 _ q) (as3 _) ⟨hz, its, 0, hv, atz _ rfl⟩
theorem Inv.fresh (I : Q.m) : H s.heap.objs.size = none := I.gQ.fresh (as3 _)
theorem Inv.ak7 (I : Q.m) (hH : H l = some (.lst xs)) : xs.length <= sizeLine /\ ∃ (its : Q.q) (n : Nat), Vals xs its /\ xs.length = its.length /\ s.heap.get? l = some { cls := .type "list", data := .seq its.toArray n } := by
 obtain ⟨z, its, n, r, e⟩ := I.gQ l _ hH
 exact ⟨z, its, n, r, r.length, e⟩
theorem aaz (h : n <= sizeLine) : Builtin.List.listTooLong n = false := by
 unfold Builtin.List.listTooLong
 exact asY Q.a
def adI : V -> List V -> Hp -> VK -> Prop := fun x vs H Q => ∃ l xs y, x = .ref l /\ vs = [y] /\ H l = some (.lst xs) /\ xs.length < sizeLine /\ Q .non (upd H l (.lst (xs ++ [y])))
theorem DQ : MtM X "list.append" adI := by
 intro pins s σ H x vs v us Q I rx rv h
 obtain ⟨l, xs, y, rfl, rfl, hH, hz, q⟩ := h
 cases rx
 obtain ⟨u, rfl, ru⟩ := rv.one
 obtain ⟨z, its, n, r, hl, e⟩ := I.ak7 hH
 refine call_meets F.slot_list_append ⟨_, e, rfl⟩ F.entry_list_append (F.args_list_append_2 _ _) (PySem.list_append l its.toArray n u (by rw [atm]; omega)) ⟨e, ?_⟩
 refine ⟨.non, _, I.ak5 (its' := its ++ [u]) hH e Q.r (r.append (.cons ru .nil)) ?_, rfl, q⟩
 rw [as5, List.length_singleton]
 omega
theorem len_rep (xs : List α) (k : Nat) : (List.replicate k xs).flatten.length = k * xs.length := by
 induction k with
 | zero => simp
 | succ k ih => rw [at4, auo, as5, ih, Nat.succ_mul, Nat.add_comm]
end L2
namespace Att
open PySem PySem.W PySem.Calls PyProof.Rows
theorem F3 {P : Params} {h : Heap} : ∀ (ns : Q.e) (vs : Q.q), WellAll P h vs (ns.map WData.int) -> IntsAre vs ns := by
 intro ns
 induction ns with
 | nil =>
   intro vs w
   rw [List.map_nil] at w
   cases w
   exact .nil
 | cons n ns ih =>
   intro vs w
   rw [List.map_cons] at w
   cases w with
   | cons a b =>
     cases a
     exact .cons _ _ (ih _ b)
theorem XA {l : OpenLaw} {n : Nat} (hn : l.most = some n) {P : Params} {h : Heap} {args : List WData} {vals : Q.q}
   (adJ : l.row.toRowW.claim.pre args = true) (hwl : WellAll P h vals args) :
   ∃ a vs ns, vals = [Value.ref a] /\ args = [WData.list (ns.map WData.int)] /\ h.get? a = some { cls := .type "list", data := .seq vs.toArray } /\ IntsAre vs ns /\ ns.length <= n := by
 have JV : WShape.hasAll [] args [.list .int] = true := (pre_splitW adJ).1
 have hc : l.pre.holds [] { args := args } = true := (pre_splitW adJ).2
 obtain ⟨d, r, rfl, h1, h2⟩ := hasAllW_cons JV
 obtain rfl := hasAllW_nil h2
 obtain ⟨xs, rfl, h3⟩ := hasW_list h1
 obtain ⟨ns, rfl⟩ := items_int h3
 have hlen : ns.length <= n := by
   unfold OpenLaw.pre at hc
   have h4 : (WTm.not (.lt (.lit (.int (n : Int))) (.len (.arg 0)))).holds [] { args := [.list (ns.map .int)] } = true := by
     have h4 := (holds_andW hc).1
     rw [hn] at h4
     exact h4
   have h5 := condW_of h4 (w_not (w_lt w_lit (w_len_list (w_arg rfl))))
   rw [List.length_map] at h5
   refine Nat.le_of_not_lt fun q => ?_
   have q' : (n : Int) < ((ns.length : Nat) : Int) := by omega
   first
     | (rw [decide_eq_true q'] at h5; exact absurd h5 (by decide))
     | (simp at h5; omega)
 cases hwl with
 | cons w1 w2 =>
   cases w2
   cases w1 with
   | list ho XC => exact ⟨_, _, ns, rfl, rfl, ho, F3 ns _ XC, hlen⟩
theorem XD (l : OpenLaw) (args : List WData) : l.row.toRowW.claim.post args (.bool true) args = true :=
 postW_of (r := l.row.toRowW) (X := (true == true))
   (show WShape.has [] (.bool true) .bool = true by first | rfl | decide | simp [WShape.has, WShape.arms, WShape.armsAll])
   (show (WTm.eq .res (.lit (.bool true))).value [] { args := args, res := some (.bool true), after := args } = some (.bool (true == true)) from w_eq_bool (w_res rfl) w_lit) rfl
theorem OQ {l : OpenLaw} {n : Nat} {q : Program} {loose : Q.h} {XP : Q.A -> Heap -> Prop} {YP : World -> Heap -> Prop} {d : DefRec}
   (hn : l.most = some n) (hdf : d.params.defaults = [])
   (call : ∀ (w : World) (s₀ s₁ : Shared) (mg mb : Q.A) (fa : Addr) (o : Obj) (pm cd doc : Value) (a : Addr) (vs : Q.q) (ns : Q.e),
     Ground q loose [] XP w s₀ mg mb s₁.heap -> YP w s₁.heap →
     s₁.heap.get? fa = some o -> o.data = .func (docDef d.name d.params d.body d.scope pm cd doc) -> s₁.heap.CodeRec cd d.name -> mg d.name = some (.ref fa) →
     s₁.heap.get? a = some { cls := .type "list", data := .seq vs.toArray } -> IntsAre vs ns -> ns.length <= n -> s₁.gens = #[] →
     codeAny (model l.prog w) callerA (.call (.ref fa) ⟨[.ref a], []⟩) Q.aT s₁) :
   WalkO q loose XP YP l.row.toRowW d [] (fun f vs => PySem.call f vs) := by
 intro w s₀ s₁ mg mb G Y fa o pm cd doc dV kV ho hd rE hD hmg hg args vals as adJ hlay hrd hwl hlo
 obtain rfl : dV = .none := Dflts.none hD hdf
 obtain rfl : kV = .none := Dflts.noKw hD
 obtain ⟨a, vs, ns, rfl, rfl, ahU, hints, hlen⟩ := XA hn adJ hwl
 refine enter_call (codeAny_mono (call w s₀ s₁ mg mb fa o pm cd doc a vs ns G Y ho (fd_plain hd) rE hmg ahU hints hlen hg) fun r s' hq => ?_)
 obtain ⟨rfl, h2, h3, h4⟩ := hq
 exact ⟨.inl ⟨.bool true, .bool true, [], rfl, fun _ => rfl, .bool true, XD l _, fun _ => ⟨List.Pairwise.nil, fun _ hm => (nomatch hm)⟩⟩, h2, h3, h4⟩
def ledger (h : Heap) (L d : Addr) : List (Addr × Obj) := (List.range h.objs.size).filterMap fun a => if a = L \/ a = d then none else (h.get? a).map fun o => (a, o)
end Att
namespace L2
open PySem PySem.Spec PyProof.Rows
theorem Kn : ∀ {vs : Q.q} {ns : Q.e}, IntsAre vs ns -> Vals (ns.map V.int) vs
 | _, _, .nil => .nil
 | _, _, .cons n t h => .cons ⟨t, rfl⟩ (Kn h)
def Only (H : Hp) : Prop := ∀ b, H b = none \/ ∃ o xs, H b = some (.iX o (.lst xs))
variable {P : Program} {w : World} {a : Addr} {x : Str}
theorem aaA {K : Q.l} {mg mb : Q.A} {CX : ZQ} {k : Nat} {fa : Addr} {fd : FuncData} {sp : Sp} {s₁ : Shared} {vs : Q.q} {ns : Q.e}
   (KX : K.In s₁.heap) (hns : s₁.heap.Ns mainGlobals mg) (hb : s₁.heap.Ns builtinsNs mb) (hbb : ∀ x : Str, x ≠ "__name__" -> mb x = bootBuiltins x) (an5 : s₁.heap.NoLimit) (hg : s₁.gens = #[])
   (ha : s₁.heap.get? a = some { cls := .type "list", data := .seq vs.toArray }) (hi : IntsAre vs ns) (hl : ns.length <= sizeLine) (hr : jD k callerA)
   (F : ∀ base : Heap, K.In base -> base.Ns mainGlobals mg -> ic P w K mg base CX k fa fd [x] sp) (ala : ∀ (s : Shared) (u : Value), BindsTo s fd ⟨[u], []⟩ [(x, u)])
   (JT : ∀ H : Hp, Only H -> vJ K H a (ns.map V.int) -> sp [.ref a] H (fun v _ => v = .bl true) fun _ _ _ => False)
   (hCX : ∀ H e s', CX [] H s₁ (fun _ _ _ => False) e s' -> False) :
   codeAny (model P w) callerA (.call (.ref fa) ⟨[.ref a], []⟩) Q.aT s₁ := by
 have rv := Kn hi
 have an7 := hi.length
 have core : ∀ H : Hp, Only H -> vJ K H a (ns.map V.int) -> xH P w H s₁.heap -> (∀ b, H b ≠ none -> b = a) -> (H a ≠ none -> K.lookup a = none) →
     codeAny (model P w) callerA (.call (.ref fa) ⟨[.ref a], []⟩) Q.aT s₁ := by
   intro H hO hS gQ hA hK
   have VH : ∀ {b : Addr} {o : Obj}, s₁.heap.get? b = some o -> H b = none -> (K3 s₁.heap H).get? b = some o := fun e n => Z7 e n
   have noA : ∀ {b : Addr} {o : Obj} {es : Array DictEntry} {ep : Nat}, s₁.heap.get? b = some o -> o.data = .dict es ep -> H b = none := fun {b o es ep} e d => by
     cases q : H b with
     | none => rfl
     | some u =>
       have e' : b = a := hA b (by rw [q]; simp)
       subst e'
       rw [ha] at e; cases e
       have d' : Data.seq vs.toArray _ = Data.dict es ep := d
       cases d'
   have nsK : ∀ {b : Addr} {m : Q.A}, s₁.heap.Ns b m -> (K3 s₁.heap H).Ns b m := fun {b m} ⟨o, es, ep, e, d, r⟩ => ⟨o, es, ep, VH e (noA e d), d, r⟩
   have hKb : K.In (K3 s₁.heap H) := fun b o e => VH (KX b o e) (by
     cases q : H b with
     | none => rfl
     | some u =>
       have e' : b = a := hA b (by rw [q]; simp)
       subst e'
       rw [hK (by rw [q]; simp)] at e; cases e)
   have hM : Mod K mg (K3 s₁.heap H) := ⟨hKb, nsK hns, ⟨mb, nsK hb, hbb⟩, let ⟨mc, h1, h2⟩ := an5; ⟨mc, nsK h1, h2⟩⟩
   have e0 : Rz P w K mg (K3 s₁.heap H) callerA [] s₁ H := ⟨rfl, hM, fun b o e => adp e, Nat.le_of_eq (Xl _ _), trivial, fun b hb => absurd (show b ∈ ([] : List Addr) from hb) Q.r, gQ, .of_eq hg⟩
   refine auE ((F _ hKb (nsK hns)).run callerA [] s₁ H ⟨[.ref a], []⟩ [.ref a] [.ref a] _ _ hr e0 (ala s₁ (.ref a)) (.cons rfl .nil) (JT H hO hS)) fun r s' h => ?_
   cases r with
   | error e => exact (hCX H e s' h).elim
   | ok fl =>
     cases fl with
     | next => exact False.elim h
     | brk => exact False.elim h
     | cont => exact False.elim h
     | ret u =>
       obtain ⟨v, H', os, bare, un, an8, r', q⟩ := h
       have q' : v = .bl true := q
       subst q'
       obtain rfl : u = Value.bool true := r'
       refine ⟨rfl, OldK.of_keep fun b o e => ?_, os, bare⟩
       cases q : H b with
       | none => exact un.keep b o e q (by intro z; exact absurd (show b ∈ ([] : List Addr) from z) Q.r) Q.r
       | some u =>
         rcases hO b with z | ⟨ob, xs, z⟩
         . rw [q] at z; cases z
         . have z2 := un.lq b ob _ z
           obtain ⟨e1, _⟩ := gQ b _ z
           obtain ⟨e2, _⟩ := an8 b _ z2
           rw [e] at e1; cases e1
           exact e2
 cases hk : K.lookup a with
 | some o =>
   have e := KX a o hk
   rw [ha] at e
   cases e
   refine core (fun _ => none) (fun _ => .inl rfl) (.inr ⟨_, vs.toArray, _, hk, rfl, rfl, rfl, by rw [List.size_toArray, an7]; exact hl, by simpa using rv⟩) (fun b u z => by have z' : (none : Option HO) = some u := z; cases z') (fun b z => absurd rfl z) fun z => absurd rfl z
 | none =>
   refine core (fun b => if b = a then some (.iX { cls := .type "list", data := .seq vs.toArray } (.lst (ns.map V.int))) else none) (fun b => ?_) (.inl (.inr ⟨{ cls := .type "list", data := .seq vs.toArray }, asM rfl⟩)) (fun b u z => ?_) (fun b z => ?_) fun _ => hk
   . by_cases hb : b = a
     . exact .inr ⟨_, _, asM hb⟩
     . exact .inl (asH hb)
   . by_cases hb : b = a
     . have z' := (asM hb).symm.trans z
       cases z'
       subst hb
       exact ⟨ha, by rw [asG]; exact hl, vs, _, rv, ha⟩
     . have z' := (asH hb).symm.trans z
       cases z'
   . by_cases hb : b = a
     . exact hb
     . exact absurd (asH hb) z
theorem adK {l : PySem.W.OpenLaw} {n k : Nat} {q : Program} {loose : Q.h} {XP : Q.A -> Heap -> Prop} {YP : World -> Heap -> Prop} {d : DefRec} {K : Params -> PySem.W.Frag} {CX : World -> ZQ} {sp : World -> Sp}
   (hn : l.most = some n) (hn2 : n <= sizeLine) (hdf : d.params.defaults = []) (hr : jD k callerA)
   (hY : ∀ (w : World) (h : Heap), YP w h -> (K w.params).In h)
   (F : ∀ (w : World) (mg : Q.A) (fa : Addr) (h : Heap), (K w.params).In h -> h.Ns mainGlobals mg -> mg d.name = some (.ref fa) →
     ∃ fd : FuncData, (∀ (s : Shared) (u : Value), BindsTo s fd ⟨[u], []⟩ [(x, u)]) ∧
       ∀ base : Heap, (K w.params).In base -> base.Ns mainGlobals mg -> ic l.prog w (K w.params) mg base (CX w) k fa fd [x] (sp w))
   (JT : ∀ (w : World) (H : Hp) (a : Addr) (ns : Q.e), ns.length <= n -> Only H -> vJ (K w.params) H a (ns.map V.int) -> sp w [.ref a] H (fun v _ => v = .bl true) fun _ _ _ => False)
   (hCX : ∀ (w : World) (H : Hp) (s : Shared) (e : Value) (s' : Shared), CX w [] H s (fun _ _ _ => False) e s' -> False) :
   PySem.W.WalkO q loose XP YP l.row.toRowW d [] (fun f vs => PySem.call f vs) := by
 refine Att.OQ hn hdf fun w s₀ s₁ mg mb fa o pm cd doc a vs ns G Y ho hd rE hmg ahU hints hlen hg => ?_
 have KX := hY w _ Y
 obtain ⟨fd, hb, hF⟩ := F w mg fa _ KX G.T.g hmg
 exact aaA KX G.T.g G.T.b G.T.builtins G.T.nolimit hg ahU hints (asS hlen hn2) hr hF hb (fun H hO hS => JT w H a ns hlen hO hS) fun H e s' => hCX w H s₁ e s'
def inClass (s : Stmt) (j : Nat) : Stmt := match s with
 | .ClassDef _ _ _ body _ _ _ _ _ _ _ => body.getD j (.Pass ⟨0, 0, 0, 0⟩)
 | _ => .Pass ⟨0, 0, 0, 0⟩
def Bp (s : Stmt) : Arguments := match s with
 | .FunctionDef _ a _ _ _ _ _ _ _ _ => a
 | _ => { posonlyargs := [], args := [], vararg := none, kwonlyargs := [], kw_defaults := [], kwarg := none, defaults := [] }
def dW (s : Stmt) : List Stmt := match s with
 | .FunctionDef _ _ b _ _ _ _ _ _ _ => b
 | _ => []
def az (s : Stmt) : Scope := match s with
 | .FunctionDef _ _ _ _ _ _ sc _ _ _ => sc
 | _ => { kind := .function, names := [], isGenerator := false, isCoroutine := false }
abbrev xO : ZQ := fun _ _ _ _ _ _ => False
abbrev E0 : XK := fun _ _ _ => False
variable {X : Cx}
theorem OS : Passes xO X E0 := fun _ _ _ _ _ _ _ h => h.elim
structure oj (K : Q.l) (x qual : Str) (st : Stmt) (f : Addr) (fd : FuncData) : Prop where
 ex : ∃ (oc : Value) (od : Option Addr) (kV doc pm : Value) (an : Option Addr) (lu ct : Value) (osl : Array (Option Value)),
   fd = PySem.W.fnOf x qual (Bp st) (dW st) (az st) .none kV doc pm an lu ct /\ K.lookup f = some ⟨oc, od, .func fd, osl⟩ /\ PySem.W.codeIn K lu qual = true
 kp : PySem.W.keepIn K (.ref f) = true
variable {K : Q.l} {mg : Q.A} {base : Heap}
theorem oj.ok {qual : Str} {st : Stmt} {f : Addr} {fd : FuncData} {N ps : Q.h} {k : Nat} {sp : Sp} (F : oj K x qual st f fd) (S : aY N ps (az st)) (len : ∀ vs H Q E, sp vs H Q E -> vs.length = ps.length)
   (aau : ∀ (lu : Value) (A : Around) (outer : List Env) (s : Shared) (H : Hp) (vs : List V) (Q : VK) (E : XK), jD k (A.deeper (envOfC qual (az st) s.heap.objs.size f lu)) -> sp vs H Q E →
     ∃ t, Vv (DN xO P w K mg base N qual (az st) f lu A outer s H E).nox (dW st) t /\ t { nx := fun _ H' => Q .non H', rt := Q } (start N vs) H) : ic P w K mg base xO (k + 1) f fd ps sp := by
 obtain ⟨oc, od, kV, doc, pm, an, lu, ct, osl, rfl, lk, rE⟩ := F.ex
 refine agB lk rE S len fun A outer s H vs Q E hr JT => ?_
 obtain ⟨t, h, q⟩ := aau lu A outer s H vs Q E hr JT
 exact ⟨t, h.nox, q⟩
theorem oj.binds {qual : Str} {st : Stmt} {f : Addr} {fd : FuncData} {ps : Q.h} (F : oj K x qual st f fd)
   (h : ∀ (kV doc pm : Value) (an : Option Addr) (lu ct : Value) (us : Q.q), us.length = ps.length -> bindArgs (PySem.W.fnOf x qual (Bp st) (dW st) (az st) .none kV doc pm an lu ct) ⟨us, []⟩ = pure (ps.zip us)) : Binds K fd ps [] := by
 obtain ⟨oc, od, kV, doc, pm, an, lu, ct, osl, rfl, lk, rE⟩ := F.ex
 exact .all (h kV doc pm an lu ct)
theorem bV {qual : Str} {st : Stmt} {f : Addr} {oc : Value} {od an : Option Addr} {osl : Array (Option Value)} {kV doc pm lu ct : Value} (l : K.lookup f = some ⟨oc, od, .func (PySem.W.fnOf x qual (Bp st) (dW st) (az st) .none kV doc pm an lu ct), osl⟩)
   (c : PySem.W.codeIn K lu qual = true) (k : PySem.W.keepIn K (.ref f) = true) : oj K x qual st f (PySem.W.fnOf x qual (Bp st) (dW st) (az st) .none kV doc pm an lu ct) := ⟨⟨oc, od, kV, doc, pm, an, lu, ct, osl, rfl, l, c⟩, k⟩
theorem cR {n : Nat} (h : n <= 1000) : n < sizeLine := auz h Q.c
theorem XF {A B : Prop} (h : B) : if false = true then A else B := by
 rw [asH as7]
 exact h
theorem XG {A B : Prop} (h : A) : if true = true then A else B := by
 rw [asM rfl]
 exact h
def aR (H H' : Hp) : Prop := ∀ b o, H b = some o -> H' b = some o
theorem aR.refl (H : Hp) : aR H H := fun _ _ h => h
variable {H : Hp}
theorem aR.trans {H1 H2 : Hp} (a : aR H H1) (b : aR H1 H2) : aR H H2 := fun c o h => b c o (a c o h)
variable {H' : Hp}
theorem aR.free (e : aR H H') {l : Addr} (h : H' l = Option.none) : H l = Option.none := by
 cases q : H l with
 | none => rfl
 | some o =>
   rw [e l o q] at h
   cases h
theorem aR.seq {xs : List V} (e : aR H H') (h : vJ K H a xs) : vJ K H' a xs := by
 rcases h with (h | ⟨o, h⟩) | h
 . exact .inl (.inl (e _ _ h))
 . exact .inl (.inr ⟨o, e _ _ h⟩)
 . exact .inr h
section
variable {κ : Type} [DecidableEq κ]
def zj (b8 : List (κ × V)) (k : κ) : Option V := (b8.find? fun kv => decide (kv.1 = k)).map (·.2)
def putK (b8 : List (κ × V)) (k : κ) (v : V) : List (κ × V) :=
 if (b8.any fun kv => decide (kv.1 = k)) = true then b8.map (fun kv => if kv.1 = k then (kv.1, v) else kv) else b8 ++ [(k, v)]
theorem Bq {p : κ × V} {r : List (κ × V)} {k : κ} (e : p.1 = k) : zj (p :: r) k = some p.2 := by simp [zj, auk, e]
theorem v5 {p : κ × V} {r : List (κ × V)} {k : κ} (e : ¬ p.1 = k) : zj (p :: r) k = zj r k := by simp [zj, auk, e]
theorem OU (k : κ) : ∀ b8 : List (κ × V), (b8.any fun kv => decide (kv.1 = k)) = (zj b8 k).isSome
 | [] => rfl
 | p :: r => by
   rw [atW]
   by_cases e : p.1 = k
   . simp only [Bq e, asN e, Bool.true_or, Option.isSome_some]
   . rw [v5 e, asY e, Bool.false_or]; exact OU k r
theorem Fw (b8 : List (κ × V)) (k : κ) (v : V) : (putK b8 k v).length <= b8.length + 1 := by
 unfold putK
 split
 . rw [asG]; omega
 . rw [as5, atE, List.length_nil]; omega
theorem Ho.DR {o : Option V} {u : Option Value} (r : Ho o u) : o.isSome = u.isSome := by
 cases o with
 | none => cases u with
   | none => rfl
   | some _ => exact (show False from r).elim
 | some _ => cases u with
   | none => exact (show False from r).elim
   | some _ => rfl
theorem KV.val {b8 : List (κ × V)} {vs : List (κ × Value)} (r : KV b8 vs) (k : κ) : Ho (zj b8 k) (valueAt vs k) := by
 unfold KV at r
 induction r with
 | nil => exact True.intro
 | @cons p q ps qs h t ih =>
   obtain ⟨h1, h2⟩ := h
   by_cases e : p.1 = k
   . have e' : q.1 = k := h1.symm.trans e
     have b : valueAt (q :: qs) k = some q.2 := by simp [valueAt, auk, e']
     rw [Bq e, b]; exact h2
   . have e' : ¬ q.1 = k := fun z => e (h1.trans z)
     have b : valueAt (q :: qs) k = valueAt qs k := by simp [valueAt, auk, e']
     rw [v5 e, b]; exact ih
theorem KV.any {b8 : List (κ × V)} {vs : List (κ × Value)} (r : KV b8 vs) (k : κ) : (b8.any fun kv => decide (kv.1 = k)) = vs.any fun kv => decide (kv.1 = k) := by
 unfold KV at r
 induction r with
 | nil => rfl
 | cons h t ih => rw [atW, atW, ih, h.1]
theorem KV.repl {b8 : List (κ × V)} {vs : List (κ × Value)} (r : KV b8 vs) (k : κ) {y : V} {u : Value} (ry : RelV y u) :
   KV (b8.map fun kv => if kv.1 = k then (kv.1, y) else kv) (vs.map fun kv => if kv.1 = k then (kv.1, u) else kv) := by
 unfold KV at r ⊢
 induction r with
 | nil => exact .nil
 | @cons p q ps qs h t ih =>
   rw [atg, atg]
   refine .cons ?_ ih
   obtain ⟨h1, h2⟩ := h
   by_cases e : p.1 = k
   . rw [asM e, asM (h1.symm.trans e)]; exact ⟨h1, ry⟩
   . rw [asH e, asH (fun z => e (h1.trans z))]; exact ⟨h1, h2⟩
theorem KV.put {b8 : List (κ × V)} {vs : List (κ × Value)} (r : KV b8 vs) (k : κ) {y : V} {u : Value} (ry : RelV y u) : KV (putK b8 k y) (stored vs k u) := by
 unfold putK stored
 rw [r.any k]
 by_cases e : (vs.any fun kv => decide (kv.1 = k)) = true
 . rw [asM e, asM e]; exact r.repl k ry
 . rw [asH e, asH e]; exact Paired.snoc r ⟨rfl, ry⟩
theorem KV.length {b8 : List (κ × V)} {vs : List (κ × Value)} (r : KV b8 vs) : b8.length = vs.length := Paired.length r
end
variable {u : Value}
theorem aaB {k : Key} (r : RelV (kV k) u) : (j4 P w).is k u = true := by
 cases k with
 | inl i => obtain ⟨t, e⟩ := (show ∃ t, u = Value.int i t from r); subst e; exact Ot P w i t
 | inr x => obtain ⟨t, e⟩ := (show ∃ t, u = Value.str x t from r); subst e; exact Ou P w x t
theorem Ko {P : Program} {w : World} : ∀ {ks : List Key} {us : Q.q}, Vals (ks.map kV) us -> ItemsAre (j4 P w) ks us
 | [], _, r => by rw [List.map_nil] at r; cases r; exact .nil
 | k :: ks, _, r => by
   rw [atg] at r
   cases r with
   | cons h t => exact .cons (aaB h) (Ko t)
abbrev KT (H : Hp) : List (List Key × V) -> List (List Key × Addr × Value) -> Prop := Paired fun p q => p.1 = q.1 /\ H q.2.1 = some (.tup (p.1.map kV)) /\ RelV p.2 q.2.2
variable {b8 : List (List Key × V)} {xs : List (List Key × Addr × Value)}
theorem KT.val (r : KT H b8 xs) (k : List Key) : Ho (zj b8 k) ((atKey xs k).map (·.2)) := by
 induction r with
 | nil => exact True.intro
 | @cons p q ps qs h t ih =>
   obtain ⟨h1, _, h2⟩ := h
   by_cases e : p.1 = k
   . have e' : q.1 = k := h1.symm.trans e
     have b : atKey (q :: qs) k = some q.2 := by simp [atKey, auk, e']
     rw [Bq e, b]; exact h2
   . have e' : ¬ q.1 = k := fun z => e (h1.trans z)
     have b : atKey (q :: qs) k = atKey qs k := by simp [atKey, auk, e']
     rw [v5 e, b]; exact ih
variable {y : V}
theorem KT.repl (r : KT H b8 xs) (k : List Key) (ry : RelV y u) :
   KT H (b8.map fun kv => if kv.1 = k then (kv.1, y) else kv) (xs.map (putAt k u)) := by
 induction r with
 | nil => exact .nil
 | @cons p q ps qs h t ih =>
   rw [atg, atg]
   refine .cons ?_ ih
   obtain ⟨h1, h2, h3⟩ := h
   unfold putAt
   by_cases e : p.1 = k
   . rw [asM e, asM (h1.symm.trans e)]; exact ⟨h1, h2, ry⟩
   . rw [asH e, asH (fun z => e (h1.trans z))]; exact ⟨h1, h2, h3⟩
theorem KT.put (r : KT H b8 xs) (k : List Key) {b : Addr} (hb : H b = some (.tup (k.map kV))) (ry : RelV y u) :
   KT H (putK b8 k y) (storedH xs k b u) := by
 have e : (b8.any fun kv => decide (kv.1 = k)) = (atKey xs k).isSome := by
   rw [OU, (r.val k).DR, Option.isSome_map]
 unfold putK storedH
 rw [e]
 by_cases q : (atKey xs k).isSome = true
 . rw [asM q, asM q]; exact r.repl k ry
 . rw [asH q, asH q]; exact Paired.snoc r ⟨rfl, hb, ry⟩
theorem KT.keeps (r : KT H b8 xs) (ht : ∀ b ys, H b = some (.tup ys) -> H' b = some (.tup ys)) : KT H' b8 xs :=
 Paired.ahe r fun _ _ z => ⟨z.1, ht _ _ z.2.1, z.2.2⟩
variable {h : Heap}
theorem agD {u : HO} (ok : xH P w H h) (e : Rd H a u) : iP P w H h a u := e.ok ok
theorem agE {b8 : List (Key × V)} (ok : xH P w H h) (e : Rd H a (.dK b8)) : b8.length <= sizeLine /\ (a == sysModules) = false /\ ∃ vs, KV b8 vs /\ h.DictOf (j4 P w) a vs :=
 show iP P w H h a (.dK b8) from agD ok e
theorem alb {b8 : List (Key × V)} (ok : xH P w H h) (e : H a = some (.dK b8)) : b8.length <= sizeLine /\ (a == sysModules) = false /\ ∃ vs, KV b8 vs /\ h.DictOf (j4 P w) a vs := agE ok (.inl e)
theorem RC {ks : List Key} (ok : xH P w H h) (e : H a = some (.tup (ks.map kV))) : (tupleKind (j4 P w)).is h ks a := by
 obtain ⟨_, its, r, o, h1, h2, n, h3⟩ := (show iP P w H h a (.tup (ks.map kV)) from ok a _ e)
 exact ⟨o, its.toArray, n, h1, h2, h3, by simpa using Ko r⟩
theorem agF (ok : xH P w H h) (e : Rd H a (.dT b8)) : b8.length <= sizeLine /\ (a == sysModules) = false ∧
   ∃ xs, KT H b8 xs /\ h.DictOfH (tupleKind (j4 P w)) a xs := by
 obtain ⟨z, y, xs, r, o, es, ep, h1, h2, h3, h4, h5⟩ := (show iP P w H h a (.dT b8) from agD ok e)
 refine ⟨z, y, xs, r, o, es, ep, h1, h2, h3, h4, fun x hx => ?_, h5⟩
 have all : ∀ {l : List (List Key × V)} {m : List (List Key × Addr × Value)}, KT H l m -> ∀ x ∈ m, (tupleKind (j4 P w)).is h x.1 x.2.1 := by
   intro l m q
   induction q with
   | nil => intro x hx; exact nomatch hx
   | @cons p q ps qs hq t ih =>
     intro x hx
     rcases asX.mp hx with e | hx
     . subst e
       exact RC ok (by rw [← hq.1]; exact hq.2.1)
     . exact ih x hx
 exact all r x hx
theorem alc (ok : xH P w H h) (e : H a = some (.dT b8)) : b8.length <= sizeLine /\ (a == sysModules) = false ∧
   ∃ xs, KT H b8 xs /\ h.DictOfH (tupleKind (j4 P w)) a xs := agF ok (.inl e)
def aaC (H : Hp) (a : Addr) (y : V) (r : Option V) : Prop :=
 (∃ b8 k, Rd H a (.dK b8) /\ y = kV k /\ r = zj b8 k) \/ ∃ b8 k b, Rd H a (.dT b8) /\ y = .ref b /\ H b = some (.tup (k.map kV)) /\ r = zj b8 k
def aaD (H : Hp) (a : Addr) (y v : V) (H' : Hp) : Prop :=
 (∃ b8 k, H a = some (.dK b8) /\ y = kV k /\ b8.length < sizeLine /\ H' = upd H a (.dK (putK b8 k v))) ∨
 ∃ b8 k b, H a = some (.dT b8) /\ y = .ref b /\ H b = some (.tup (k.map kV)) /\ b8.length < sizeLine /\ H' = upd H a (.dT (putK b8 k v))
theorem aaC.k {b8 : List (Key × V)} {k : Key} (e : H a = some (.dK b8)) : aaC H a (kV k) (zj b8 k) := .inl ⟨b8, k, .inl e, rfl, rfl⟩
theorem aaD.k {b8 : List (Key × V)} {k : Key} {v : V} (e : H a = some (.dK b8)) (hl : b8.length < sizeLine) : aaD H a (kV k) v (upd H a (.dK (putK b8 k v))) := .inl ⟨b8, k, e, rfl, hl, rfl⟩
variable {pins : Q.o} {σ : St} {s : Shared} {v : V} {r : Value} {o : Option V} {A : Around} {E : Q.v}
theorem Inv.big (I : Q.m) : sysModules < s.heap.objs.size := by
 have h : mainGlobals < s.heap.objs.size := (I.mod.glob.keeps I.bk).lt
 exact Nat.lt_trans Q.c h
theorem an9 {Q : Q.v} (hu : A.units + 1 < cLine) (I : Q.m) (g : aaC H a y o) (ry : RelV y u) (h : ∀ s', Inv X pins σ H s' -> Q (.bool o.isSome) s') :
   wpAny Q.k A (compareOp .In u (.ref a)) Q E s := by
 rcases g with ⟨b8, k, e, ey, l⟩ | ⟨b8, k, b, e, ey, eb, l⟩
 . subst ey
   obtain ⟨z, hd, vs, rel, dd⟩ := agE I.gQ e
   refine wpAny_in_of (aaB ry) hd dd.mapOf ?_
   rw [← (rel.val k).DR, ← l]
   exact h _ (I.tok _)
 . subst ey
   cases (show u = Value.ref b from ry)
   obtain ⟨z, hd, xs, rel, dd⟩ := agF I.gQ e
   refine wpAny_in_heap (tupleKind_room_in1 hu) (RC I.gQ eb) hd dd ?_
   have q := (rel.val k).DR
   rw [Option.isSome_map] at q
   rw [← q, ← l]
   exact h _ (I.tok _)
theorem VJ {h' : Heap} {t' : Nat} {ob : HO} (I : Q.m) (mu : Mut (H a)) (hs : Heap.SameBut a s.heap h') (he : ∃ q, h'.get? a = some q) (new : iP X.prog X.w (upd H a ob) h' a ob) :
   Inv X pins σ (upd H a ob) { s with heap := h', toks := t' } :=
 I.write (x := a) (e := a) mu (.inl rfl) (fun b q hb z => (hs.2 b hb).trans z) he new
theorem ahV {h' : Heap} {b8 : List (Key × V)} {vs : List (Key × Value)} (z : b8.length <= sizeLine) (hd : (a == sysModules) = false) (rel : KV b8 vs) (dd : h'.DictOf (j4 P w) a vs) :
   iP P w H' h' a (.dK b8) := ⟨z, hd, vs, rel, dd⟩
theorem XH {Q : Unit -> Shared -> Prop} (hu : A.units + 1 < cLine) (I : Q.m) (g : aaD H a y v H') (ry : RelV y u) (rv : RelV v r) (h : ∀ s', Inv X pins σ H' s' -> Q () s') :
   wpAny Q.k A (setItem (.ref a) u r) Q E s := by
 rcases g with ⟨b8, k, e, ey, l, eH⟩ | ⟨b8, k, b, e, ey, eb, l, eH⟩
 . subst ey eH
   obtain ⟨z, hd, vs, rel, dd⟩ := alb I.gQ e
   have hz : vs.length <= sizeLine := by rw [← rel.length]; exact z
   have hl : (putK b8 k v).length <= sizeLine := by have := Fw b8 k v; omega
   refine wpAny_setItem_pairs (hsz := hz) (aaB ry) dd fun h' dd' hs => h _ ?_
   have he : ∃ q, h'.get? a = some q := let ⟨q, _, _, hq, _⟩ := dd'; ⟨q, hq⟩
   exact VJ I (by rw [e]; exact True.intro) hs he (ahV hl hd (rel.put k rv) dd')
 . subst ey eH
   cases (show u = Value.ref b from ry)
   obtain ⟨z, hd, xs, rel, dd⟩ := alc I.gQ e
   have hz : xs.length <= sizeLine := by rw [← Paired.length rel]; exact z
   have hl : (putK b8 k v).length <= sizeLine := by have := Fw b8 k v; omega
   refine wpAny_setItem_heap (hsz := hz) (tupleKind_room_in1 hu) (RC I.gQ eb) dd fun h' dd' hs => h _ ?_
   obtain ⟨q, es, ep, hq, h2, h3, h4, _, h5⟩ := dd'
   refine VJ I (by rw [e]; exact True.intro) hs ⟨q, hq⟩ ⟨hl, hd, _, (rel.put k eb rv).keeps fun c ys ec => ?_, q, es, ep, hq, h2, h3, h4, h5⟩
   rw [aP (akv ec e (fun z => nomatch z))]
   exact ec
def aoa (ty td : TE) : TE := fun σ H Q => ty σ H fun y H1 => td σ H1 fun x H2 => ∃ a o, x = .ref a /\ aaC H2 a y o /\ Q (.bl o.isSome) H2
def ald (td ty tv : TE) : TS := fun D σ H => tv σ H fun v H1 => td σ H1 fun x H2 => ty σ H2 fun y H3 => ∃ a H4, x = .ref a /\ aaD H3 a y v H4 /\ D.nx σ H4
variable {o i value : Expr} {pos pos' : Pos} {td ty tv : TE}
theorem ahW (hu : X.A.units + 1 < cLine) (hi : PE X i ty) (ho : PE X o td) : PC X .In i o (aoa ty td) := by
 intro pins s σ H Q I h
 refine gK (hi pins s σ H _ I h) fun iv s1 ⟨y, H1, I1, ry, q1⟩ => gK (ho pins s1 σ H1 _ I1 q1) fun u s2 zz => ?_
 obtain ⟨x, H2, I2, rx, a, ov, ex, g, q2⟩ := zz
 subst ex
 obtain rfl : u = Value.ref a := rx
 exact an9 hu I2 g ry fun s3 I3 => ⟨.bl ov.isSome, H2, I3, rfl, q2⟩
theorem adL (hu : X.A.units + 1 < cLine) (ho : PE X o td) (hi : PE X i ty) (hv : PE X value tv) (hs : swapsWith value (some (.Subscript o i pos')) pos.line X.env = pure false) :
   PS X (.Assign [.Subscript o i pos'] value pos) (ald td ty tv) := by
 intro pins s σ H D I h
 refine wpAny_Assign_Subscript (gK (hv pins s σ H _ I h) fun r s1 ⟨v, H1, I1, rv, q1⟩ => gK (ho pins s1 σ H1 _ I1 q1) fun u s2 ⟨x, H2, I2, rx, q2⟩ => gK (hi pins s2 σ H2 _ I2 q2) fun iv s3 zz => ?_) hs
 obtain ⟨y, H3, I3, ry, a, H4, ex, g, q3⟩ := zz
 subst ex
 obtain rfl : u = Value.ref a := rx
 exact XH hu I3 g ry rv fun s4 I4 => ⟨σ, H4, I4, q3⟩
theorem aaE (h : Heap) (hb : sysModules < h.objs.size) : iP P w H (h.push { cls := .type "dict", data := .dict #[] }) h.objs.size (.dK []) :=
 ⟨ata _, aus.mpr (aui (aty hb)), [], .nil, Heap.DictOf.new h⟩
def ahX : TE := fun _ H Q => ∀ p, H p = none -> Q (.ref p) (upd H p (.dK []))
theorem aaF : PE X (.Dict [] [] pos) ahX := fun pins s σ H Q I h =>
 wpAny_Dict_empty ⟨.ref s.heap.objs.size, _, I.laid (a := s.heap.objs.size) (o := .dK []) (t' := s.toks) (fun _ _ q => as6 _ q) (as3 _) (aaE s.heap I.big), rfl, h _ (I.gQ.fresh (as3 _))⟩
structure M2 (X : Cx) (o : Expr) (m : Str) (apos : Pos) (e f : Expr) (yI : Pos) : Prop where
 base : attributeBase o m X.env (eval o X.env) = eval o X.env
 few : ((backTo yI (starEach [e, f] X.env)).all (fun x => !x.1) && (backToKw yI (keywordEach [] X.env)).all (fun x => x.1.isSome)
   && decide (([e, f] : List Expr).length + ([] : List Keyword).length + (if ([] : List Keyword).isEmpty then 0 else 1) < 30)) = true
 line : (apos.endLine == yI.line) = true
 trees : backTo yI (starEach [e, f] X.env) = [(false, eval e X.env), (false, eval f X.env)]
end L2
namespace L3
open PySem PySem.Spec PyProof.Rows L2
inductive D where
 | non | bl (b : Bool) | int (i : Int) | str (x : Str)
 | tup (ds : List D) | lst (ds : List D) | ins (c : Str) (fs : List (Str × D)) | vt (b8 : List (Key × D))
 | dct (b8 : List (List Key × D))
 | any
 | val (v : V)
inductive T where
 | sh (d : D) | tup (ts : List T) | lst (ts : List T) | ins (c : Str) (fs : List (Str × T)) | vt (b8 : List (Key × D)) | dct (b8 : List (List Key × T))
 | pin (x : Addr) (t : T)
mutual
def T.iX : T -> D
 | .sh d => d
 | .tup ts => .tup (lq ts)
 | .lst ts => .lst (lq ts)
 | .ins c fs => .ins c (yJ fs)
 | .vt b8 => .vt b8
 | .dct b8 => .dct (aaG b8)
 | .pin _ t => t.iX
def T.lq : List T -> List D
 | [] => []
 | t :: ts => t.iX :: T.lq ts
def T.yJ : List (Str × T) -> List (Str × D)
 | [] => []
 | (x, t) :: fs => (x, t.iX) :: T.yJ fs
def T.aaG : List (List Key × T) -> List (List Key × D)
 | [] => []
 | (x, t) :: fs => (x, t.iX) :: T.aaG fs
end
variable (K : Q.l) (CL : Q.g)
mutual
inductive cC (Z : Hp) : D -> V -> Prop where
 | non : cC Z .non .non
 | bl (b : Bool) : cC Z (.bl b) (.bl b)
 | int (i : Int) : cC Z (.int i) (.int i)
 | str (x : Str) : cC Z (.str x) (.str x)
 | any (v : V) : cC Z .any v
 | val (v : V) : cC Z (.val v) v
 | tup {a : Addr} {vs : List V} {ds : List D} : Fp K Z a vs -> aX Z ds vs -> cC Z (.tup ds) (.ref a)
 | lst {a : Addr} {vs : List V} {ds : List D} : vJ K Z a vs -> aX Z ds vs -> cC Z (.lst ds) (.ref a)
 | ins {a dx : Addr} {c : Str} {gs : List (Str × V)} {fs : List (Str × D)} : Z a = some (.ins (CL c) dx gs) -> yT Z fs gs -> cC Z (.ins c fs) (.ref a)
 | vt {a : Addr} {gs : List (Key × V)} {fs : List (Key × D)} : Z a = some (.dK gs) -> cO Z fs gs -> cC Z (.vt fs) (.ref a)
 | dct {a : Addr} {gs : List (List Key × V)} {fs : List (List Key × D)} : Z a = some (.dT gs) -> Ht Z fs gs -> cC Z (.dct fs) (.ref a)
inductive aX (Z : Hp) : List D -> List V -> Prop where
 | nil : aX Z [] []
 | cons {d : D} {v : V} {ds : List D} {vs : List V} : cC Z d v -> aX Z ds vs -> aX Z (d :: ds) (v :: vs)
inductive yT (Z : Hp) : List (Str × D) -> List (Str × V) -> Prop where
 | nil : yT Z [] []
 | cons {x : Str} {d : D} {v : V} {ds : List (Str × D)} {vs : List (Str × V)} : cC Z d v -> yT Z ds vs -> yT Z ((x, d) :: ds) ((x, v) :: vs)
inductive cO (Z : Hp) : List (Key × D) -> List (Key × V) -> Prop where
 | nil : cO Z [] []
 | cons {x : Key} {d : D} {v : V} {ds : List (Key × D)} {vs : List (Key × V)} : cC Z d v -> cO Z ds vs -> cO Z ((x, d) :: ds) ((x, v) :: vs)
inductive Ht (Z : Hp) : List (List Key × D) -> List (List Key × V) -> Prop where
 | nil : Ht Z [] []
 | cons {x : List Key} {d : D} {v : V} {ds : List (List Key × D)} {vs : List (List Key × V)} : cC Z d v -> Ht Z ds vs -> Ht Z ((x, d) :: ds) ((x, v) :: vs)
end
mutual
inductive cL (H Z : Hp) : T -> V -> List Addr -> Prop where
 | sh {d : D} {v : V} : cC K CL Z d v -> cL H Z (.sh d) v []
 | tup {a : Addr} {vs : List V} {ts : List T} {fp : Q.p} : Z a = some (.tup vs) -> bJ H Z ts vs fp -> cL H Z (.tup ts) (.ref a) fp
 | lst {a : Addr} {vs : List V} {ts : List T} {fp : Q.p} : H a = some (.lst vs) -> bJ H Z ts vs fp -> cL H Z (.lst ts) (.ref a) (a :: fp)
 | ins {a dx : Addr} {c : Str} {gs : List (Str × V)} {fs : List (Str × T)} {fp : Q.p} : H a = some (.ins (CL c) dx gs) -> eO H Z fs gs fp -> cL H Z (.ins c fs) (.ref a) (a :: fp)
 | vt {a : Addr} {gs : List (Key × V)} {b8 : List (Key × D)} : H a = some (.dK gs) -> cO K CL Z b8 gs -> cL H Z (.vt b8) (.ref a) [a]
 | dct {a : Addr} {gs : List (List Key × V)} {b8 : List (List Key × T)} {fp : Q.p} : H a = some (.dT gs) -> Fx H Z b8 gs fp -> cL H Z (.dct b8) (.ref a) (a :: fp)
 | pin {x : Addr} {t : T} {fp : Q.p} : cL H Z t (.ref x) fp -> cL H Z (.pin x t) (.ref x) fp
inductive bJ (H Z : Hp) : List T -> List V -> List Addr -> Prop where
 | nil : bJ H Z [] [] []
 | cons {t : T} {v : V} {ts : List T} {vs : List V} {fp gp : Q.p} : cL H Z t v fp -> bJ H Z ts vs gp -> bJ H Z (t :: ts) (v :: vs) (fp ++ gp)
inductive eO (H Z : Hp) : List (Str × T) -> List (Str × V) -> List Addr -> Prop where
 | nil : eO H Z [] [] []
 | cons {x : Str} {t : T} {v : V} {ts : List (Str × T)} {vs : List (Str × V)} {fp gp : Q.p} : cL H Z t v fp -> eO H Z ts vs gp -> eO H Z ((x, t) :: ts) ((x, v) :: vs) (fp ++ gp)
inductive Fx (H Z : Hp) : List (List Key × T) -> List (List Key × V) -> List Addr -> Prop where
 | nil : Fx H Z [] [] []
 | cons {x : List Key} {t : T} {v : V} {ts : List (List Key × T)} {vs : List (List Key × V)} {fp gp : Q.p} : cL H Z t v fp -> Fx H Z ts vs gp -> Fx H Z ((x, t) :: ts) ((x, v) :: vs) (fp ++ gp)
end
inductive fO (H Z : Hp) : List (Option T) -> L2.St -> List Addr -> Prop where
 | nil : fO H Z [] [] []
 | skip {o : Option V} {δ : Q.n} {σ : L2.St} {fp : Q.p} : fO H Z δ σ fp -> fO H Z (none :: δ) (o :: σ) fp
 | cons {t : T} {v : V} {δ : Q.n} {σ : L2.St} {fp gp : Q.p} : cL K CL H Z t v fp -> fO H Z δ σ gp -> fO H Z (some t :: δ) (some v :: σ) (fp ++ gp)
variable {K : Q.l} {CL : Q.g} {H H' : Hp} {a : Addr} {xs : List V}
theorem aR.sqT (e : aR H H') (h : Fp K H a xs) : Fp K H' a xs := by
 rcases h with (h | ⟨o, h⟩) | h
 . exact .inl (.inl (e _ _ h))
 . exact .inl (.inr ⟨o, e _ _ h⟩)
 . exact .inr h
variable {Z Z' : Hp} {v : V}
theorem cC.mono (e : aR Z Z') {d : D} (h : cC K CL Z d v) : cC K CL Z' d v :=
 cC.rec (motive_1 := fun d v _ => cC K CL Z' d v) (motive_2 := fun d v _ => aX K CL Z' d v) (motive_3 := fun d v _ => yT K CL Z' d v) (motive_4 := fun d v _ => cO K CL Z' d v) (motive_5 := fun d v _ => Ht K CL Z' d v)
   .non .bl .int .str .any .val (fun h _ r => .tup (aR.sqT e h) r) (fun h _ r => .lst (e.seq h) r) (fun h _ r => .ins (e _ _ h) r) (fun h _ r => .vt (e _ _ h) r) (fun h _ r => .dct (e _ _ h) r) .nil (fun _ _ h r => .cons h r) .nil (fun _ _ h r => .cons h r) .nil (fun _ _ h r => .cons h r) .nil (fun _ _ h r => .cons h r) h
theorem cO.mono (e : aR Z Z') {d : List (Key × D)} {v : List (Key × V)} (h : cO K CL Z d v) : cO K CL Z' d v :=
 cO.rec (motive_1 := fun d v _ => cC K CL Z' d v) (motive_2 := fun d v _ => aX K CL Z' d v) (motive_3 := fun d v _ => yT K CL Z' d v) (motive_4 := fun d v _ => cO K CL Z' d v) (motive_5 := fun d v _ => Ht K CL Z' d v)
   .non .bl .int .str .any .val (fun h _ r => .tup (aR.sqT e h) r) (fun h _ r => .lst (e.seq h) r) (fun h _ r => .ins (e _ _ h) r) (fun h _ r => .vt (e _ _ h) r) (fun h _ r => .dct (e _ _ h) r) .nil (fun _ _ h r => .cons h r) .nil (fun _ _ h r => .cons h r) .nil (fun _ _ h r => .cons h r) .nil (fun _ _ h r => .cons h r) h
variable {t : T} {fp : Q.p}
theorem cL.mono (e : aR Z Z') (k : ∀ a ∈ fp, H' a = H a) (h : cL K CL H Z t v fp) : cL K CL H' Z' t v fp :=
 cL.rec (motive_1 := fun t v fp _ => (∀ a ∈ fp, H' a = H a) -> cL K CL H' Z' t v fp) (motive_2 := fun t v fp _ => (∀ a ∈ fp, H' a = H a) -> bJ K CL H' Z' t v fp) (motive_3 := fun t v fp _ => (∀ a ∈ fp, H' a = H a) -> eO K CL H' Z' t v fp) (motive_4 := fun t v fp _ => (∀ a ∈ fp, H' a = H a) -> Fx K CL H' Z' t v fp)
   (fun h _ => .sh (h.mono e)) (fun h _ r k => .tup (e _ _ h) (r k)) (fun h _ r k => .lst ((k _ asT).trans h) Q.Z) (fun h _ r k => .ins ((k _ asT).trans h) Q.Z) (fun h f k => .vt ((k _ asT).trans h) (cO.mono e f)) (fun h _ r k => .dct ((k _ asT).trans h) Q.Z) (fun _ r k => .pin (r k)) (fun _ => .nil) Q.ak (fun _ => .nil) Q.ak (fun _ => .nil) Q.ak h k
theorem bJ.mono (e : aR Z Z') {t : List T} {v : List V} (k : ∀ a ∈ fp, H' a = H a) (h : bJ K CL H Z t v fp) : bJ K CL H' Z' t v fp :=
 bJ.rec (motive_1 := fun t v fp _ => (∀ a ∈ fp, H' a = H a) -> cL K CL H' Z' t v fp) (motive_2 := fun t v fp _ => (∀ a ∈ fp, H' a = H a) -> bJ K CL H' Z' t v fp) (motive_3 := fun t v fp _ => (∀ a ∈ fp, H' a = H a) -> eO K CL H' Z' t v fp) (motive_4 := fun t v fp _ => (∀ a ∈ fp, H' a = H a) -> Fx K CL H' Z' t v fp)
   (fun h _ => .sh (h.mono e)) (fun h _ r k => .tup (e _ _ h) (r k)) (fun h _ r k => .lst ((k _ asT).trans h) Q.Z) (fun h _ r k => .ins ((k _ asT).trans h) Q.Z) (fun h f k => .vt ((k _ asT).trans h) (cO.mono e f)) (fun h _ r k => .dct ((k _ asT).trans h) Q.Z) (fun _ r k => .pin (r k)) (fun _ => .nil) Q.ak (fun _ => .nil) Q.ak (fun _ => .nil) Q.ak h k
theorem eO.mono (e : aR Z Z') {t : List (Str × T)} {v : List (Str × V)} (k : ∀ a ∈ fp, H' a = H a) (h : eO K CL H Z t v fp) : eO K CL H' Z' t v fp :=
 eO.rec (motive_1 := fun t v fp _ => (∀ a ∈ fp, H' a = H a) -> cL K CL H' Z' t v fp) (motive_2 := fun t v fp _ => (∀ a ∈ fp, H' a = H a) -> bJ K CL H' Z' t v fp) (motive_3 := fun t v fp _ => (∀ a ∈ fp, H' a = H a) -> eO K CL H' Z' t v fp) (motive_4 := fun t v fp _ => (∀ a ∈ fp, H' a = H a) -> Fx K CL H' Z' t v fp)
   (fun h _ => .sh (h.mono e)) (fun h _ r k => .tup (e _ _ h) (r k)) (fun h _ r k => .lst ((k _ asT).trans h) Q.Z) (fun h _ r k => .ins ((k _ asT).trans h) Q.Z) (fun h f k => .vt ((k _ asT).trans h) (cO.mono e f)) (fun h _ r k => .dct ((k _ asT).trans h) Q.Z) (fun _ r k => .pin (r k)) (fun _ => .nil) Q.ak (fun _ => .nil) Q.ak (fun _ => .nil) Q.ak h k
theorem cL.there (h : cL K CL H Z t v fp) : ∀ a ∈ fp, ∃ o, H a = some o :=
 cL.rec (motive_1 := fun t v fp _ => ∀ a ∈ fp, ∃ o, H a = some o) (motive_2 := fun t v fp _ => ∀ a ∈ fp, ∃ o, H a = some o) (motive_3 := fun t v fp _ => ∀ a ∈ fp, ∃ o, H a = some o) (motive_4 := fun t v fp _ => ∀ a ∈ fp, ∃ o, H a = some o)
   (fun _ a ha => absurd ha as8) (fun _ _ r => r) Q.aw Q.aw (fun h _ a ha => (asX.mp ha).elim (fun q => ⟨_, q ▸ h⟩) (fun q => absurd q as8)) Q.aw (fun _ r => r) (fun a ha => absurd ha as8) Q.aA (fun a ha => absurd ha as8) Q.aA (fun a ha => absurd ha as8) Q.aA h
theorem bJ.there {t : List T} {v : List V} (h : bJ K CL H Z t v fp) : ∀ a ∈ fp, ∃ o, H a = some o :=
 bJ.rec (motive_1 := fun t v fp _ => ∀ a ∈ fp, ∃ o, H a = some o) (motive_2 := fun t v fp _ => ∀ a ∈ fp, ∃ o, H a = some o) (motive_3 := fun t v fp _ => ∀ a ∈ fp, ∃ o, H a = some o) (motive_4 := fun t v fp _ => ∀ a ∈ fp, ∃ o, H a = some o)
   (fun _ a ha => absurd ha as8) (fun _ _ r => r) Q.aw Q.aw (fun h _ a ha => (asX.mp ha).elim (fun q => ⟨_, q ▸ h⟩) (fun q => absurd q as8)) Q.aw (fun _ r => r) (fun a ha => absurd ha as8) Q.aA (fun a ha => absurd ha as8) Q.aA (fun a ha => absurd ha as8) Q.aA h
theorem cL.iX (e : aR Z Z') (k : ∀ a ∈ fp, Z' a = H a) (h : cL K CL H Z t v fp) : cC K CL Z' t.iX v :=
 cL.rec (motive_1 := fun t v fp _ => (∀ a ∈ fp, Z' a = H a) -> cC K CL Z' t.iX v) (motive_2 := fun t v fp _ => (∀ a ∈ fp, Z' a = H a) -> aX K CL Z' (T.lq t) v) (motive_3 := fun t v fp _ => (∀ a ∈ fp, Z' a = H a) -> yT K CL Z' (T.yJ t) v) (motive_4 := fun t v fp _ => (∀ a ∈ fp, Z' a = H a) -> Ht K CL Z' (T.aaG t) v)
   (fun h _ => by rw [T.iX]; exact h.mono e) (fun h _ r k => by rw [T.iX]; exact .tup (Fp.of (e _ _ h)) (r k)) (fun h _ r k => by rw [T.iX]; exact .lst (vJ.of ((k _ asT).trans h)) Q.Z) (fun h _ r k => by rw [T.iX]; exact .ins ((k _ asT).trans h) Q.Z) (fun h f k => by rw [T.iX]; exact .vt ((k _ asT).trans h) (cO.mono e f)) (fun h _ r k => by rw [T.iX]; exact .dct ((k _ asT).trans h) Q.Z) (fun _ r k => by rw [T.iX]; exact r k) (fun _ => by rw [T.lq]; exact .nil) (fun _ _ h r k => by rw [T.lq]; exact .cons (h fun a ha => k a (asL _ ha)) (r fun a ha => k a (asJ _ ha))) (fun _ => by rw [T.yJ]; exact .nil) (fun _ _ h r k => by rw [T.yJ]; exact .cons (h fun a ha => k a (asL _ ha)) (r fun a ha => k a (asJ _ ha))) (fun _ => by rw [T.aaG]; exact .nil) (fun _ _ h r k => by rw [T.aaG]; exact .cons (h fun a ha => k a (asL _ ha)) (r fun a ha => k a (asJ _ ha))) h k
variable {vs : List V}
theorem aX.ind {P : List D -> List V -> Prop} (n : P [] []) (c : ∀ {d : D} {v : V} {ds : List D} {vs : List V}, cC K CL Z d v -> aX K CL Z ds vs -> P ds vs -> P (d :: ds) (v :: vs)) {ds : List D} (h : aX K CL Z ds vs) : P ds vs :=
 aX.rec (motive_1 := fun _ _ _ => True) (motive_2 := fun d v _ => P d v) (motive_3 := fun _ _ _ => True) (motive_4 := fun _ _ _ => True) (motive_5 := fun _ _ _ => True)
   trivial (fun _ => trivial) (fun _ => trivial) (fun _ => trivial) (fun _ => trivial) (fun _ => trivial) Q.S Q.S Q.S Q.S Q.S n (fun a b _ i => c a b i) trivial Q.P trivial Q.P trivial Q.P h
theorem cO.ind {P : List (Key × D) -> List (Key × V) -> Prop} (n : P [] []) (c : ∀ {x : Key} {d : D} {v : V} {ds : List (Key × D)} {vs : List (Key × V)}, cC K CL Z d v -> cO K CL Z ds vs -> P ds vs -> P ((x, d) :: ds) ((x, v) :: vs)) {ds : List (Key × D)} {vs : List (Key × V)} (h : cO K CL Z ds vs) : P ds vs :=
 cO.rec (motive_1 := fun _ _ _ => True) (motive_2 := fun _ _ _ => True) (motive_3 := fun _ _ _ => True) (motive_4 := fun d v _ => P d v) (motive_5 := fun _ _ _ => True)
   trivial (fun _ => trivial) (fun _ => trivial) (fun _ => trivial) (fun _ => trivial) (fun _ => trivial) Q.S Q.S Q.S Q.S Q.S trivial Q.P trivial Q.P n (fun a b _ i => c a b i) trivial Q.P h
variable {ts : List T}
theorem bJ.ind {P : List T -> List V -> List Addr -> Prop} (n : P [] [] []) (c : ∀ {t : T} {v : V} {ts : List T} {vs : List V} {fp gp : Q.p}, cL K CL H Z t v fp -> bJ K CL H Z ts vs gp -> P ts vs gp -> P (t :: ts) (v :: vs) (fp ++ gp)) (h : bJ K CL H Z ts vs fp) : P ts vs fp :=
 bJ.rec (motive_1 := fun _ _ _ _ => True) (motive_2 := fun d v f _ => P d v f) (motive_3 := fun _ _ _ _ => True) (motive_4 := fun _ _ _ _ => True)
   (fun _ => trivial) Q.S Q.S Q.S (fun _ _ => trivial) Q.S (fun _ _ => trivial) n (fun a b _ i => c a b i) trivial Q.P trivial Q.P h
theorem eO.ind {P : List (Str × T) -> List (Str × V) -> List Addr -> Prop} (n : P [] [] []) (c : ∀ {x : Str} {t : T} {v : V} {ts : List (Str × T)} {vs : List (Str × V)} {fp gp : Q.p}, cL K CL H Z t v fp -> eO K CL H Z ts vs gp -> P ts vs gp -> P ((x, t) :: ts) ((x, v) :: vs) (fp ++ gp)) {ts : List (Str × T)} {vs : List (Str × V)} (h : eO K CL H Z ts vs fp) : P ts vs fp :=
 eO.rec (motive_1 := fun _ _ _ _ => True) (motive_2 := fun _ _ _ _ => True) (motive_3 := fun d v f _ => P d v f) (motive_4 := fun _ _ _ _ => True)
   (fun _ => trivial) Q.S Q.S Q.S (fun _ _ => trivial) Q.S (fun _ _ => trivial) trivial Q.P n (fun a b _ i => c a b i) trivial Q.P h
theorem aX.length {d : List D} {v : List V} (h : aX K CL Z d v) : d.length = v.length :=
 aX.ind (P := fun d v => d.length = v.length) rfl (fun _ _ i => congrArg (· + 1) i) h
theorem bJ.length {d : List T} {v : List V} (h : bJ K CL H Z d v fp) : d.length = v.length :=
 bJ.ind (P := fun d v _ => d.length = v.length) rfl (fun _ _ i => congrArg (· + 1) i) h
theorem aX.get {Z : Hp} : ∀ {ds : List D} {vs : List V} {i : Nat} {d : D}, aX K CL Z ds vs -> ds[i]? = some d -> ∃ v, vs[i]? = some v /\ cC K CL Z d v
 | _, _, _, _, .nil, e => by simp at e
 | _, _, 0, _, .cons r _, e => by simp at e; subst e; exact ⟨_, rfl, r⟩
 | _, _, i + 1, d, .cons _ t, e => by
   obtain ⟨u, h1, h2⟩ := aX.get (i := i) (d := d) t (by simpa using e)
   exact ⟨u, by simpa using h1, h2⟩
theorem aX.adM {Z : Hp} : ∀ {ds : List D} {vs : List V} {i : Nat} {v : V}, aX K CL Z ds vs -> vs[i]? = some v -> ∃ d, ds[i]? = some d /\ cC K CL Z d v
 | _, _, _, _, .nil, e => by simp at e
 | _, _, 0, _, .cons r _, e => by simp at e; subst e; exact ⟨_, rfl, r⟩
 | _, _, i + 1, d, .cons _ t, e => by
   obtain ⟨u, h1, h2⟩ := aX.adM (i := i) (v := d) t (by simpa using e)
   exact ⟨u, by simpa using h1, h2⟩
theorem fO.get : ∀ {δ : Q.n} {σ : L2.St} {fp : Q.p} {i : Nat} {t : T}, fO K CL H Z δ σ fp -> δ[i]? = some (some t) →
   ∃ v f1 f2 f3, σ[i]? = some (some v) /\ fp = f1 ++ (f2 ++ f3) /\ cL K CL H Z t v f2 ∧
     (∀ {H' Z' : Hp} {t' : T} {v' : V} {g : Q.p}, aR Z Z' -> (∀ a ∈ f1 ++ f3, H' a = H a) -> cL K CL H' Z' t' v' g -> fO K CL H' Z' (δ.set i (some t')) (σ.set i (some v')) (f1 ++ (g ++ f3))) ∧
     (∀ {o : Option V}, fO K CL H Z (δ.set i none) (σ.set i o) (f1 ++ f3)) := by
 intro δ σ fp i t h
 have mono : ∀ {H H' Z Z' : Hp} {δ : Q.n} {σ : L2.St} {fp : Q.p}, aR Z Z' -> (∀ a ∈ fp, H' a = H a) -> fO K CL H Z δ σ fp -> fO K CL H' Z' δ σ fp := by
   intro H H' Z Z' δ σ fp e k r
   induction r with
   | nil => exact .nil
   | skip _ ih => exact .skip (ih k)
   | cons r _ ih => exact .cons (r.mono e fun a ha => k a (asL _ ha)) (ih fun a ha => k a (asJ _ ha))
 induction h generalizing i with
 | nil => intro e; simp at e
 | @skip o δ σ fp r ih =>
   cases i with
   | zero => intro e; simp at e
   | succ i =>
     intro e
     obtain ⟨v, f1, f2, f3, h1, h2, h3, h4, h5⟩ := ih (i := i) (by simpa using e)
     exact ⟨v, f1, f2, f3, by simpa using h1, h2, h3, fun e k q => .skip (h4 e k q), .skip h5⟩
 | @cons t0 v0 δ σ fp gp r0 r ih =>
   cases i with
   | zero =>
     intro e
     simp at e
     subst e
     refine ⟨v0, [], fp, gp, rfl, rfl, r0, fun {H' Z' t' v' g} e k q => fO.cons (fp := g) (gp := gp) q (mono (fp := gp) e (fun a ha => k a (by simpa using ha)) r), .skip (by simpa using r)⟩
   | succ i =>
     intro e
     obtain ⟨v, f1, f2, f3, h1, h2, h3, h4, h5⟩ := ih (i := i) (by simpa using e)
     refine ⟨v, fp ++ f1, f2, f3, by simpa using h1, by rw [h2, List.append_assoc], h3, fun {H' Z' t' v' g} e k q => ?_, fun {o} => ?_⟩
     . rw [asO]
       exact .cons (r0.mono e fun a ha => k a (by simp [ha])) (h4 e (fun a ha => k a (by rw [asO]; exact asJ _ ha)) q)
     . rw [asO]
       exact .cons r0 h5
variable {δ : Q.n} {σ : L2.St}
theorem fO.mono (e : aR Z Z') (k : ∀ a ∈ fp, H' a = H a) (r : fO K CL H Z δ σ fp) : fO K CL H' Z' δ σ fp := by
 induction r with
 | nil => exact .nil
 | skip _ ih => exact .skip (ih k)
 | cons r _ ih => exact .cons (r.mono e fun a ha => k a (asL _ ha)) (ih fun a ha => k a (asJ _ ha))
theorem fO.there (r : fO K CL H Z δ σ fp) : ∀ a ∈ fp, ∃ o, H a = some o := by
 induction r with
 | nil => intro a ha; cases ha
 | skip _ ih => exact ih
 | cons r _ ih => exact fun a ha => (asQ.mp ha).elim (r.there a) (ih a)
theorem fO.put (r : fO K CL H Z δ σ fp) {g : Q.p} (q : cL K CL H Z t v g) :
   ∀ {i : Nat}, i < δ.length -> ∃ f, fO K CL H Z (δ.set i (some t)) (σ.set i (some v)) f /\ ∃ f', f'.Sublist fp /\ f.Perm (g ++ f') := by
 induction r with
 | nil => intro i hi; simp at hi
 | @skip o δ σ fp r ih =>
   intro i hi
   cases i with
   | zero => exact ⟨g ++ fp, .cons q r, fp, atq _, auV _⟩
   | succ i =>
     obtain ⟨f, h1, f', h2, h3⟩ := ih (i := i) (by simpa using hi)
     exact ⟨f, .skip h1, f', h2, h3⟩
 | @cons t0 v0 δ σ fp gp r0 r ih =>
   intro i hi
   cases i with
   | zero => exact ⟨g ++ gp, .cons q r, gp, atO _ _, auV _⟩
   | succ i =>
     obtain ⟨f, h1, f', h2, h3⟩ := ih (i := i) (by simpa using hi)
     refine ⟨fp ++ f, .cons r0 h1, fp ++ f', atn (atq _) h2, ?_⟩
     refine (atD fp h3).trans ?_
     rw [← asO, ← asO]
     exact List.Perm.append_right f' atj
def Le (X : Cx) (e : Expr) : TE := fun σ H Q => ∀ (pins : Q.o) (s : Shared), Inv X pins σ H s -> wpAny Q.k X.A (eval e X.env) (EP X pins σ Q) X.xe s
def adN (X : Cx) (e : Expr) : TT := fun σ H Q => ∀ (pins : Q.o) (s : Shared), Inv X pins σ H s -> wpAny Q.k X.A (isTrue e X.env (eval e X.env)) (TP X pins σ Q) X.xe s
def Lf (X : Cx) (es : List Expr) : TA := fun σ H Q => ∀ (pos : Pos) (pins : Q.o) (s : Shared), Inv X pins σ H s -> wpAny Q.k X.A (spliced (backTo pos (starEach es X.env))) (AP X pins σ Q) X.xe s
def adO (X : Cx) (st : Stmt) : TS := fun D σ H => ∀ (pins : Q.o) (s : Shared), Inv X pins σ H s -> wpAny Q.k X.A (exec st X.env) (SP X pins D) X.xe s
def RD (X : Cx) (st : List Stmt) : TS := fun D σ H => ∀ (pins : Q.o) (s : Shared), Inv X pins σ H s -> wpAny Q.k X.A (execs st X.env) (SP X pins D) X.xe s
variable {X : Cx} {e : Expr}
theorem fh : PE X e (Le X e) := fun pins s _ _ _ I h => h pins s I
theorem ptS : PT X e (adN X e) := fun pins s _ _ _ I h => h pins s I
theorem VL {e : List Expr} : PA X e (Lf X e) := fun pos pins s _ _ _ I h => h pos pins s I
theorem psS {e : Stmt} : PS X e (adO X e) := fun pins s _ _ _ I h => h pins s I
theorem XI {e : List Stmt} : Vv X e (RD X e) := fun pins s _ _ _ I h => h pins s I
theorem dS {t : TE} (h : PE X e t) {Q : VK} (q : t σ H Q) : Le X e σ H Q := fun pins s I => h pins s σ H Q I q
variable {Q : Bool -> Hp -> Prop}
theorem J1 {t : TT} (h : PT X e t) (q : t σ H Q) : adN X e σ H Q := fun pins s I => h pins s σ H Q I q
theorem J2 {e : List Expr} {t : TA} (h : PA X e t) {Q : List V -> Hp -> Prop} (q : t σ H Q) : Lf X e σ H Q := fun pos pins s I => h pos pins s σ H Q I q
theorem v7 {e : Stmt} {t : TS} (h : PS X e t) {D : Ends} (q : t D σ H) : adO X e D σ H := fun pins s I => h pins s σ H D I q
theorem aaH {e : List Stmt} {t : TS} (h : Vv X e t) {D : Ends} (q : t D σ H) : RD X e D σ H := fun pins s I => h pins s σ H D I q
def notStar : Expr -> Bool
 | .Starred _ _ => false
 | _ => true
variable {es : List Expr} {env : Env}
theorem cE (h : notStar e = true) : starEach (e :: es) env = (false, eval e env) :: starEach es env := by
 cases e <;> first | rfl | (cases h)
structure Bx where
 B : Hp
 Z : Hp
def pB : HO -> Bool
 | .tup _ => true
 | .iX _ _ => true
 | _ => false
def VM (x : Str) : Bool := x.cps[0]? == some 35
def aob (x : Str) : Str := ⟨x.cps.extract 1 x.cps.size⟩
def pO (CL : Q.g) (Z : Hp) : Prop := ∀ x, VM x = true -> CL x ≠ 0 -> Z (CL x) = some (.tabs (aob x))
structure bY (K : Q.l) (CL : Q.g) (b : Bx) (H Z : Hp) (δ : Q.n) (σ : L2.St) (ts : List T) (vs : List V) : Prop where
 rep : ∃ fp gp, fO K CL H Z δ σ fp /\ bJ K CL H Z ts vs gp /\ (fp ++ gp).Nodup /\ ∀ a ∈ fp ++ gp, Z a = none /\ b.B a = none
 bh : aR b.B H
 zz : aR b.Z Z
 zh : aR Z H
 new : ∀ a o, Z a = some o -> b.Z a = none -> b.B a = none
 tp : ∀ a o, H a = some o -> pB o = true -> Z a = some o
 tab : pO CL b.Z
variable {b : Bx}
theorem pO.mono {A B : Hp} (h : pO CL A) (e : aR A B) : pO CL B := fun x hx h0 => e _ _ (h x hx h0)
theorem bY.ahZ (S : Q.K) : pO CL Z := S.tab.mono S.zz
theorem bY.aaI (S : Q.K) : pO CL H := S.ahZ.mono S.zh
theorem RG {A B : Hp} (e : aR A B) (h : B a = none) : A a = none := e.free h
variable {p : Addr}
theorem aR.upd {o : HO} (h : H p = none) : aR H (upd H p o) := fun b u e => by rw [aP (cJ e h)]; exact e
theorem bY.view (S : Q.af) : cC K CL H t.iX v := by
 obtain ⟨fp, gp, _, r, _, _⟩ := S.rep
 cases r with
 | cons r _ => exact r.iX S.zh fun _ _ => rfl
theorem bY.pop (S : Q.af) : bY K CL b H Z δ σ ts vs := by
 obtain ⟨fp, gp, e, r, nd, k⟩ := S.rep
 cases r with
 | @cons _ _ _ _ f1 f2 r1 r2 =>
   refine ⟨⟨fp, f2, e, r2, nd.sublist (atn (atq _) (atO _ _)), fun a ha => k a ?_⟩, S.bh, S.zz, S.zh, S.new, S.tp, S.tab⟩
   rcases asQ.mp ha with h | h
   . exact asL _ h
   . exact asJ _ (asJ _ h)
theorem bY.push {d : D} (S : Q.K) (r : cC K CL Z d v) : bY K CL b H Z δ σ (.sh d :: ts) (v :: vs) := by
 obtain ⟨fp, gp, e, r2, nd, k⟩ := S.rep
 exact ⟨⟨fp, [] ++ gp, e, .cons (.sh r) r2, nd, k⟩, S.bh, S.zz, S.zh, S.new, S.tp, S.tab⟩
theorem bY.aaJ (S : Q.af) : ∃ Z', aR Z Z' /\ bY K CL b H Z' δ σ (.sh t.iX :: ts) (v :: vs) := by
 classical
 obtain ⟨fp, gp, e, r, nd, k⟩ := S.rep
 cases r with
 | @cons _ _ _ _ f1 f2 r1 r2 =>
   have nZ : ∀ a ∈ f1, Z a = none /\ b.B a = none := fun a ha => k a (asJ _ (asL _ ha))
   have sz : aR Z (fun a => if a ∈ f1 then H a else Z a) := fun a o q => by
     by_cases ha : a ∈ f1
     . rw [(nZ a ha).1] at q; cases q
     . show (if a ∈ f1 then H a else Z a) = some o
       rw [asH ha]; exact q
   have nd1 := atr.mp nd
   have dj : ∀ a ∈ fp ++ f2, a ∉ f1 := fun a ha h1 => by
     rcases asQ.mp ha with h | h
     . exact nd1.2.2 a h a (asL _ h1) rfl
     . exact (atr.mp nd1.2.1).2.2 a h1 a h rfl
   refine ⟨fun a => if a ∈ f1 then H a else Z a, sz, ⟨⟨fp, [] ++ f2, e.mono sz (fun _ _ => rfl), .cons (.sh (r1.iX sz fun a ha => asM ha)) (r2.mono sz fun _ _ => rfl), ?_, fun a ha => ?_⟩, S.bh, S.zz.trans sz, fun a o q => ?_, fun a o q z => ?_, fun a o q i => ?_, S.tab⟩⟩
   . exact nd.sublist (atn (atq _) (atO _ _))
   . have XJ : a ∈ fp ++ f2 := ha
     refine ⟨?_, (k a ?_).2⟩
     . show (if a ∈ f1 then H a else Z a) = none
       rw [asH (dj a XJ)]
       refine (k a ?_).1
       rcases asQ.mp XJ with h | h
       . exact asL _ h
       . exact asJ _ (asJ _ h)
     . rcases asQ.mp XJ with h | h
       . exact asL _ h
       . exact asJ _ (asJ _ h)
   . have q' : (if a ∈ f1 then H a else Z a) = some o := q
     by_cases ha : a ∈ f1
     . rw [asM ha] at q'; exact q'
     . rw [asH ha] at q'; exact S.zh a o q'
   . have q' : (if a ∈ f1 then H a else Z a) = some o := q
     by_cases ha : a ∈ f1
     . exact (nZ a ha).2
     . rw [asH ha] at q'; exact S.new a o q' z
   . exact sz a o (S.tp a o q i)
variable {i : Nat}
theorem bY.adP (S : Q.K) (hi : δ[i]? = some (some t)) : ∃ v Z', σ[i]? = some (some v) /\ aR Z Z' /\ bY K CL b H Z' (δ.set i (some (.sh t.iX))) σ (.sh t.iX :: ts) (v :: vs) := by
 classical
 obtain ⟨fp, gp, e, r, nd, k⟩ := S.rep
 obtain ⟨v, f1, f2, f3, hv, v8, rt, put, _⟩ := e.get hi
 subst v8
 have nZ : ∀ a ∈ f2, Z a = none /\ b.B a = none := fun a ha => k a (by simp [ha])
 have sz : aR Z (fun a => if a ∈ f2 then H a else Z a) := fun a o q => by
   by_cases ha : a ∈ f2
   . rw [(nZ a ha).1] at q; cases q
   . show (if a ∈ f2 then H a else Z a) = some o
     rw [asH ha]; exact q
 have dj : ∀ a ∈ (f1 ++ f3) ++ gp, a ∉ f2 := fun a ha h2 => by
   have hp : ((f1 ++ (f2 ++ f3)) ++ gp).Perm (f2 ++ ((f1 ++ f3) ++ gp)) := by
     rw [← asO, ← asO]
     refine (List.perm_append_right_iff gp).mpr ?_
     rw [← asO]
     exact (List.perm_append_right_iff f3).mpr atj
   exact (atr.mp (hp.nodup_iff.mp nd)).2.2 a h2 a ha rfl
 have rF : cC K CL (fun a => if a ∈ f2 then H a else Z a) t.iX v := rt.iX sz fun a ha => asM ha
 have ah0 : σ.set i (some v) = σ := by
   apply List.ext_getElem?
   intro j
   rw [List.getElem?_set]
   split
   . rename_i h; subst h
     split
     . exact hv.symm
     . rename_i h2; rw [auF Q.a]
   . rfl
 have e2 : fO K CL H (fun a => if a ∈ f2 then H a else Z a) (δ.set i (some (.sh t.iX))) σ (f1 ++ ([] ++ f3)) := by
   have := put (H' := H) (t' := .sh t.iX) (v' := v) (g := []) sz (fun _ _ => rfl) (.sh rF)
   rwa [ah0] at this
 refine ⟨v, fun a => if a ∈ f2 then H a else Z a, hv, sz, ⟨⟨f1 ++ ([] ++ f3), [] ++ gp, e2, .cons (.sh rF) (r.mono sz fun _ _ => rfl), ?_, fun a ha => ?_⟩, S.bh, S.zz.trans sz, fun a o q => ?_, fun a o q z => ?_, fun a o q i => sz a o (S.tp a o q i), S.tab⟩⟩
 . exact nd.sublist (atn (atn (atq _) (atO _ _)) (atq _))
 . have XJ : a ∈ (f1 ++ f3) ++ gp := ha
   have hm : a ∈ (f1 ++ (f2 ++ f3)) ++ gp := by
     simp only [asQ] at XJ ⊢
     rcases XJ with (h | h) | h
     . exact .inl (.inl h)
     . exact .inl (.inr (.inr h))
     . exact .inr h
   refine ⟨?_, (k a hm).2⟩
   show (if a ∈ f2 then H a else Z a) = none
   rw [asH (dj a XJ)]
   exact (k a hm).1
 . have q' : (if a ∈ f2 then H a else Z a) = some o := q
   by_cases ha : a ∈ f2
   . rw [asM ha] at q'; exact q'
   . rw [asH ha] at q'; exact S.zh a o q'
 . have q' : (if a ∈ f2 then H a else Z a) = some o := q
   by_cases ha : a ∈ f2
   . exact (nZ a ha).2
   . rw [asH ha] at q'; exact S.new a o q' z
theorem bY.move (S : Q.K) (hi : δ[i]? = some (some t)) : ∃ v, σ[i]? = some (some v) /\ bY K CL b H Z (δ.set i none) σ (t :: ts) (v :: vs) := by
 obtain ⟨fp, gp, e, r, nd, k⟩ := S.rep
 obtain ⟨v, f1, f2, f3, hv, v8, rt, _, del⟩ := e.get hi
 subst v8
 have ah0 : σ.set i (some v) = σ := by
   apply List.ext_getElem?
   intro j
   rw [List.getElem?_set]
   split
   . rename_i h; subst h
     split
     . exact hv.symm
     . rename_i h2; rw [auF Q.a]
   . rfl
 have hp : ((f1 ++ (f2 ++ f3)) ++ gp).Perm ((f1 ++ f3) ++ (f2 ++ gp)) := by
   have h1 : (f2 ++ f3).Perm (f3 ++ f2) := atj
   have h2 := (atD f1 h1).append_right gp
   simp only [asO] at h2 ⊢
   exact h2
 refine ⟨v, hv, ⟨⟨f1 ++ f3, f2 ++ gp, ?_, .cons rt r, hp.nodup_iff.mp nd, fun a ha => k a (hp.mem_iff.mpr ha)⟩, S.bh, S.zz, S.zh, S.new, S.tp, S.tab⟩⟩
 have := del (o := some v)
 rwa [ah0] at this
theorem bY.look (S : Q.K) (hi : δ[i]? = some (some t)) : ∃ v, σ[i]? = some (some v) /\ cC K CL H t.iX v := by
 obtain ⟨fp, gp, e, r, nd, k⟩ := S.rep
 obtain ⟨v, f1, f2, f3, hv, v8, rt, _, _⟩ := e.get hi
 exact ⟨v, hv, rt.iX S.zh fun _ _ => rfl⟩
theorem bY.agH {d : D} (S : Q.K) (hi : δ[i]? = some (some (.sh d))) : ∃ v, σ[i]? = some (some v) /\ cC K CL Z d v := by
 obtain ⟨fp, gp, e, r, nd, k⟩ := S.rep
 obtain ⟨v, f1, f2, f3, hv, v8, rt, _, _⟩ := e.get hi
 cases rt with
 | sh h => exact ⟨v, hv, h⟩
theorem bY.set (S : Q.af) (hi : i < δ.length) : bY K CL b H Z (δ.set i (some t)) (σ.set i (some v)) ts vs := by
 obtain ⟨fp, gp, e, r, nd, k⟩ := S.rep
 cases r with
 | @cons _ _ _ _ f1 f2 r1 r2 =>
   obtain ⟨f, h1, f', h2, h3⟩ := e.put r1 hi
   have hp : (f ++ f2).Perm (f' ++ (f1 ++ f2)) := by
     refine (h3.append_right f2).trans ?_
     rw [← asO]
     exact atj.append_right f2
   have aaK : (f' ++ (f1 ++ f2)).Sublist (fp ++ (f1 ++ f2)) := atn h2 (atq _)
   exact ⟨⟨f, f2, h1, r2, hp.nodup_iff.mpr (nd.sublist aaK), fun a ha => k a (aaK.subset (hp.mem_iff.mp ha))⟩, S.bh, S.zz, S.zh, S.new, S.tp, S.tab⟩
mutual
def D.qa : D -> Bool
 | .tup ds => D.cV ds
 | .lst _ => false
 | .ins _ _ => false
 | .vt _ => false
 | .dct _ => false
 | .any => false
 | _ => true
def D.cV : List D -> Bool
 | [] => true
 | d :: ds => d.qa && D.cV ds
end
mutual
def T.clean : T -> Bool
 | .sh d => d.qa
 | .tup ts => T.eV ts
 | .lst ts => T.eV ts
 | .ins _ fs => T.cM fs
 | .vt b8 => D.cV (b8.map (·.2))
 | .dct b8 => T.Lg b8
 | .pin _ t => t.clean
def T.eV : List T -> Bool
 | [] => true
 | t :: ts => t.clean && T.eV ts
def T.cM : List (Str × T) -> Bool
 | [] => true
 | (_, t) :: ts => t.clean && T.cM ts
def T.Lg : List (List Key × T) -> Bool
 | [] => true
 | (_, t) :: ts => t.clean && T.Lg ts
end
def dH (X : Cx) (CL : Q.g) (b : Bx) (e : Expr) (δ : Q.n) (t : T) (δ' : Q.n) : Prop :=
 ∀ (H Z : Hp) (σ : L2.St) (ts : List T) (vs : List V) (Q : VK), bY X.K CL b H Z δ σ ts vs -> (∀ v H' Z', aR Z Z' -> aR H H' -> bY X.K CL b H' Z' δ' σ (t :: ts) (v :: vs) -> Q v H') -> Le X e σ H Q
def eF (X : Cx) (CL : Q.g) (b : Bx) (e : Expr) (δ : Q.n) (d : D) (δ' : Q.n) : Prop :=
 ∀ (H Z : Hp) (σ : L2.St) (ts : List T) (vs : List V) (Q : VK), bY X.K CL b H Z δ σ ts vs -> (∀ v H' Z', aR Z Z' -> aR H H' -> bY X.K CL b H' Z' δ' σ ts vs -> cC X.K CL H' d v -> Q v H') -> Le X e σ H Q
def xP (X : Cx) (CL : Q.g) (b : Bx) (e : Expr) (δ : Q.n) (p : Bool) (δ' : Q.n) : Prop :=
 ∀ (H Z : Hp) (σ : L2.St) (ts : List T) (vs : List V) (Q : Bool -> Hp -> Prop), bY X.K CL b H Z δ σ ts vs -> (∀ H' Z', aR Z Z' -> aR H H' -> bY X.K CL b H' Z' δ' σ ts vs -> Q p H') -> adN X e σ H Q
def XM (X : Cx) (CL : Q.g) (b : Bx) (es : List Expr) (δ : Q.n) (tl : List T) (δ' : Q.n) : Prop :=
 ∀ (H Z : Hp) (σ : L2.St) (ts : List T) (vs : List V) (Q : List V -> Hp -> Prop), bY X.K CL b H Z δ σ ts vs →
   (∀ us H' Z', us.length = tl.length -> aR Z Z' -> aR H H' -> bY X.K CL b H' Z' δ' σ (tl.reverse ++ ts) (us.reverse ++ vs) -> Q us H') -> Lf X es σ H Q
def BAv (X : Cx) (CL : Q.g) (b : Bx) (es : List Expr) (δ : Q.n) (ds : List D) (δ' : Q.n) : Prop :=
 ∀ (H Z : Hp) (σ : L2.St) (ts : List T) (vs : List V) (Q : List V -> Hp -> Prop), bY X.K CL b H Z δ σ ts vs →
   (∀ us H' Z', aR Z Z' -> aR H H' -> bY X.K CL b H' Z' δ' σ ts vs -> aX X.K CL H' ds us -> Q us H') -> Lf X es σ H Q
structure gX where
 nx : List (Option T) -> Prop
 rt : T -> List (Option T) -> Prop
 bk : List (Option T) -> Prop := fun _ => False
 ct : List (Option T) -> Prop := fun _ => False
structure Meets (K : Q.l) (CL : Q.g) (b : Bx) (Z : Hp) (ts : List T) (vs : List V) (D : gX) (E : Ends) : Prop where
 nx : ∀ δ' σ' H' Z', aR Z Z' -> bY K CL b H' Z' δ' σ' ts vs -> D.nx δ' -> E.nx σ' H'
 rt : ∀ t v H' Z' δ' σ', aR Z Z' -> bY K CL b H' Z' δ' σ' (t :: ts) (v :: vs) -> D.rt t δ' -> E.rt v H'
 bk : ∀ δ' σ' H' Z', aR Z Z' -> bY K CL b H' Z' δ' σ' ts vs -> D.bk δ' -> E.bk σ' H'
 ct : ∀ δ' σ' H' Z', aR Z Z' -> bY K CL b H' Z' δ' σ' ts vs -> D.ct δ' -> E.ct σ' H'
def TSv (X : Cx) (CL : Q.g) (b : Bx) (st : Stmt) (δ : Q.n) (D : gX) : Prop :=
 ∀ (H Z : Hp) (σ : L2.St) (ts : List T) (vs : List V) (E : Ends), bY X.K CL b H Z δ σ ts vs -> Meets X.K CL b Z ts vs D E -> adO X st E σ H
def dY (X : Cx) (CL : Q.g) (b : Bx) (st : List Stmt) (δ : Q.n) (D : gX) : Prop :=
 ∀ (H Z : Hp) (σ : L2.St) (ts : List T) (vs : List V) (E : Ends), bY X.K CL b H Z δ σ ts vs -> Meets X.K CL b Z ts vs D E -> RD X st E σ H
theorem Meets.mono {D : gX} {E : Ends} (M : Meets K CL b Z ts vs D E) (e : aR Z Z') : Meets K CL b Z' ts vs D E :=
 ⟨fun _ _ _ _ s => M.nx _ _ _ _ (e.trans s), fun _ _ _ _ _ _ s => M.rt _ _ _ _ _ _ (e.trans s), fun _ _ _ _ s => M.bk _ _ _ _ (e.trans s), fun _ _ _ _ s => M.ct _ _ _ _ (e.trans s)⟩
theorem VN (zh : ∀ a o, H a = some o -> pB o = true -> Z a = some o) (h : Fp K H a xs) : Fp K Z a xs := by
 rcases h with (h | ⟨o, h⟩) | h
 . exact .inl (.inl (zh _ _ h rfl))
 . exact .inl (.inr ⟨o, zh _ _ h rfl⟩)
 . exact .inr h
theorem cC.qa (zh : ∀ a o, H a = some o -> pB o = true -> Z a = some o) {d : D} (k : d.qa = true) (h : cC K CL H d v) : cC K CL Z d v :=
 cC.rec (motive_1 := fun d v _ => d.qa = true -> cC K CL Z d v) (motive_2 := fun d v _ => D.cV d = true -> aX K CL Z d v) (motive_3 := fun d v _ => True) (motive_4 := fun d v _ => True) (motive_5 := fun d v _ => True)
   (fun _ => .non) (fun b _ => .bl b) (fun b _ => .int b) (fun b _ => .str b) (fun _ k => by rw [D.qa] at k; cases k) (fun b _ => .val b) (fun h _ r k => .tup (VN zh h) (r (by rw [D.qa] at k; exact k))) Q.ap Q.ap Q.ap Q.ap (fun _ => .nil) (fun _ _ h r k => by rw [D.cV, asZ] at k; exact .cons (h k.1) (r k.2)) trivial Q.P trivial Q.P trivial Q.P h k
theorem aX.qa (zh : ∀ a o, H a = some o -> pB o = true -> Z a = some o) {d : List D} {v : List V} (k : D.cV d = true) (h : aX K CL H d v) : aX K CL Z d v :=
 aX.rec (motive_1 := fun d v _ => d.qa = true -> cC K CL Z d v) (motive_2 := fun d v _ => D.cV d = true -> aX K CL Z d v) (motive_3 := fun d v _ => True) (motive_4 := fun d v _ => True) (motive_5 := fun d v _ => True)
   (fun _ => .non) (fun b _ => .bl b) (fun b _ => .int b) (fun b _ => .str b) (fun _ k => by rw [D.qa] at k; cases k) (fun b _ => .val b) (fun h _ r k => .tup (VN zh h) (r (by rw [D.qa] at k; exact k))) Q.ap Q.ap Q.ap Q.ap (fun _ => .nil) (fun _ _ h r k => by rw [D.cV, asZ] at k; exact .cons (h k.1) (r k.2)) trivial Q.P trivial Q.P trivial Q.P h k
variable {gs : List (Key × V)}
theorem cO.clean {Z1 : Hp} (zi : ∀ {d : D} {v : V}, d.qa = true -> cC K CL Z1 d v -> cC K CL Z d v) {b8 : List (Key × D)} (k : D.cV (b8.map (·.2)) = true) (h : cO K CL Z1 b8 gs) : cO K CL Z b8 gs :=
 cO.ind (P := fun b8 gs => D.cV (b8.map (·.2)) = true -> cO K CL Z b8 gs) (fun _ => .nil) (fun h _ i k => by rw [atg, D.cV, asZ] at k; exact .cons (zi k.1 h) (i k.2)) h k
theorem cL.clean {Z1 : Hp} (zh : ∀ a xs, Z1 a = some (.tup xs) -> Z a = some (.tup xs)) (zi : ∀ {d : D} {v : V}, d.qa = true -> cC K CL Z1 d v -> cC K CL Z d v) (k : t.clean = true) (h : cL K CL H Z1 t v fp) : cL K CL H Z t v fp :=
 cL.rec (motive_1 := fun t v fp _ => t.clean = true -> cL K CL H Z t v fp) (motive_2 := fun t v fp _ => T.eV t = true -> bJ K CL H Z t v fp) (motive_3 := fun t v fp _ => T.cM t = true -> eO K CL H Z t v fp) (motive_4 := fun t v fp _ => T.Lg t = true -> Fx K CL H Z t v fp)
   (fun h k => .sh (zi (by rw [T.clean] at k; exact k) h)) (fun h _ r k => .tup (zh _ _ h) (r (by rw [T.clean] at k; exact k))) (fun h _ r k => .lst h (r (by rw [T.clean] at k; exact k))) (fun h _ r k => .ins h (r (by rw [T.clean] at k; exact k))) (fun h f k => .vt h (cO.clean zi (by rw [T.clean] at k; exact k) f)) (fun h _ r k => .dct h (r (by rw [T.clean] at k; exact k))) (fun _ r k => .pin (r (by rw [T.clean] at k; exact k))) (fun _ => .nil) (fun _ _ h r k => by rw [T.eV, asZ] at k; exact .cons (h k.1) (r k.2)) (fun _ => .nil) (fun _ _ h r k => by rw [T.cM, asZ] at k; exact .cons (h k.1) (r k.2)) (fun _ => .nil) (fun _ _ h r k => by rw [T.Lg, asZ] at k; exact .cons (h k.1) (r k.2)) h k
theorem bY.back {W W' : Hp} (S : Q.K) (hh : aR H H') (zw : aR Z W) (ww : aR W W') (wh : aR W' H') (new : ∀ a o, W' a = some o -> W a = none -> H a = none)
   (tp : ∀ a o, H' a = some o -> pB o = true -> W' a = some o) (r : cL K CL H' W' t v fp) (nd : fp.Nodup) (own : ∀ a ∈ fp, W' a = none /\ H a = none) (c : W = Z \/ t.clean = true) :
   ∃ Z', aR Z Z' /\ bY K CL b H' Z' δ σ (t :: ts) (v :: vs) := by
 classical
 let Z' : Hp := fun a => if (H a).isSome = true then Z a else W' a
 have zs : ∀ {a : Addr} {o : HO}, H a = some o -> Z' a = Z a := fun {a o} e => by
   show (if (H a).isSome = true then Z a else W' a) = Z a
   rw [asM (by rw [e]; rfl)]
 have zn : ∀ {a : Addr}, H a = none -> Z' a = W' a := fun {a} e => by
   show (if (H a).isSome = true then Z a else W' a) = W' a
   rw [asH (by rw [e]; simp)]
 have sz : aR Z Z' := fun a o q => by rw [zs (S.zh a o q)]; exact q
 have zw' : ∀ a o, Z' a = some o -> W' a = some o := fun a o q => by
   cases e : H a with
   | none => rw [zn e] at q; exact q
   | some u => rw [zs e] at q; exact ww a o (zw a o q)
 have ztp : ∀ a o, H' a = some o -> pB o = true -> Z' a = some o := fun a o q i => by
   cases e : H a with
   | none => rw [zn e]; exact tp a o q i
   | some u =>
     rw [zs e]
     have := hh a u e
     rw [q] at this; cases this
     exact S.tp a o e i
 have r' : cL K CL H' Z' t v fp := by
   rcases c with c | c
   . have : Z' = W' := by
       funext a
       cases e : H a with
       | none => exact zn e
       | some u =>
         rw [zs e]
         cases q : W' a with
         | none =>
           cases q2 : Z a with
           | none => rfl
           | some o => rw [ww a o (zw a o q2)] at q; cases q
         | some o =>
           cases q2 : W a with
           | none => rw [new a o q q2] at e; cases e
           | some o2 =>
             have := ww a o2 q2
             rw [q] at this; cases this
             rw [← c]; exact q2
     rw [this]; exact r
   . refine cL.clean (fun a xs h => ?_) (fun {d v} k h => ?_) c r
     . exact ztp a _ (wh a _ h) rfl
     . exact cC.qa (H := H') ztp k (h.mono wh)
 obtain ⟨f0, g0, e0, r0, nd0, k0⟩ := S.rep
 have old : ∀ a ∈ f0 ++ g0, ∃ o, H a = some o := fun a ha => (asQ.mp ha).elim (e0.there a) (r0.there a)
 have keep : ∀ a ∈ f0 ++ g0, H' a = H a := fun a ha => by
   obtain ⟨o, e⟩ := old a ha
   rw [e]; exact hh a o e
 refine ⟨Z', sz, ⟨⟨f0, fp ++ g0, e0.mono sz (fun a ha => keep a (asL _ ha)), .cons r' (r0.mono sz fun a ha => keep a (asJ _ ha)), ?_, fun a ha => ?_⟩, S.bh.trans hh, S.zz.trans sz, fun a o q => wh a o (zw' a o q), fun a o q z => ?_, ztp, S.tab⟩⟩
 . have hp : (f0 ++ (fp ++ g0)).Perm (fp ++ (f0 ++ g0)) := by
     rw [← asO, ← asO]
     exact atj.append_right g0
   refine hp.nodup_iff.mpr (atr.mpr ⟨nd, nd0, fun a ha c hc e => ?_⟩)
   subst e
   obtain ⟨o, q⟩ := old a hc
   rw [(own a ha).2] at q; cases q
 . have : a ∈ f0 ++ g0 \/ a ∈ fp := by
     simp only [asQ] at ha ⊢
     rcases ha with h | h | h
     . exact .inl (.inl h)
     . exact .inr h
     . exact .inl (.inr h)
   rcases this with h | h
   . obtain ⟨o, q⟩ := old a h
     exact ⟨by rw [zs q]; exact (k0 a h).1, (k0 a h).2⟩
   . exact ⟨by rw [zn (own a h).2]; exact (own a h).1, S.bh.free (own a h).2⟩
 . cases e : H a with
   | none => exact S.bh.free e
   | some u => rw [zs e] at q; exact S.new a o q z
section
variable {δ1 δ2 : Q.n} {e1 e2 : Expr} {pos : Pos} {d d1 d2 : D}
theorem VP (h : Q.Q) : eF X CL b e δ t.iX δ1 := fun H Z σ ts vs Q S k => h H Z σ ts vs Q S fun v H' Z' z s S' => k v H' Z' z s S'.pop S'.view
theorem ai (h : dH X CL b e δ (.sh d) δ1) : eF X CL b e δ d δ1 := by have := VP h; rwa [T.iX] at this
theorem b9 (h : eF X CL b e δ d δ1) (i : d.qa = true) : dH X CL b e δ (.sh d) δ1 := fun H Z σ ts vs Q S k => h H Z σ ts vs Q S fun v H' Z' z s S' r => k v H' Z' z s (S'.push (cC.qa S'.tp i r))
theorem RH (h : Q.Q) : dH X CL b e δ (.sh t.iX) δ1 := fun H Z σ ts vs Q S k => h H Z σ ts vs Q S fun v H' Z' z s S' => by
 obtain ⟨Z2, z2, S2⟩ := S'.aaJ
 exact k v H' Z2 (z.trans z2) s S2
theorem aj {i : Int} {j : Nat} : dH X CL b (.Constant (.int i) j pos) δ (.sh (.int i)) δ := fun H Z σ ts vs Q S k => dS aad (k _ _ Z Q.j Q.j (S.push (.int i)))
theorem f9 {i : Bool} {j : Nat} : dH X CL b (.Constant (.bool i) j pos) δ (.sh (.bl i)) δ := fun H Z σ ts vs Q S k => dS akC (k _ _ Z Q.j Q.j (S.push (.bl i)))
theorem bx {x : Str} {j : Nat} : dH X CL b (.Constant (.str x) j pos) δ (.sh (.str x)) δ := fun H Z σ ts vs Q S k => dS ahi (k _ _ Z Q.j Q.j (S.push (.str x)))
section
variable {x : Str} (i : Nat) (hi : X.N[i]? = some x := by rfl) (hv : Vis X.env.scope x := by first | exact Or.inl rfl | exact Or.inr (Or.inl rfl) | exact Or.inr (Or.inr rfl)) (hd : Q.s := by decide) (rE : Q.ah := by decide)
include hi hv hd rE
theorem ah1 (h : δ[i]? = some (some (.sh d)) := by rfl) : dH X CL b Q.B δ (.sh d) δ := fun H Z σ ts vs Q S k => by
 obtain ⟨v, e, r⟩ := S.agH h
 exact dS (ow hi hv hd rE) ⟨v, e, k v H Z Q.j Q.j (S.push r)⟩
theorem adQ (h : δ[i]? = some (some t) := by rfl) : dH X CL b Q.B δ (.sh t.iX) (δ.set i (some (.sh t.iX))) := fun H Z σ ts vs Q S k => by
 obtain ⟨v, Z', e, z, S'⟩ := S.adP h
 exact dS (ow hi hv hd rE) ⟨v, e, k v H Z' z Q.j S'⟩
theorem adR (h : δ[i]? = some (some t) := by rfl) : dH X CL b Q.B δ t (δ.set i none) := fun H Z σ ts vs Q S k => by
 obtain ⟨v, e, S'⟩ := S.move h
 exact dS (ow hi hv hd rE) ⟨v, e, k v H Z Q.j Q.j S'⟩
theorem ah2 (h : δ[i]? = some (some t) := by rfl) : eF X CL b Q.B δ t.iX δ := fun H Z σ ts vs Q S k => by
 obtain ⟨v, e, r⟩ := S.look h
 exact dS (ow hi hv hd rE) ⟨v, e, k v H Z Q.j Q.j S r⟩
end
def scV : D -> Option V
 | .non => some .non
 | .bl b => some (.bl b)
 | .int i => some (.int i)
 | .str x => some (.str x)
 | _ => none
theorem cC.sc {d : D} {w : V} (r : cC K CL Z d v) (h : scV d = some w) : v = w := by
 cases r <;> first | (exact atv h) | (cases h)
theorem adT {d : D} {w : V} (h : scV d = some w) : cC K CL Z d w := by
 cases d <;> first | (cases h; constructor) | (cases h)
theorem v9 {op : Operator} {r : R2} {w1 w2 w : V} (ho : vX X (binaryOp op) r) (h1 : eF X CL b e1 δ d1 δ1) (h2 : eF X CL b e2 δ1 d2 δ2) (s1 : scV d1 = some w1) (s2 : scV d2 = some w2) (s3 : scV d = some w)
   (hr : ∀ (H : Hp) (Q : VK), Q w H -> r w1 w2 H Q) : dH X CL b (.BinOp e1 op e2 pos) δ (.sh d) δ2 := fun H Z σ ts vs Q S k => by
 refine dS (aaj ho fh fh) (h1 H Z σ ts vs _ S fun v1 H1 Z1 z1 k1 S1 r1 => h2 H1 Z1 σ ts vs _ S1 fun v2 H2 Z2 z2 k2 S2 r2 => ?_)
 rw [r1.sc s1, r2.sc s2]
 exact hr H2 Q (k w H2 Z2 Q.w Q.D (S2.push (adT s3)))
theorem bZ {i j : Int} (h1 : Q.Y) (h2 : Q.ab) : dH X CL b (.BinOp e1 .Add e2 pos) δ (.sh (.int (i + j))) δ2 := v9 ahA h1 h2 rfl rfl rfl fun _ _ q => ⟨i, j, rfl, rfl, q⟩
theorem eW {i j : Int} (h1 : Q.Y) (h2 : Q.ab) : dH X CL b (.BinOp e1 .Sub e2 pos) δ (.sh (.int (i - j))) δ2 := v9 ahB h1 h2 rfl rfl rfl fun _ _ q => ⟨i, j, rfl, rfl, q⟩
theorem RJ {i j : Int} (h1 : Q.Y) (h2 : Q.ab) (c : adA i j) : dH X CL b (.BinOp e1 .Mult e2 pos) δ (.sh (.int (i * j))) δ2 := v9 ahC h1 h2 rfl rfl rfl fun _ _ q => ⟨i, j, rfl, rfl, c, q⟩
theorem aQ {i j : Int} (h1 : Q.Y) (h2 : Q.ab) (c : 0 < j) : dH X CL b (.BinOp e1 .Mod e2 pos) δ (.sh (.int (i % j))) δ2 := v9 ahD h1 h2 rfl rfl rfl fun _ _ q => ⟨i, j, rfl, rfl, c, q⟩
theorem aT {i j : Int} (h1 : Q.Y) (h2 : Q.ab) (c : akS i j) : dH X CL b (.BinOp e1 .FloorDiv e2 pos) δ (.sh (.int (i / j))) δ2 := v9 adB h1 h2 rfl rfl rfl fun _ _ q => ⟨i, j, rfl, rfl, c, q⟩
theorem gM {i j : Int} (h1 : Q.Y) (h2 : Q.ab) (c : akT i j) : dH X CL b (.BinOp e1 .Pow e2 pos) δ (.sh (.int (i ^ j.toNat))) δ2 := v9 ahE h1 h2 rfl rfl rfl fun _ _ q => ⟨i, j, rfl, rfl, c, q⟩
theorem tZ {x y : Str} (h1 : eF X CL b e1 δ (.str x) δ1) (h2 : eF X CL b e2 δ1 (.str y) δ2) (c : x.length + y.length <= sizeLine) : dH X CL b (.BinOp e1 .Add e2 pos) δ (.sh (.str (x ++ y))) δ2 := v9 Rt h1 h2 rfl rfl rfl fun _ _ q => ⟨x, y, rfl, rfl, c, q⟩
theorem Fy {op : CmpOp} {r : R2} {p : Bool} {w1 w2 : V} (ho : vX X (compareOp op) r) (h1 : eF X CL b e1 δ d1 δ1) (h2 : eF X CL b e2 δ1 d2 δ2) (s1 : scV d1 = some w1) (s2 : scV d2 = some w2)
   (hr : ∀ (H : Hp) (Q : VK), Q (.bl p) H -> r w1 w2 H Q) (hm : behindInMarks op e2 = false) : xP X CL b (.Compare e1 [op] [e2] pos) δ p δ2 /\ dH X CL b (.Compare e1 [op] [e2] pos) δ (.sh (.bl p)) δ2 := by
 constructor
 . intro H Z σ ts vs Q S k
   refine J1 (xK ho fh fh hm) (h1 H Z σ ts vs _ S fun v1 H1 Z1 z1 k1 S1 r1 => h2 H1 Z1 σ ts vs _ S1 fun v2 H2 Z2 z2 k2 S2 r2 => ?_)
   rw [r1.sc s1, r2.sc s2]
   exact hr H2 _ ⟨p, rfl, k H2 Z2 Q.w Q.D S2⟩
 . intro H Z σ ts vs Q S k
   refine dS (xJ ho fh fh hm) (h1 H Z σ ts vs _ S fun v1 H1 Z1 z1 k1 S1 r1 => h2 H1 Z1 σ ts vs _ S1 fun v2 H2 Z2 z2 k2 S2 r2 => ?_)
   rw [r1.sc s1, r2.sc s2]
   exact hr H2 _ (k _ H2 Z2 Q.w Q.D (S2.push (.bl p)))
theorem alg {w1 w2 : V} (h1 : eF X CL b e1 δ d1 δ1) (h2 : eF X CL b e2 δ1 d2 δ2) (s1 : scV d1 = some w1) (s2 : scV d2 = some w2) (sc : ahG w1 w2 = true) :
   xP X CL b (.Compare e1 [.Eq] [e2] pos) δ (decide (w1 = w2)) δ2 /\ dH X CL b (.Compare e1 [.Eq] [e2] pos) δ (.sh (.bl (decide (w1 = w2)))) δ2 := Fy aal h1 h2 s1 s2 (fun _ _ q => ⟨sc, q⟩) (tY _)
theorem bG {i j : Int} (h1 : Q.Y) (h2 : Q.ab) : xP X CL b (.Compare e1 [.Eq] [e2] pos) δ (decide (i = j)) δ2 /\ dH X CL b (.Compare e1 [.Eq] [e2] pos) δ (.sh (.bl (decide (i = j)))) δ2 :=
 Fy aal h1 h2 rfl rfl (fun _ _ q => ⟨rfl, by rw [show decide (V.int i = V.int j) = decide (i = j) by simp]; exact q⟩) (tY _)
theorem pP {i j : Int} (h1 : Q.Y) (h2 : Q.ab) : xP X CL b (.Compare e1 [.NotEq] [e2] pos) δ (!decide (i = j)) δ2 /\ dH X CL b (.Compare e1 [.NotEq] [e2] pos) δ (.sh (.bl (!decide (i = j)))) δ2 :=
 Fy agy h1 h2 rfl rfl (fun _ _ q => ⟨rfl, by rw [show decide (V.int i = V.int j) = decide (i = j) by simp]; exact q⟩) (tY _)
theorem qM {i j : Str} (h1 : eF X CL b e1 δ (.str i) δ1) (h2 : eF X CL b e2 δ1 (.str j) δ2) : xP X CL b (.Compare e1 [.Eq] [e2] pos) δ (decide (i = j)) δ2 /\ dH X CL b (.Compare e1 [.Eq] [e2] pos) δ (.sh (.bl (decide (i = j)))) δ2 :=
 Fy aal h1 h2 rfl rfl (fun _ _ q => ⟨rfl, by rw [show decide (V.str i = V.str j) = decide (i = j) by simp]; exact q⟩) (tY _)
theorem aaM {i j : Str} (h1 : eF X CL b e1 δ (.str i) δ1) (h2 : eF X CL b e2 δ1 (.str j) δ2) : xP X CL b (.Compare e1 [.NotEq] [e2] pos) δ (!decide (i = j)) δ2 /\ dH X CL b (.Compare e1 [.NotEq] [e2] pos) δ (.sh (.bl (!decide (i = j)))) δ2 :=
 Fy agy h1 h2 rfl rfl (fun _ _ q => ⟨rfl, by rw [show decide (V.str i = V.str j) = decide (i = j) by simp]; exact q⟩) (tY _)
theorem Kp {i j : Int} (h1 : Q.Y) (h2 : Q.ab) : xP X CL b (.Compare e1 [.Lt] [e2] pos) δ (decide (i < j)) δ2 /\ dH X CL b (.Compare e1 [.Lt] [e2] pos) δ (.sh (.bl (decide (i < j)))) δ2 := Fy VA h1 h2 rfl rfl (fun _ _ q => ⟨i, j, rfl, rfl, q⟩) (tY _)
theorem OV {i j : Int} (h1 : Q.Y) (h2 : Q.ab) : xP X CL b (.Compare e1 [.Gt] [e2] pos) δ (decide (j < i)) δ2 /\ dH X CL b (.Compare e1 [.Gt] [e2] pos) δ (.sh (.bl (decide (j < i)))) δ2 := Fy akV h1 h2 rfl rfl (fun _ _ q => ⟨i, j, rfl, rfl, q⟩) (tY _)
end
theorem bJ.split : ∀ {as bs : List T} {us ws : List V} {gp : Q.p}, as.length = us.length -> bJ K CL H Z (as ++ bs) (us ++ ws) gp -> ∃ g1 g2, gp = g1 ++ g2 /\ bJ K CL H Z as us g1 /\ bJ K CL H Z bs ws g2
 | [], _, [], _, gp, _, r => ⟨[], gp, rfl, .nil, r⟩
 | [], _, _ :: _, _, _, h, _ => by simp at h
 | _ :: _, _, [], _, _, h, _ => by simp at h
 | a :: as, bs, u :: us, ws, gp, h, r => by
   cases r with
   | @cons _ _ _ _ f1 f2 r1 r2 =>
     obtain ⟨g1, g2, e, h1, h2⟩ := bJ.split (as := as) (us := us) (by simpa using h) r2
     exact ⟨f1 ++ g1, g2, by rw [e, asO], .cons r1 h1, h2⟩
variable {us : List V}
theorem bJ.app {as bs : List T} {ws : List V} {g1 g2 : Q.p} (h : bJ K CL H Z as us g1) (q : bJ K CL H Z bs ws g2) : bJ K CL H Z (as ++ bs) (us ++ ws) (g1 ++ g2) :=
 bJ.ind (P := fun as us g1 => bJ K CL H Z (as ++ bs) (us ++ ws) (g1 ++ g2)) q (fun r _ i => by rw [asO]; exact .cons r i) h
theorem bJ.rev : ∀ {as : List T} {us : List V} {g : Q.p}, bJ K CL H Z as.reverse us.reverse g -> ∃ g', bJ K CL H Z as us g' /\ g'.Perm g
 | [], [], g, r => by
   have r' : bJ K CL H Z [] [] g := r
   cases r'
   exact ⟨[], .nil, auV _⟩
 | [], u :: us, g, r => by have := r.length; simp at this
 | a :: as, [], g, r => by have := r.length; simp at this
 | a :: as, u :: us, g, r => by
   rw [atM, atM] at r
   have hl := r.length
   obtain ⟨g1, g2, e, r1, r2⟩ := bJ.split (by simp at hl ⊢; omega) r
   subst e
   obtain ⟨g', r', p⟩ := bJ.rev r1
   cases r2 with
   | @cons _ _ _ _ f1 f2 q1 q2 =>
     cases q2
     refine ⟨f1 ++ g', .cons q1 r', ?_⟩
     rw [atw]
     exact (atD f1 p).trans atj
theorem rJ : ∀ (ds : List D), T.lq (ds.map T.sh) = ds
 | [] => rfl
 | d :: ds => by rw [atg, T.lq, rJ ds, T.iX]
variable {tl : List T}
theorem bY.aaN (S : bY K CL b H Z δ σ (tl.reverse ++ ts) (us.reverse ++ vs)) (hl : us.length = tl.length) (hp : H p = none) :
   aR Z (upd Z p (.tup us)) /\ aR H (upd H p (.tup us)) /\ bY K CL b (upd H p (.tup us)) (upd Z p (.tup us)) δ σ (.tup tl :: ts) (.ref p :: vs) := by
 obtain ⟨fp, gp, e, r, nd, k⟩ := S.rep
 obtain ⟨g1, g2, eg, r1, r2⟩ := bJ.split (by simp [hl]) r
 subst eg
 obtain ⟨g', r', pm⟩ := r1.rev
 have zp : Z p = none := S.zh.free hp
 have sz : aR Z (upd Z p (.tup us)) := aR.upd zp
 have sh : aR H (upd H p (.tup us)) := aR.upd hp
 have keep : ∀ a ∈ fp ++ (g1 ++ g2), a ≠ p := fun a ha => by
   have : ∃ o, H a = some o := by
     rcases asQ.mp ha with h | h
     . exact e.there a h
     . exact r.there a h
   obtain ⟨o, q⟩ := this
   exact cJ q hp
 have pm2 : (fp ++ (g' ++ g2)).Perm (fp ++ (g1 ++ g2)) := (pm.append_right g2).append_left fp
 have kk : ∀ a ∈ fp ++ (g' ++ g2), a ≠ p := fun a ha => keep a (pm2.mem_iff.mp ha)
 refine ⟨sz, sh, ⟨⟨fp, g' ++ g2, e.mono sz (fun a ha => aP (keep a (asL _ ha))), .cons (.tup bR (r'.mono sz fun a ha => aP (kk a (by simp [ha])))) (r2.mono sz fun a ha => aP (keep a (by simp [ha]))), pm2.nodup_iff.mpr nd, fun a ha => ?_⟩, S.bh.trans sh, S.zz.trans sz, fun a o q => ?_, fun a o q z => ?_, fun a o q i => ?_, S.tab⟩⟩
 . exact ⟨by rw [aP (kk a ha)]; exact (k a (pm2.mem_iff.mp ha)).1, (k a (pm2.mem_iff.mp ha)).2⟩
 . by_cases ha : a = p
   . subst ha; rw [bR] at q ⊢; exact q
   . rw [aP ha] at q ⊢; exact S.zh a o q
 . by_cases ha : a = p
   . subst ha; exact S.bh.free hp
   . rw [aP ha] at q; exact S.new a o q z
 . by_cases ha : a = p
   . subst ha; rw [bR] at q ⊢; exact q
   . rw [aP ha] at q ⊢; exact S.tp a o q i
theorem bY.zk {g0 : Q.p} (S : bY K CL b H Z δ σ (tl.reverse ++ ts) (us.reverse ++ vs)) (hl : us.length = tl.length) (hp : H p = none) :
   aR H (upd H p (.lst us)) /\ bY K CL b (upd H p (.lst us)) Z δ σ (.lst tl :: ts) (.ref p :: vs) := by
 obtain ⟨fp, gp, e, r, nd, k⟩ := S.rep
 obtain ⟨g1, g2, eg, r1, r2⟩ := bJ.split (by simp [hl]) r
 subst eg
 obtain ⟨g', r', pm⟩ := r1.rev
 have zp : Z p = none := S.zh.free hp
 have sh : aR H (upd H p (.lst us)) := aR.upd hp
 have keep : ∀ a ∈ fp ++ (g1 ++ g2), a ≠ p := fun a ha => by
   have : ∃ o, H a = some o := by
     rcases asQ.mp ha with h | h
     . exact e.there a h
     . exact r.there a h
   obtain ⟨o, q⟩ := this
   exact cJ q hp
 have pm2 : (fp ++ (g' ++ g2)).Perm (fp ++ (g1 ++ g2)) := (pm.append_right g2).append_left fp
 have kk : ∀ a ∈ fp ++ (g' ++ g2), a ≠ p := fun a ha => keep a (pm2.mem_iff.mp ha)
 have pm3 : (fp ++ ((p :: g') ++ g2)).Perm (p :: (fp ++ (g' ++ g2))) := by
   rw [att]; exact aue
 refine ⟨sh, ⟨⟨fp, (p :: g') ++ g2, e.mono Q.j (fun a ha => aP (keep a (asL _ ha))), .cons (.lst bR (r'.mono Q.j fun a ha => aP (kk a (by simp [ha])))) (r2.mono Q.j fun a ha => aP (keep a (by simp [ha]))), ?_, fun a ha => ?_⟩, S.bh.trans sh, S.zz, S.zh.trans sh, S.new, fun a o q i => ?_, S.tab⟩⟩
 . refine pm3.nodup_iff.mpr (atL.mpr ⟨fun h => kk p h rfl, pm2.nodup_iff.mpr nd⟩)
 . rcases asX.mp (pm3.mem_iff.mp ha) with h | h
   . subst h; exact ⟨zp, S.bh.free hp⟩
   . exact k a (pm2.mem_iff.mp h)
 . by_cases ha : a = p
   . subst ha; rw [bR] at q; cases q; cases i
   . rw [aP ha] at q; exact S.tp a o q i
variable {δ1 δ2 : Q.n} {e1 e2 : Expr} {p q : Bool} {pos : Pos} {d : D} {ds : List D}
theorem c7 : XM X CL b [] δ [] δ := fun H Z σ ts vs Q S k => J2 iy (k [] H Z rfl Q.j Q.j S)
theorem bL (h1 : Q.Q) (h2 : XM X CL b es δ1 tl δ2) (hs : Q.O := by exact cE rfl) : XM X CL b (e :: es) δ (t :: tl) δ2 := fun H Z σ ts vs Q S k =>
 J2 (dh fh VL hs) (h1 H Z σ ts vs _ S fun v H1 Z1 z1 k1 S1 => h2 H1 Z1 σ _ _ _ S1 fun us H2 Z2 hl z2 k2 S2 => k (v :: us) H2 Z2 (by simp [hl]) Q.w Q.D (by
   rw [atM, atM, asO, asO]
   exact S2))
theorem aG : BAv X CL b [] δ [] δ := fun H Z σ ts vs Q S k => J2 iy (k [] H Z Q.j Q.j S .nil)
theorem ao (h1 : eF X CL b e δ d δ1) (h2 : BAv X CL b es δ1 ds δ2) (hs : Q.O := by exact cE rfl) : BAv X CL b (e :: es) δ (d :: ds) δ2 := fun H Z σ ts vs Q S k =>
 J2 (dh fh VL hs) (h1 H Z σ ts vs _ S fun v H1 Z1 z1 k1 S1 r1 => h2 H1 Z1 σ _ _ _ S1 fun us H2 Z2 z2 k2 S2 r2 => k (v :: us) H2 Z2 Q.w Q.D S2 (.cons (r1.mono k2) r2))
variable {j : Nat}
theorem aaP (h : XM X CL b es δ tl δ1) (hl : tl.length <= sizeLine) : dH X CL b (.Tuple es j pos) δ (.tup tl) δ1 := fun H Z σ ts vs Q S k =>
 dS (ahI VL) (h H Z σ ts vs _ S fun us H1 Z1 hu z1 k1 S1 => ⟨by rw [hu]; exact hl, fun p hp => by
   obtain ⟨a, c, S2⟩ := S1.aaN hu hp
   exact k _ _ _ (z1.trans a) (k1.trans c) S2⟩)
theorem bE (h : XM X CL b es δ (ds.map T.sh) δ1) (hl : ds.length <= sizeLine) : dH X CL b (.Tuple es j pos) δ (.sh (.tup ds)) δ1 := by
 have := RH (aaP (pos := pos) (j := j) h (by simpa using hl))
 rwa [T.iX, rJ] at this
theorem cS (h : XM X CL b es δ tl δ1) (hl : tl.length <= sizeLine) : dH X CL b (.List es pos) δ (.lst tl) δ1 := fun H Z σ ts vs Q S k =>
 dS (ahJ VL) (h H Z σ ts vs _ S fun us H1 Z1 hu z1 k1 S1 => ⟨by rw [hu]; exact hl, fun p hp => by
   obtain ⟨c, S2⟩ := S1.zk (g0 := []) hu hp
   exact k _ _ _ z1 (k1.trans c) S2⟩)
theorem kM (h : dH X CL b e δ (.sh (.bl p)) δ1) (he : ∀ whole, isTrue e X.env whole = (do let v ← whole; standAt e.pos; holding [v] (truthy v)) := by intro _; rfl) : xP X CL b e δ p δ1 := fun H Z σ ts vs Q S k =>
 J1 (ahk fh he) (h H Z σ ts vs _ S fun v H1 Z1 z1 k1 S1 => ⟨p, by have := S1.view; rw [T.iX] at this; exact this.sc rfl, k H1 Z1 z1 k1 S1.pop⟩)
theorem gO (h : xP X CL b e δ p δ1) : xP X CL b (.UnaryOp .Not e pos) δ (!p) δ1 := fun H Z σ ts vs Q S k => J1 (ahn ptS) (h H Z σ ts vs _ S fun H1 Z1 z1 k1 S1 => k H1 Z1 z1 k1 S1)
def ah3 (X : Cx) (e : Expr) : TT := fun σ H Q => ∀ (whole : Sem Value) (pins : Q.o) (s : Shared), Inv X pins σ H s -> wpAny Q.k X.A (isTrue e X.env whole) (TP X pins σ Q) X.xe s
theorem pwS : PW X e (ah3 X e) := fun whole pins s _ _ _ I h => h whole pins s I
def TWv (X : Cx) (CL : Q.g) (b : Bx) (e : Expr) (δ : Q.n) (p : Bool) (δ' : Q.n) : Prop :=
 ∀ (H Z : Hp) (σ : L2.St) (ts : List T) (vs : List V) (Q : Bool -> Hp -> Prop), bY X.K CL b H Z δ σ ts vs -> (∀ H' Z', aR Z Z' -> aR H H' -> bY X.K CL b H' Z' δ' σ ts vs -> Q p H') -> ah3 X e σ H Q
theorem adU {t : TT} (h : PW X e t) (q : t σ H Q) : ah3 X e σ H Q := fun whole pins s I => h whole pins s σ H Q I q
theorem t6 (h : TWv X CL b e δ p δ1) : xP X CL b e δ p δ1 := fun H Z σ ts vs Q S k pins s I => h H Z σ ts vs Q S k _ pins s I
theorem Br (h : xP X CL b e δ p δ1) : TWv X CL b (.BoolOp .And [e] pos) δ p δ1 := fun H Z σ ts vs Q S k => adU (adt ptS) (h H Z σ ts vs _ S k)
theorem wc (h : xP X CL b e δ p δ1) : TWv X CL b (.BoolOp .Or [e] pos) δ p δ1 := fun H Z σ ts vs Q S k => adU (ahl ptS) (h H Z σ ts vs _ S k)
theorem sL (h : xP X CL b e δ p δ1) (h2 : p = true -> TWv X CL b (.BoolOp .And (e2 :: es) pos) δ1 q δ1) : TWv X CL b (.BoolOp .And (e :: e2 :: es) pos) δ (p && q) δ1 := fun H Z σ ts vs Q S k =>
 adU (ahm ptS pwS) (h H Z σ ts vs _ S fun H1 Z1 z1 k1 S1 => by
   cases p with
   | true => exact XG (h2 rfl H1 Z1 σ ts vs _ S1 fun H2 Z2 z2 k2 S2 => k H2 Z2 Q.w Q.D S2)
   | false => exact XF (k H1 Z1 z1 k1 S1))
theorem sX (h : xP X CL b e δ p δ1) (h2 : p = false -> TWv X CL b (.BoolOp .Or (e2 :: es) pos) δ1 q δ1) : TWv X CL b (.BoolOp .Or (e :: e2 :: es) pos) δ (p || q) δ1 := fun H Z σ ts vs Q S k =>
 adU (akD ptS pwS) (h H Z σ ts vs _ S fun H1 Z1 z1 k1 S1 => by
   cases p with
   | true => exact XG (k H1 Z1 z1 k1 S1)
   | false => exact XF (h2 rfl H1 Z1 σ ts vs _ S1 fun H2 Z2 z2 k2 S2 => k H2 Z2 Q.w Q.D S2))
theorem zl {op : BoolOp} (h : Q.Q) : dH X CL b (.BoolOp op [e] pos) δ t δ1 := fun H Z σ ts vs Q S k => dS (aho fh) (h H Z σ ts vs _ S k)
theorem t7 (h : dH X CL b e δ (.sh (.bl p)) δ1) (h2 : p = true -> dH X CL b (.BoolOp .And (e2 :: es) pos) δ1 (.sh (.bl q)) δ1) : dH X CL b (.BoolOp .And (e :: e2 :: es) pos) δ (.sh (.bl (p && q))) δ1 := fun H Z σ ts vs Q S k =>
 dS (ahp fh fh) (h H Z σ ts vs _ S fun v H1 Z1 z1 k1 S1 => by
   have hv : v = .bl p := by have := S1.view; rw [T.iX] at this; exact this.sc rfl
   refine ⟨p, hv, ?_⟩
   cases p with
   | true => exact XG (h2 rfl H1 Z1 σ ts vs _ S1.pop fun v H2 Z2 z2 k2 S2 => k v H2 Z2 Q.w Q.D S2)
   | false => exact XF (k _ H1 Z1 z1 k1 (S1.pop.push (.bl false))))
theorem alh (h : dH X CL b e δ (.sh (.bl p)) δ1) (h2 : p = false -> dH X CL b (.BoolOp .Or (e2 :: es) pos) δ1 (.sh (.bl q)) δ1) : dH X CL b (.BoolOp .Or (e :: e2 :: es) pos) δ (.sh (.bl (p || q))) δ1 := fun H Z σ ts vs Q S k =>
 dS (akF fh fh) (h H Z σ ts vs _ S fun v H1 Z1 z1 k1 S1 => by
   have hv : v = .bl p := by have := S1.view; rw [T.iX] at this; exact this.sc rfl
   refine ⟨p, hv, ?_⟩
   cases p with
   | true => exact XG (k _ H1 Z1 z1 k1 (S1.pop.push (.bl true)))
   | false => exact XF (h2 rfl H1 Z1 σ ts vs _ S1.pop fun v H2 Z2 z2 k2 S2 => k v H2 Z2 Q.w Q.D S2))
variable {k : Int}
theorem VQ (r : aX K CL Z ds vs) (h : Bc ds k = some d) : ∃ v, Bc vs k = some v /\ cC K CL Z d v := by
 unfold Bc at h ⊢
 rw [← r.length]
 cases e : xM ds.length k with
 | none => rw [e] at h; cases h
 | some j =>
   rw [e] at h
   exact r.get h
theorem dN (h1 : eF X CL b e1 δ (.tup ds) δ1) (h2 : eF X CL b e2 δ1 (.int k) δ2) (hk : Bc ds k = some d) (hs : Bk e2 := by exact fun _ _ => rfl) : eF X CL b (.Subscript e1 e2 pos) δ d δ2 := fun H Z σ ts vs Q S kk =>
 dS (OO aav fh fh hs) (h1 H Z σ ts vs _ S fun v1 H1 Z1 z1 k1 S1 r1 => h2 H1 Z1 σ ts vs _ S1 fun v2 H2 Z2 z2 k2 S2 r2 => by
   have r1' := r1.mono k2
   cases r1' with
   | tup hq rr =>
     obtain ⟨v, hv, rv⟩ := VQ rr hk
     exact ⟨_, _, k, v, rfl, r2.sc rfl, hq, hv, kk v H2 Z2 Q.w Q.D S2 rv⟩)
theorem bD (h1 : eF X CL b e1 δ (.lst ds) δ1) (h2 : eF X CL b e2 δ1 (.int k) δ2) (hk : Bc ds k = some d) (hs : Bk e2 := by exact fun _ _ => rfl) : eF X CL b (.Subscript e1 e2 pos) δ d δ2 := fun H Z σ ts vs Q S kk =>
 dS (OO VG fh fh hs) (h1 H Z σ ts vs _ S fun v1 H1 Z1 z1 k1 S1 r1 => h2 H1 Z1 σ ts vs _ S1 fun v2 H2 Z2 z2 k2 S2 r2 => by
   have r1' := r1.mono k2
   cases r1' with
   | lst hq rr =>
     obtain ⟨v, hv, rv⟩ := VQ rr hk
     exact ⟨_, _, k, v, rfl, r2.sc rfl, hq, hv, kk v H2 Z2 Q.w Q.D S2 rv⟩)
variable {x : Str}
theorem aaQ {c : Nat} (h1 : eF X CL b e1 δ (.str x) δ1) (h2 : eF X CL b e2 δ1 (.int k) δ2) (hl : x.length <= sizeLine) (hk : Bc x.cps.toList k = some c) (hs : Bk e2 := by exact fun _ _ => rfl) : dH X CL b (.Subscript e1 e2 pos) δ (.sh (.str ⟨#[c]⟩)) δ2 := fun H Z σ ts vs Q S kk =>
 dS (OO ahO fh fh hs) (h1 H Z σ ts vs _ S fun v1 H1 Z1 z1 k1 S1 r1 => h2 H1 Z1 σ ts vs _ S1 fun v2 H2 Z2 z2 k2 S2 r2 =>
   ⟨x, k, c, r1.sc rfl, r2.sc rfl, hl, hk, kk _ H2 Z2 Q.w Q.D (S2.push (.str _))⟩)
theorem bY.Fz : ∀ {ds : List D} {us : List V} {ts : List T} {vs : List V}, aX K CL Z ds us -> bY K CL b H Z δ σ ts vs -> bY K CL b H Z δ σ ((ds.map T.sh).reverse ++ ts) (us.reverse ++ vs)
 | _, _, _, _, .nil, S => S
 | _, _, ts, vs, .cons (d := d) (v := v) (ds := ds) (vs := us) r t, S => by
   rw [atg, atM, atM, asO, asO]
   exact bY.Fz t (S.push r)
section
variable {pp : Pos} {ds : List D}
theorem VR (hm : X.mg "len" = none) (h : eF X CL b e δ (.lst ds) δ1) (hg : Gl X "len" := by rfl) (hs : Q.V := by exact cE rfl) (hpl : (backTo pos (starEach ([] : List Expr) X.env)).any (·.1) = false := by rfl) : dH X CL b (.Call (.Name "len" pp) [e] [] pos) δ (.sh (.int ds.length)) δ1 := fun H Z σ ts vs Q S k =>
 dS (vY Lb hg hm PySem.boot_len (dh fh iy hs) (he := hs)) (h H Z σ ts vs _ S fun v H1 Z1 z1 k1 S1 r => by
   cases r with
   | lst hq rr => exact ⟨_, _, rfl, .inl hq, by rw [← rr.length]; exact k _ H1 Z1 z1 k1 (S1.push (.int _))⟩)
theorem adV (hm : X.mg "len" = none) (h : eF X CL b e δ (.str x) δ1) (hl : x.length <= sizeLine) (hg : Gl X "len" := by rfl) (hs : Q.V := by exact cE rfl) : dH X CL b (.Call (.Name "len" pp) [e] [] pos) δ (.sh (.int x.length)) δ1 := fun H Z σ ts vs Q S k =>
 dS (vY Lc hg hm PySem.boot_len (dh fh iy hs) (he := hs)) (h H Z σ ts vs _ S fun v H1 Z1 z1 k1 S1 r => ⟨x, by rw [r.sc rfl], hl, k _ H1 Z1 z1 k1 (S1.push (.int _))⟩)
theorem Kq (hm : X.mg "list" = none) (h : dH X CL b e δ (.sh (.tup ds)) δ1) (hg : Gl X "list" := by rfl) (hv : bootBuiltins "list" = some (.type "list") := by rfl) (hs : Q.V := by exact cE rfl) : dH X CL b (.Call (.Name "list" pp) [e] [] pos) δ (.lst (ds.map T.sh)) δ1 := fun H Z σ ts vs Q S k =>
 dS (qC Bm hg hm hv (dh fh iy hs) (he := hs)) (h H Z σ ts vs _ S fun v H1 Z1 z1 k1 S1 => by
   obtain ⟨fp, gp, _, r, _, _⟩ := S1.rep
   cases r with
   | cons r _ =>
     cases r with
     | sh r =>
       cases r with
       | tup hq rr =>
         refine ⟨_, _, rfl, .inr (aR.sqT S1.zh hq), fun l hl => ?_⟩
         obtain ⟨c, S2⟩ := (bY.Fz rr S1.pop).zk (g0 := []) (by simp [rr.length]) hl
         exact k _ _ _ z1 (k1.trans c) S2)
theorem fj (hm : X.mg "list" = none) (h : eF X CL b e δ (.lst ds) δ1) (hi : D.cV ds = true) (hg : Gl X "list" := by rfl) (hv : bootBuiltins "list" = some (.type "list") := by rfl) (hs : Q.V := by exact cE rfl) : dH X CL b (.Call (.Name "list" pp) [e] [] pos) δ (.lst (ds.map T.sh)) δ1 := fun H Z σ ts vs Q S k =>
 dS (qC Bm hg hm hv (dh fh iy hs) (he := hs)) (h H Z σ ts vs _ S fun v H1 Z1 z1 k1 S1 r => by
   cases r with
   | lst hq rr =>
     refine ⟨_, _, rfl, .inl hq, fun l hl => ?_⟩
     obtain ⟨c, S2⟩ := (bY.Fz (aX.qa S1.tp hi rr) S1).zk (g0 := []) (by simp [rr.length]) hl
     exact k _ _ _ z1 (k1.trans c) S2)
def XO (K : Q.l) (CL : Q.g) {A : Type} (n : Nat) (arg : A -> List D) (Pre : A -> Prop) (res : A -> T) : Sp := fun vs H Q _ =>
 ∃ (W : Hp) (a : A), aR W H /\ (∀ c o, H c = some o -> pB o = true -> W c = some o) /\ aX K CL W (arg a) vs /\ (arg a).length = n /\ Pre a /\ pO CL W ∧
   ∀ v H' W' fp, aR H H' -> aR W W' -> aR W' H' -> (∀ c o, W' c = some o -> W c = none -> H c = none) -> (∀ c o, H' c = some o -> pB o = true -> W' c = some o) →
     cL K CL H' W' (res a) v fp -> fp.Nodup -> (∀ c ∈ fp, W' c = none /\ H c = none) -> Q v H'
variable {A : Type} {k n : Nat} {f : Addr} {fd : FuncData} {ps : Q.h} {arg : A -> List D} {Pre : A -> Prop} {res : A -> T}
theorem adW (a : A) (F : ic X.prog X.w X.K X.mg X.base xO k f fd ps (XO X.K CL n arg Pre res)) (hr : jD k X.A) (hm : X.mg x = some (.ref f)) (hk : PySem.W.keepIn X.K (.ref f) = true) (hb : Binds X.K fd ps [])
   (h : BAv X CL b (e :: es) δ (arg a) δ1) (hn : (arg a).length = n) (hp : Pre a) (hc : (res a).clean = true) (hg : Gl X x)
   (Bh : Q.s := by decide) (he : Q.O := by exact cE rfl) (hpl : Q.W := by rfl) :
   dH X CL b Q.an δ (res a) δ1 := fun H Z σ ts vs Q S kk =>
 dS (VC F hr hg hm hk hb .nil OS VL Bh he hpl) (h H Z σ ts vs _ S fun us H1 Z1 z1 k1 S1 r => by
   rw [atw]
   refine ⟨H1, a, .refl _, fun _ _ q _ => q, r, hn, hp, S1.aaI, fun v H' W' fp hh ww wh nw tp rt nd own => ?_⟩
   obtain ⟨Z', z', S'⟩ := S1.back hh S1.zh ww wh nw tp rt nd own (.inr hc)
   exact kk v H' Z' (z1.trans z') (k1.trans hh) S')
variable {D D' : gX} {st : Stmt} {fP ali : List Stmt}
theorem Meets.to {E : Ends} (M : Meets K CL b Z ts vs D E) (h1 : ∀ δ, D'.nx δ -> D.nx δ) (h2 : ∀ t δ, D'.rt t δ -> D.rt t δ) (h3 : ∀ δ, D'.bk δ -> D.bk δ) (h4 : ∀ δ, D'.ct δ -> D.ct δ) : Meets K CL b Z ts vs D' E :=
 ⟨fun _ _ _ _ s S k => M.nx _ _ _ _ s S (h1 _ k), fun _ _ _ _ _ _ s S k => M.rt _ _ _ _ _ _ s S (h2 _ _ k), fun _ _ _ _ s S k => M.bk _ _ _ _ s S (h3 _ k), fun _ _ _ _ s S k => M.ct _ _ _ _ s S (h4 _ k)⟩
theorem ak (h : D.nx δ) : dY X CL b [] δ D := fun H Z σ ts vs E S M => aaH adv (M.nx δ σ H Z Q.j S h)
theorem c9 (h : TSv X CL b st δ { D with nx := fun δ1 => dY X CL b fP δ1 D }) : dY X CL b (st :: fP) δ D := fun H Z σ ts vs E S M =>
 aaH (Bd psS XI) (h H Z σ ts vs _ S ⟨fun δ' σ' H' Z' s S' k => k H' Z' σ' ts vs E S' (M.mono s), M.rt, M.bk, M.ct⟩)
theorem ah6 (h : Q.Q) (k : D.rt t δ1) : TSv X CL b (.Return (some e) pos) δ D := fun H Z σ ts vs E S M => v7 (ahq fh) (h H Z σ ts vs _ S fun v H1 Z1 z1 k1 S1 => M.rt t v H1 Z1 δ1 σ z1 S1 k)
theorem alj (h : xP X CL b e δ p δ1) (h1 : p = true -> dY X CL b fP δ1 D) (h2 : p = false -> dY X CL b ali δ1 D) : TSv X CL b (.If e fP ali pos) δ D := fun H Z σ ts vs E S M =>
 v7 (akI ptS XI XI) (h H Z σ ts vs _ S fun H1 Z1 z1 k1 S1 => by
   cases p with
   | true => exact XG (h1 rfl H1 Z1 σ ts vs E S1 (M.mono z1))
   | false => exact XF (h2 rfl H1 Z1 σ ts vs E S1 (M.mono z1)))
theorem RK (i : Nat) {pos' : Pos} (h : Q.Q) (k : D.nx (δ1.set i (some t))) (hl : i < δ1.length := by decide) (hN : X.N.Nodup := by assumption) (hi : X.N[i]? = some x := by rfl) (hx : Loc X.env.scope x := by first | exact .inl rfl | exact .inr rfl)
   (hs : Q.ay := by rfl) (hf : Q.az := by first | exact .inl rfl | exact .inr rfl | assumption) : TSv X CL b (.Assign [.Name x pos'] e pos) δ D := fun H Z σ ts vs E S M =>
 v7 (Rp hN hi hx fh hs hf) (h H Z σ ts vs _ S fun v H1 Z1 z1 k1 S1 => M.nx _ _ H1 Z1 z1 (S1.set hl) k)
end
def entry (N : Q.h) (ds : List D) : List (Option T) := ds.map (fun d => some (T.sh d)) ++ List.replicate (N.length - ds.length) none
theorem oz {K : Q.l} {CL : Q.g} {H Z : Hp} : ∀ {ds : List D} {vs : List V} (n : Nat), aX K CL Z ds vs -> fO K CL H Z (ds.map (fun d => some (T.sh d)) ++ List.replicate n none) (vs.map some ++ List.replicate n none) []
 | _, _, 0, .nil => .nil
 | _, _, n + 1, .nil => .skip (oz (ds := []) (vs := []) n .nil)
 | _, _, n, .cons r t => .cons (fp := []) (gp := []) (.sh r) (oz n t)
variable {P : Program} {w : World} {mg : Q.A} {base : Heap} {st : Stmt} {f : Addr} {fd : FuncData} {N ps : Q.h} {A : Type}
theorem Lh {qual : Str} {k : Nat} {arg : A -> List D} {Pre : A -> Prop} {res : A -> T} (F : oj K x qual st f fd) (S : aY N ps (az st))
   (hb : ∀ (lu : Value) (Ar : Around) (outer : List Env) (s : Shared) (H : Hp) (E : XK) (b : Bx) (a : A), jD k Q.aL -> Pre a →
     dY (DN xO P w K mg base N qual (az st) f lu Ar outer s H E).nox CL b (dW st) (entry N (arg a)) { nx := fun _ => res a = .sh .non, rt := fun t _ => t = res a }) :
   ic P w K mg base xO (k + 1) f fd ps (XO K CL ps.length arg Pre res) := by
 refine F.ok S (fun vs H Q E h => ?_) (fun lu Ar outer s H vs Q E hr h => ?_)
 . obtain ⟨W, a, _, _, r, hl, _⟩ := h
   rw [← r.length]; exact hl
 . obtain ⟨W, a, wh, tp, r, hl, hp, tb, kk⟩ := h
   refine ⟨_, XI, hb lu Ar outer s H E ⟨H, W⟩ a hr hp H W _ [] [] _ ⟨⟨[], [], ?_, .nil, aua, fun a ha => by cases ha⟩, .refl _, .refl _, wh, fun a o q z => ?_, tp, tb⟩ ⟨fun δ' σ' H' Z' s' S' e => ?_, fun t v H' Z' δ' σ' s' S' e => ?_, fun _ _ _ _ _ _ e => e.elim, fun _ _ _ _ _ _ e => e.elim⟩⟩
   . unfold entry L2.start
     rw [← r.length]
     exact oz _ r
   . have q' : W a = some o := q
     have z' : W a = none := z
     rw [q'] at z'; cases z'
   . exact kk .non H' Z' [] S'.bh S'.zz S'.zh S'.new S'.tp (by rw [show res a = .sh .non from e]; exact .sh .non) aua fun a ha => by cases ha
   . have e' : t = res a := e
     subst e'
     obtain ⟨fp, gp, _, r', nd, own⟩ := S'.rep
     cases r' with
     | @cons _ _ _ _ f1 f2 r1 r2 =>
       have h1 := (atr.mp nd).2.1
       exact kk v H' Z' f1 S'.bh S'.zz S'.zh S'.new S'.tp r1 (atr.mp h1).1 fun a ha => own a (asJ _ (asL _ ha))
variable {prog : Program} {A : Around} {R : Result -> Shared -> Prop} {s : Shared} {elt iter : Expr} {ifs : List Expr} {scope : Scope}
theorem Li {target : Expr} {it acc : Value} (I : Nat -> Shared -> Prop)
   (turn : ∀ n s, I n s -> wpAny (model prog w) A (pyNext it) (fun r s₁ => match r with
     | none => R (.ok .next) s₁
     | some v => wpAny (model prog w) A (letOwnedTupleGo target it v) (fun _ s₁' => wpAny (model prog w) A (assign target env v) (fun _ s₂ =>
         wpAny (model prog w) A (forIn ifs true fun c r => if r = true then do let ok ← isTrue c env (eval c env); pure (ForInStep.yield ok) else pure (ForInStep.yield r)) (fun ok s₃ =>
           if ok = true then wpAny (model prog w) A (eval elt env) (fun x s₄ =>
             wpAny (model prog w) A (call (.builtin "list.append") [acc, x]) (fun _ s₅ => ∃ m, m < n /\ I m s₅) (fun _ _ => False) s₄) (fun _ _ => False) s₃
           else ∃ m, m < n /\ I m s₃) (fun _ _ => False) s₂) (fun _ _ => False) s₁') (fun _ _ => False) s₁) (fun _ _ => False) s)
   (n : Nat) (h : I n s) :
   codeAny (model prog w) A (.compLoop (.ListComp elt [⟨target, iter, ifs, 0⟩] scope pos) 0 it acc env) R s := by
 refine codeAny_loop rfl I (fun n s hI => ?_) n h
 show wpAny _ A ((compTurn (.ListComp elt [⟨target, iter, ifs, 0⟩] scope pos) 0 it acc env).onRaise (fun x => do noteFrame x env; theTreesLotGoes x)) _ _ s
 refine wpAny_noted ?_
 rw [compTurn_list]
 refine atb (wpAny_standAt (atb (atN (turn n s hI) (fun r s₁ h₁ => ?_) fun _ _ h' => h'.elim)))
 cases r with
 | none => exact atA h₁
 | some v =>
   refine atb (atN h₁ (fun _ s₁' h₁' => ?_) fun _ _ h' => h'.elim)
   refine atb (atN h₁' (fun _ s₂ h₂ => atb (atN h₂ (fun ok s₃ h₃ => ?_) fun _ _ h' => h'.elim)) fun _ _ h' => h'.elim)
   cases ok with
   | false => exact atA ⟨rfl, h₃⟩
   | true =>
     exact atb (atb (atN h₃ (fun x s₄ h₄ => atb (atN h₄ (fun _ s₅ h₅ => atA (atA ⟨rfl, h₅⟩)) fun _ _ h' => h'.elim)) fun _ _ h' => h'.elim))
def mD (env : Env) : List (Str × NameKind) -> List (Str × Addr) -> List (Str × Addr)
 | [], cs => cs
 | (n, k) :: r, cs => mD env r (if k == .free then (n, (env.cells.lookup n).getD 0) :: cs else cs)
theorem J3 (h : ∀ x ∈ scope.names, x.2 = .free -> ∃ c, env.cells.lookup x.1 = some c) : closureFor scope env = pure (mD env scope.names []) := by
 have go : ∀ (l : List (Str × NameKind)) (cs : List (Str × Addr)), (∀ x ∈ l, x.2 = .free -> ∃ c, env.cells.lookup x.1 = some c) →
     (forIn l cs fun x r => match x with | (name, kind) => if (kind == NameKind.free) = true then do let a ← cellOf env name; pure (ForInStep.yield ((name, a) :: r)) else pure (ForInStep.yield r) : Sem (List (Str × Addr))) = pure (mD env l cs) := by
   intro l
   induction l with
   | nil => intro cs _; rfl
   | cons x r ih =>
     intro cs hx
     obtain ⟨n, k⟩ := x
     rw [List.forIn_cons]
     by_cases hk : k = .free
     . subst hk
       obtain ⟨c, hc⟩ := hx (n, .free) asT rfl
       have e : cellOf env n = pure c := by unfold cellOf; rw [hc]
       simp only [auq, if_true, e, pure_bind]
       rw [ih _ fun y hy => hx y (asV _ hy)]
       simp only [mD, auq, if_true]
       rw [hc]; rfl
     . have hb : (k == NameKind.free) = false := by simpa using hk
       simp only [hb, Bool.false_eq_true, if_false, pure_bind]
       rw [ih _ fun y hy => hx y (asV _ hy)]
       simp only [mD, hb, Bool.false_eq_true, if_false]
 unfold closureFor
 have := go scope.names [] h
 simp only [bind_pure] at this ⊢
 exact this
theorem zm {env : Env} : ∀ {l : List (Str × NameKind)} {cs : List (Str × Addr)} {y : Str} {c : Addr}, (∀ x ∈ l, x.2 = .free -> ∃ c, env.cells.lookup x.1 = some c) -> (∀ y c, cs.lookup y = some c -> env.cells.lookup y = some c) →
   (mD env l cs).lookup y = some c -> env.cells.lookup y = some c
 | [], cs, y, c, _, h, e => h y c e
 | (n, k) :: r, cs, y, c, hx, h, e => by
   refine zm (l := r) (fun z hz => hx z (asV _ hz)) (fun z d hz => ?_) e
   by_cases hk : k = .free
   . subst hk
     obtain ⟨c', hc⟩ := hx (n, .free) asT rfl
     simp only [auq, if_true, hc, Option.getD_some, atu] at hz
     by_cases hzn : (z == n) = true
     . rw [hzn] at hz
       have : z = n := by simpa using hzn
       subst this
       cases hz
       exact hc
     . have : (z == n) = false := by simpa using hzn
       rw [this] at hz
       exact h z d hz
   . have hb : (k == NameKind.free) = false := by simpa using hk
     rw [hb] at hz
     exact h z d hz
theorem FD {env : Env} {y : Str} : ∀ {l : List (Str × NameKind)} {cs : List (Str × Addr)}, (∃ c, cs.lookup y = some c) -> ∃ c, (mD env l cs).lookup y = some c
 | [], cs, h => h
 | (n, k) :: r, cs, h => by
   refine FD (l := r) ?_
   by_cases hk : (k == NameKind.free) = true
   . rw [asM hk, atu]
     by_cases hy : (y == n) = true
     . rw [hy]; exact ⟨_, rfl⟩
     . have : (y == n) = false := by simpa using hy
       rw [this]; exact h
   . rw [asH hk]; exact h
theorem zo {env : Env} {y : Str} : ∀ {l : List (Str × NameKind)} {cs : List (Str × Addr)}, l.lookup y = some .free -> ∃ c, (mD env l cs).lookup y = some c
 | [], _, h => by simp at h
 | (n, k) :: r, cs, h => by
   rw [atu] at h
   by_cases hy : (y == n) = true
   . rw [hy] at h
     cases h
     refine FD (l := r) ?_
     rw [asM (by rfl), atu, hy]
     exact ⟨_, rfl⟩
   . have : (y == n) = false := by simpa using hy
     rw [this] at h
     exact zo (l := r) h
def fQ (X : Cx) (scope : Scope) (Nc : Q.h) (C : Addr) (s : Shared) (H : Hp) (fp : Q.p) : Cx where
 prog := X.prog
 w := X.w
 K := X.K
 mg := X.mg
 base := X.base
 A := X.A
 N := Nc
 s₀ := s
 H₀ := H
 env := compEnvC scope (mD X.env scope.names []) C X.env
 outer := X.stack
 stack := X.stack
 ex := fp
 fn := fun _ => false
 calm := X.calm
 pn := []
 xe := fun _ _ => False
structure sY (X : Cx) (scope : Scope) (x : Str) (Nc : Q.h) (ix : List Nat) : Prop where
 kind : scope.kind = .function
 Lj : ∀ y ∈ scope.names, y.2 ≠ .cell
 nd : Nc.Nodup
 names : ∀ y ∈ scope.names, y.2 = .local -> scope.names.lookup y.1 = some .local
 own : scope.names.lookup x = some .local
 frees : ∀ y ∈ scope.names, y.2 = .free -> scope.names.lookup y.1 = some .free /\ (X.env.kindOf y.1 = some .cell \/ X.env.kindOf y.1 = some .free)
 hd : Nc = x :: ix.filterMap (X.N[·]?)
 ixs : ∀ i ∈ ix, ∃ y, X.N[i]? = some y /\ scope.names.lookup y = some .free
theorem jE {env : Env} : ∀ {names : List (Str × NameKind)} {x : Str} {k : NameKind}, names.lookup x = some k -> 
   (names.map fun (n, k) => if (k == NameKind.free && env.scope.kind == .function && env.kindOf n == some .cell) then (n, NameKind.cell) else (n, k)).lookup x = some (if (k == NameKind.free && env.scope.kind == .function && env.kindOf x == some .cell) then .cell else k)
 | [], _, _, h => by simp at h
 | (n, k') :: r, x, k, h => by
   have ih := @jE env r x k
   show List.lookup x ((if (k' == NameKind.free && env.scope.kind == .function && env.kindOf n == some .cell) = true then (n, NameKind.cell) else (n, k')) :: _) = _
   cases hx : x == n with
   | true =>
     simp only [atu, hx] at h
     cases h
     have e : x = n := by simpa using hx
     subst e
     split <;> simp [atu]
   | false =>
     simp only [atu, hx] at h
     split
     . simp only [atu, hx]; exact ih h
     . simp only [atu, hx]; exact ih h
theorem pZ {env : Env} : ∀ {names : List (Str × NameKind)} {x : Str}, names.lookup x = none -> 
   (names.map fun (n, k) => if (k == NameKind.free && env.scope.kind == .function && env.kindOf n == some .cell) then (n, NameKind.cell) else (n, k)).lookup x = none
 | [], _, _ => rfl
 | (n, k') :: r, x, h => by
   have ih := @pZ env r x
   show List.lookup x ((if (k' == NameKind.free && env.scope.kind == .function && env.kindOf n == some .cell) = true then (n, NameKind.cell) else (n, k')) :: _) = _
   cases hx : x == n with
   | true => simp only [atu, hx] at h; cases h
   | false =>
     simp only [atu, hx] at h
     split
     . simp only [atu, hx]; exact ih h
     . simp only [atu, hx]; exact ih h
variable {Nc : Q.h} {pins : Q.o}
theorem XQ {Ke : Q.o} {σ' : L2.St} {s' : Shared} {h'' : Heap} (I : Q.m) (v8 : ∀ b ∈ fp, F2 X pins H b)
   (J : Inv (fQ X scope Nc s.heap.objs.size s H fp) Ke σ' H' s') (hs : Heap.SameBut s.heap.objs.size s'.heap h'') : Inv X pins σ H' { s' with heap := h'' } := by
 have un : Un (vV X.stack) fp H H' s.heap s'.heap := J.base
 have un2 : Un (vV X.stack) fp H H' s.heap h'' := by
   have ne : ∀ b o, s.heap.get? b = some o -> b ≠ s.heap.objs.size := fun b o e => aty (atd e)
   refine ⟨fun b o e n hb hx => (hs.2 b (ne b o e)).trans (un.keep b o e n hb hx), fun b o e n hb hx => ?_, un.free, fun b o e hx => ?_, un.FZ, un.lq, un.F0⟩
   . obtain ⟨sl, q⟩ := un.slot b o e n hb hx
     exact ⟨sl, (hs.2 b (ne b o e)).trans q⟩
   . obtain ⟨o', q⟩ := un.there b o e hx
     exact ⟨o', (hs.2 b (ne b o e)).trans q⟩
 have nC : H' s.heap.objs.size = none := J.free
 have gQ : xH X.prog X.w H' h'' := fun b u e => by
   refine (J.gQ b u e).JW (fun c v hc q => (hs.2 c ?_).trans q) (fun _ q => q) fun _ _ q => q
   rintro rfl
   rcases hc with z | z
   . subst z; rw [nC] at e; cases e
   . rw [nC] at z; cases z
 obtain ⟨hh, g, d, t, os'⟩ := s'
 obtain rfl : os' = s.os := J.os
 show L2.Inv X pins σ H' { s with heap := h'', gens := g, drawn := d, toks := t }
 exact I.call (h' := h'') (g' := g) (d' := d) (t' := t) (ch := fp) un2 gQ J.bare fun b hb => ⟨(v8 b hb).2.2.2.1, (v8 b hb).2.1, (v8 b hb).2.2.2.2.1, (v8 b hb).2.2.2.2.2⟩
def ah7 (X : Cx) : List Expr -> TT
 | [] => fun _ H Q => Q true H
 | [c] => adN X c
 | _ => fun _ _ _ => False
theorem aaR (I : Q.m) (h : ah7 X ifs σ H Q) (hx : X.xe = fun _ _ => False) :
   wpAny Q.k X.A (forIn ifs true fun c r => if r = true then do let ok ← isTrue c X.env (eval c X.env); pure (ForInStep.yield ok) else pure (ForInStep.yield r)) (TP X pins σ Q) (fun _ _ => False) s := by
 match ifs, h with
 | [], h => exact wpAny_tests_nil ⟨H, I, h⟩
 | [c], h =>
   have := h pins s I
   rw [hx] at this
   exact wpAny_tests_one this
def TIv (X : Cx) (CL : Q.g) (b : Bx) (ifs : List Expr) (δ : Q.n) (p : Bool) : Prop :=
 match ifs with
 | [] => p = true
 | [c] => xP X CL b c δ p δ
 | _ => False
theorem TIv.sem (h : TIv X CL b ifs δ p) (S : bY X.K CL b H Z δ σ [] [])
   (k : ∀ H' Z', aR Z Z' -> aR H H' -> bY X.K CL b H' Z' δ σ [] [] -> Q p H') : ah7 X ifs σ H Q := by
 match ifs, h with
 | [], h =>
   have e : p = true := h
   subst e
   exact k H Z Q.j Q.j S
 | [c], h => exact (show xP X CL b c δ p δ from h) H Z σ [] [] Q S k
theorem sZ : (T.lst ts).clean = T.eV ts := by rw [T.clean]
theorem Hu {g : D -> T} : ∀ {ds : List D}, (∀ d ∈ ds, (g d).clean = true) -> T.eV (ds.map g) = true
 | [], _ => by rw [List.map_nil, T.eV]
 | d :: ds, h => by
   rw [atg, T.eV, h d asT, Hu fun e he => h e (asV _ he)]
   rfl
theorem bJ.at : ∀ {tl : List T} {us : List V} {fp : Q.p} {j : Nat} {t : T}, bJ K CL H Z tl us fp -> tl[j]? = some t -> ∃ v f1 f2 f3, us[j]? = some v /\ fp = f1 ++ (f2 ++ f3) /\ cL K CL H Z t v f2 ∧
   ∀ {H' : Hp} {t' : T} {v' : V} {g : Q.p}, (∀ a ∈ f1 ++ f3, H' a = H a) -> cL K CL H' Z t' v' g -> bJ K CL H' Z (tl.set j t') (us.set j v') (f1 ++ (g ++ f3))
 | _, _, _, _, _, .nil, e => by simp at e
 | _, _, _, 0, _, .cons (fp := fp) (gp := gp) r q, e => by
   simp at e
   subst e
   exact ⟨_, [], fp, gp, rfl, rfl, r, fun {H' t' v' g} k r' => bJ.cons (fp := g) (gp := gp) r' (bJ.mono (fp := gp) Q.j (fun a ha => k a (by simpa using ha)) q)⟩
 | _, _, _, j + 1, t, .cons (fp := fp) (gp := gp) r q, e => by
   obtain ⟨v, f1, f2, f3, h1, h2, h3, h4⟩ := bJ.at (j := j) (t := t) q (by simpa using e)
   refine ⟨v, fp ++ f1, f2, f3, by simpa using h1, by rw [h2, List.append_assoc], h3, fun k r' => ?_⟩
   rw [asO]
   exact .cons (r.mono Q.j fun a ha => k a (by simp [ha])) (h4 (fun a ha => k a (by rw [asO]; exact asJ _ ha)) r')
variable {α : Type}
theorem iQ {l : List α} {x : α} (h : l[i]? = some x) : l.set i x = l := by
 apply List.ext_getElem?
 intro j
 rw [List.getElem?_set]
 split
 . rename_i e; subst e
   split
   . exact h.symm
   . rename_i h2; rw [auF Q.a]
 . rfl
variable {gp : Q.p}
theorem bY.write {f1 f2 f3 g VW : Q.p} (S : Q.K) (nd : ((f1 ++ (f2 ++ f3)) ++ gp).Nodup) (own : ∀ c ∈ (f1 ++ (f2 ++ f3)) ++ gp, Z c = none /\ b.B c = none) (ha : a ∈ f2)
   (hH : ∃ o, H a = some o) (e' : fO K CL (upd H a (.lst xs)) Z δ2 σ (f1 ++ (g ++ f3))) (r' : bJ K CL (upd H a (.lst xs)) Z tl us VW) (pm : ((f1 ++ (g ++ f3)) ++ VW).Nodup) (sub : ∀ c ∈ (f1 ++ (g ++ f3)) ++ VW, c ∈ (f1 ++ (f2 ++ f3)) ++ gp) :
   bY K CL b (upd H a (.lst xs)) Z δ2 σ tl us := by
 have oa := own a (by simp [ha])
 refine ⟨⟨_, _, e', r', pm, fun c hc => own c (sub c hc)⟩, fun c o q => ?_, S.zz, fun c o q => ?_, S.new, fun c o q i => ?_, S.tab⟩
 . rw [aP (cJ q oa.2)]; exact S.bh c o q
 . rw [aP (cJ q oa.1)]; exact S.zh c o q
 . by_cases hc : c = a
   . subst hc; rw [bR] at q; cases q; cases i
   . rw [aP hc] at q; exact S.tp c o q i
theorem bY.append (S : Q.af) (hi : δ[i]? = some (some (.lst tl))) :
   ∃ a us, σ[i]? = some (some (.ref a)) /\ H a = some (.lst us) /\ us.length = tl.length /\ bY K CL b (upd H a (.lst (us ++ [v]))) Z (δ.set i (some (.lst (tl ++ [t])))) σ ts vs := by
 obtain ⟨fp, gp, e, r, nd, k⟩ := S.rep
 obtain ⟨v0, f1, f2, f3, hv, v8, rt, put, _⟩ := e.get hi
 subst v8
 cases rt with
 | @lst a us _ g ha rs =>
   cases r with
   | @cons _ _ _ _ ft gr q1 q2 =>
     have ne : ∀ c ∈ (f1 ++ (g ++ f3)) ++ (ft ++ gr), c ≠ a := fun c hc e => by
       subst e
       have hp : ((f1 ++ ((c :: g) ++ f3)) ++ (ft ++ gr)).Perm (c :: ((f1 ++ (g ++ f3)) ++ (ft ++ gr))) := by
         rw [att, ← att]
         exact (aue.append_right _)
       exact (atL.mp (hp.nodup_iff.mp nd)).1 hc
     refine ⟨a, us, hv, ha, rs.length.symm, ?_⟩
     have r1 : cL K CL (upd H a (.lst (us ++ [v]))) Z (.lst (tl ++ [t])) (.ref a) (a :: (g ++ (ft ++ []))) :=
       .lst bR (bJ.app (rs.mono Q.j fun c hc => aP Q.T) (.cons (q1.mono Q.j fun c hc => aP Q.T) .nil))
     have e2 := put (H' := upd H a (.lst (us ++ [v]))) Q.j (fun c hc => aP (ne c (by
       rcases asQ.mp hc with h | h
       . simp [h]
       . simp [h]))) r1
     rw [iQ hv] at e2
     have hp : ((f1 ++ ((a :: (g ++ (ft ++ []))) ++ f3)) ++ gr).Perm ((f1 ++ ((a :: g) ++ f3)) ++ (ft ++ gr)) := by
       simp only [atw, att, asO]
       refine atD f1 (List.Perm.cons a (atD g ?_))
       rw [← asO, ← asO]
       exact atj.append_right gr
     exact S.write nd k (asT) ⟨_, ha⟩ e2 (q2.mono Q.j fun c hc => aP Q.T) (hp.nodup_iff.mpr nd) fun c hc => hp.mem_iff.mp hc
theorem bY.setAt (S : Q.af) (hi : δ[i]? = some (some (.lst tl))) (hj : j < tl.length) :
   ∃ a us, σ[i]? = some (some (.ref a)) /\ H a = some (.lst us) /\ us.length = tl.length /\ bY K CL b (upd H a (.lst (us.set j v))) Z (δ.set i (some (.lst (tl.set j t)))) σ ts vs := by
 obtain ⟨fp, gp, e, r, nd, k⟩ := S.rep
 obtain ⟨v0, f1, f2, f3, hv, v8, rt, put, _⟩ := e.get hi
 subst v8
 cases rt with
 | @lst a us _ g ha rs =>
   cases r with
   | @cons _ _ _ _ ft gr q1 q2 =>
     have ne : ∀ c ∈ (f1 ++ (g ++ f3)) ++ (ft ++ gr), c ≠ a := fun c hc e => by
       subst e
       have hp : ((f1 ++ ((c :: g) ++ f3)) ++ (ft ++ gr)).Perm (c :: ((f1 ++ (g ++ f3)) ++ (ft ++ gr))) := by
         rw [att, ← att]
         exact (aue.append_right _)
       exact (atL.mp (hp.nodup_iff.mp nd)).1 hc
     refine ⟨a, us, hv, ha, rs.length.symm, ?_⟩
     obtain ⟨vj, g1, g2, g3, _, hg, _, set⟩ := rs.at (as2 hj)
     subst hg
     have r1 : cL K CL (upd H a (.lst (us.set j v))) Z (.lst (tl.set j t)) (.ref a) (a :: (g1 ++ (ft ++ g3))) :=
       .lst bR (set (fun c hc => aP (ne c (by
         rcases asQ.mp hc with h | h
         . simp [h]
         . simp [h]))) (q1.mono Q.j fun c hc => aP Q.T))
     have e2 := put (H' := upd H a (.lst (us.set j v))) Q.j (fun c hc => aP (ne c (by
       rcases asQ.mp hc with h | h
       . simp [h]
       . simp [h]))) r1
     rw [iQ hv] at e2
     have hp : ((f1 ++ ((a :: (g1 ++ (ft ++ g3))) ++ f3)) ++ gr).Perm ((f1 ++ ((a :: (g1 ++ g3)) ++ f3)) ++ (ft ++ gr)) := by
       simp only [att, asO]
       refine atD f1 (List.Perm.cons a (atD g1 ?_))
       have := (atj (l₁ := ft) (l₂ := g3 ++ f3)).append_right gr
       simp only [asO] at this
       exact this
     have sb : ((f1 ++ ((a :: (g1 ++ g3)) ++ f3)) ++ (ft ++ gr)).Sublist ((f1 ++ ((a :: (g1 ++ (g2 ++ g3))) ++ f3)) ++ (ft ++ gr)) := by
       refine atn (atn (atq _) (atn (List.Sublist.cons₂ a ?_) (atq _))) (atq _)
       exact atn (atq _) (atO _ _)
     exact S.write nd k (asT) ⟨_, ha⟩ e2 (q2.mono Q.j fun c hc => aP Q.T) (hp.nodup_iff.mpr (nd.sublist sb)) fun c hc => sb.subset (hp.mem_iff.mp hc)
section
variable {Rh : List T} {D : gX} {pp pa pb : Pos}
theorem ah8 (i : Nat) (h0 : δ[i]? = some (some (.lst Rh))) (h : Q.Q) (h1 : δ1[i]? = some (some (.lst tl))) (hl : tl.length < sizeLine) (k : D.nx (δ1.set i (some (.lst (tl ++ [t])))))
   (hi : X.N[i]? = some x := by rfl) (hv : Vis X.env.scope x := by first | exact Or.inl rfl | exact Or.inr (Or.inl rfl) | exact Or.inr (Or.inr rfl)) (hd : Q.s := by decide) (rE : Q.ah := by decide)
   (Bo : attributeBase (.Name x pp) "append" X.env (eval (.Name x pp) X.env) = eval (.Name x pp) X.env := by rfl)
   (Ld : Q.aQ := by rfl)
   (hline : (pa.endLine == pb.line) = true := by rfl) (hs : Q.V := by exact cE rfl) (OW : swapsWith (.Call (.Attribute (.Name x pp) "append" pa) [e] [] pb) none pos.line X.env = pure false := by rfl) :
   TSv X CL b (.Expr (.Call (.Attribute (.Name x pp) "append" pa) [e] [] pb) pos) δ D := fun H Z σ ts vs E S M =>
 v7 (Be (aay auW PySem.F.slot_list_append PySem.F.type_list_append DQ (ow hi hv hd rE) (dh fh iy hs) Bo Ld hline hs rfl) OW) (by
   obtain ⟨v0, e0, r0⟩ := S.look h0
   refine ⟨v0, e0, ?_, ?_⟩
   . rw [T.iX] at r0
     cases r0 with
     | lst hq _ => exact .inl ⟨rfl, _, hq⟩
   . refine h H Z σ ts vs _ S fun v H1 Z1 z1 k1 S1 => ?_
     obtain ⟨a, us, ea, ha, hu, S2⟩ := S1.append h1
     rw [e0] at ea
     cases ea
     exact ⟨a, us, v, rfl, rfl, ha, by rw [hu]; exact hl, M.nx _ σ _ Z1 z1 S2 k⟩)
end
def aln : Option (Option T) -> Option T
 | some (some t) => some (.sh t.iX)
 | _ => none
def shO : Option (Option T) -> Option T
 | some (some (T.sh d)) => some (.sh d)
 | _ => none
def OX (δ : Q.n) (ix : List Nat) : List (Option T) := ix.map fun i => aln δ[i]?
def OY (δ : Q.n) (ix : List Nat) : List (Option T) := ix.map fun i => shO δ[i]?
theorem OZ (S : Q.K) : ∀ (ix : List Nat) (H' : Hp), fO K CL H' H (OX δ ix) (ix.map fun i => (σ[i]?).getD none) []
 | [], _ => .nil
 | i :: r, H' => by
   have ih := OZ S r H'
   show fO K CL H' H (aln δ[i]? :: OX δ r) (((σ[i]?).getD none) :: r.map fun i => (σ[i]?).getD none) []
   cases e : δ[i]? with
   | none => exact .skip ih
   | some o =>
     cases o with
     | none => exact .skip ih
     | some t =>
       obtain ⟨v, hv, rv⟩ := S.look e
       rw [hv]
       exact .cons (fp := []) (gp := []) (.sh rv) ih
theorem O1 (S : Q.K) : ∀ (ix : List Nat) (H' : Hp), fO K CL H' Z (OY δ ix) (ix.map fun i => (σ[i]?).getD none) []
 | [], _ => .nil
 | i :: r, H' => by
   have ih := O1 S r H'
   show fO K CL H' Z (shO δ[i]? :: OY δ r) (((σ[i]?).getD none) :: r.map fun i => (σ[i]?).getD none) []
   cases e : δ[i]? with
   | none => exact .skip ih
   | some o =>
     cases o with
     | none => exact .skip ih
     | some t =>
       cases t with
       | sh d =>
         obtain ⟨v, hv, rv⟩ := S.agH e
         rw [hv]
         exact .cons (fp := []) (gp := []) (.sh rv) ih
       | tup _ => exact .skip ih
       | lst _ => exact .skip ih
       | ins _ _ => exact .skip ih
       | vt _ => exact .skip ih
       | dct _ => exact .skip ih
       | pin _ _ => exact .skip ih
section
variable {ds : List D}
structure Comes (X : Cx) (CL : Q.g) (b : Bx) (δ1 : Q.n) (σ : L2.St) (ts : List T) (vs : List V) (Z H : Hp) (ds : List D) (J : It) (H1 : Hp) : Prop where
 ex : ∃ Z1 us, aR Z Z1 /\ aR H H1 /\ bY X.K CL b H1 Z1 δ1 σ ts vs /\ aX X.K CL Z1 ds us /\ (∀ i H2, aR Z1 H2 -> i < ds.length -> J.go i H2) ∧
   (∀ i H2 x H', aR Z1 H2 -> i < ds.length -> J.yld i H2 x H' -> H' = H2 /\ us[i]? = some x) /\ (∀ H2, aR Z1 H2 -> J.stop ds.length H2)
def TIt (X : Cx) (CL : Q.g) (b : Bx) (tg e : Expr) (δ : Q.n) (ds : List D) (δ1 : Q.n) : Prop :=
 ∃ wi, PI X tg e wi /\ ∀ (H Z : Hp) (σ : L2.St) (ts : List T) (vs : List V) (R : It -> Hp -> Prop), bY X.K CL b H Z δ σ ts vs -> (∀ J H1, Comes X CL b δ1 σ ts vs Z H ds J H1 -> R J H1) -> wi σ H R
theorem t8 {tg : Expr} (h : dH X CL b iter δ (.sh (.lst ds)) δ1) : TIt X CL b tg iter δ ds δ1 := by
 refine ⟨_, adx fh, fun H Z σ ts vs R S k => h H Z σ ts vs _ S fun v H1 Z1 z1 k1 S1 => ?_⟩
 obtain ⟨fp, gp, _, r, _, _⟩ := S1.rep
 cases r with
 | cons r _ =>
   cases r with
   | sh r =>
     cases r with
     | @lst a us _ hq rr =>
       refine ⟨a, rfl, ⟨us, S1.zh.seq hq⟩, k _ _ ⟨Z1, us, z1, k1, S1.pop, rr, fun i H2 s hi => ?_, fun i H2 y H' s hi hy => ⟨hy.1, hy.2 us (s.seq hq)⟩, fun H2 s => ⟨us, s.seq hq, by rw [rr.length]; exact as3 _⟩⟩⟩
       have hi' : i < us.length := by rw [← rr.length]; exact hi
       exact ⟨us, us[i], s.seq hq, by simp [hi']⟩
theorem aaS {tg : Expr} (h : dH X CL b iter δ (.sh (.tup ds)) δ1) : TIt X CL b tg iter δ ds δ1 := by
 refine ⟨_, ahx fh, fun H Z σ ts vs R S k => h H Z σ ts vs _ S fun v H1 Z1 z1 k1 S1 => ?_⟩
 obtain ⟨fp, gp, _, r, _, _⟩ := S1.rep
 cases r with
 | cons r _ =>
   cases r with
   | sh r =>
     cases r with
     | @tup a us _ hq rr =>
       refine ⟨a, rfl, ⟨us, aR.sqT S1.zh hq⟩, k _ _ ⟨Z1, us, z1, k1, S1.pop, rr, fun i H2 s hi => ?_, fun i H2 y H' s hi hy => ⟨hy.1, hy.2 us (aR.sqT s hq)⟩, fun H2 s => ⟨us, aR.sqT s hq, by rw [rr.length]; exact as3 _⟩⟩⟩
       have hi' : i < us.length := by rw [← rr.length]; exact hi
       exact ⟨us, us[i], aR.sqT s hq, by simp [hi']⟩
def cW (lo : Int) (n : Nat) : List D := (List.range n).map fun (i : Nat) => D.int (lo + i)
theorem O2 (lo : Int) (n : Nat) : aX K CL Z (cW lo n) ((List.range n).map fun (i : Nat) => V.int (lo + i)) := by
 unfold cW
 generalize List.range n = l
 induction l with
 | nil => exact .nil
 | cons i r ih => exact .cons (.int _) ih
theorem gb {tg : Expr} {pr pc : Pos} {n : Int} (hm : X.mg "range" = none) (h : eF X CL b iter δ (.int n) δ1) (hn : -(2 ^ 62) <= n /\ n < 2 ^ 62) (hg : Gl X "range") (vW : starEach [iter] X.env = [(false, eval iter X.env)] := by rfl) (ah9 : starEach [iter] X.env = (false, eval iter X.env) :: starEach [] X.env := by exact cE rfl) :
   TIt X CL b tg (.Call (.Name "range" pr) [iter] [] pc) δ (cW 0 n.toNat) δ1 := by
 refine ⟨_, Xq hg hm (dh fh iy ah9) vW, fun H Z σ ts vs R S k => h H Z σ ts vs _ S fun v H1 Z1 z1 k1 S1 r => ⟨n, by rw [r.sc rfl], hn.1, hn.2, k _ _ ⟨Z1, _, z1, k1, S1, O2 0 n.toNat, fun i H2 s hi => ?_, fun i H2 y H' s hi hy => ?_, fun H2 s => ?_⟩⟩⟩
 . show i < n.toNat
   have : (cW 0 n.toNat).length = n.toNat := by simp [cW]
   omega
 . have hi' : i < n.toNat := by simpa [cW] using hi
   refine ⟨hy.1, ?_⟩
   rw [atf, aud hi', hy.2]
   rfl
 . show n.toNat <= (cW 0 n.toNat).length
   simp [cW]
theorem DS {tg : Expr} {pr pc : Pos} {m n : Int} (hm : X.mg "range" = none) (h1 : eF X CL b e1 δ (.int m) δ1) (h2 : eF X CL b e2 δ1 (.int n) δ2) (hn : -(2 ^ 62) <= m /\ m < 2 ^ 62 /\ -(2 ^ 62) <= n /\ n < 2 ^ 62) (hg : Gl X "range")
   (vW : starEach [e1, e2] X.env = [(false, eval e1 X.env), (false, eval e2 X.env)] := by rfl) (ah9 : starEach [e2] X.env = [(false, eval e2 X.env)] := by rfl) (aoe : starEach [e1, e2] X.env = (false, eval e1 X.env) :: starEach [e2] X.env := by rfl) (aof : starEach [e2] X.env = (false, eval e2 X.env) :: starEach [] X.env := by rfl) :
   TIt X CL b tg (.Call (.Name "range" pr) [e1, e2] [] pc) δ (cW m (n - m).toNat) δ2 := by
 refine ⟨_, Xr hg hm (dh fh (dh fh iy aof) aoe) vW ah9, fun H Z σ ts vs R S k => h1 H Z σ ts vs _ S fun v H1 Z1 z1 k1 S1 r => h2 H1 Z1 σ ts vs _ S1 fun v2 H2 Z2 z2 k2 S2 r2 => ⟨m, n, by rw [r.sc rfl, r2.sc rfl], hn, k _ _ ⟨Z2, _, z1.trans z2, k1.trans k2, S2, O2 m (n - m).toNat, fun i H2 s hi => ?_, fun i H2 y H' s hi hy => ?_, fun H2 s => ?_⟩⟩⟩
 . show i < (n - m).toNat
   have : (cW m (n - m).toNat).length = (n - m).toNat := by simp [cW]
   omega
 . have hi' : i < (n - m).toNat := by simpa [cW] using hi
   refine ⟨hy.1, ?_⟩
   rw [atf, aud hi', hy.2]
   rfl
 . show (n - m).toNat <= (cW m (n - m).toNat).length
   simp [cW]
theorem aia {D : gX} {fP : List Stmt} (i : Nat) {pos' : Pos} (P : Nat -> List (Option T) -> Prop) (h : TIt X CL b (.Name x pos') iter δ ds δ1) (h0 : P 0 δ1) (hl : ∀ j δ, P j δ -> i < δ.length)
   (hs : ∀ j d δ, ds[j]? = some d -> P j δ -> dY X CL b fP (δ.set i (some (.sh d))) { nx := P (j + 1), rt := D.rt, bk := D.nx, ct := P (j + 1) }) (hd : ∀ δ, P ds.length δ -> D.nx δ)
   (hp : PassesOwn Q.k X.A X.env X.xe) (hc : X.calm = true) (hN : X.N.Nodup) (hi : X.N[i]? = some x) (hx : Loc X.env.scope x) (hf : Q.az) (hq : Q.al := by intro _; rfl) :
   TSv X CL b (.For (.Name x pos') iter fP [] pos) δ D := fun H Z σ ts vs E S M => by
 obtain ⟨wi, pi, hw⟩ := h
 refine v7 (aai hp hc pi (Bf hN hi hx hf) XI hq) (hw H Z σ ts vs _ S fun J H1 zz => ?_)
 obtain ⟨Z1, us, z1, k1, S1, rr, go, yl, st⟩ := zz
 refine ⟨fun j m σ H2 => m = ds.length - j /\ j <= ds.length /\ ∃ Z2 δ2, aR Z1 Z2 /\ bY X.K CL b H2 Z2 δ2 σ ts vs /\ P j δ2, ⟨_, rfl, ata _, Z1, δ1, .refl _, S1, h0⟩, ?_⟩
 rintro j m σ H2 ⟨rfl, hj, Z2, δ2, s, S2, p2⟩
 by_cases Lk : j < ds.length
 . refine .inr ⟨go j H2 (s.trans S2.zh) Lk, fun σ' H' => ∃ Z2 δ2, aR Z1 Z2 /\ bY X.K CL b H' Z2 δ2 σ' ts vs /\ P (j + 1) δ2, fun σ' H' h => ⟨ds.length - (j + 1), by omega, rfl, Lk, h⟩, fun y H' hy => ?_⟩
   obtain ⟨e, hu⟩ := yl j H2 y H' (s.trans S2.zh) Lk hy
   subst e
   obtain ⟨d, hd', rd⟩ := rr.adM hu
   have S3 := (S2.push (rd.mono s)).set (hl j δ2 p2)
   exact hs j d δ2 hd' p2 _ Z2 _ ts vs _ S3 ⟨fun δ' σ' H' Z' s' S' k => ⟨Z', δ', s.trans s', S', k⟩, fun t v H' Z' δ' σ' s' S' k => M.rt t v H' Z' δ' σ' (z1.trans (s.trans s')) S' k, fun δ' σ' H' Z' s' S' k => M.nx δ' σ' H' Z' (z1.trans (s.trans s')) S' k, fun δ' σ' H' Z' s' S' k => ⟨Z', δ', s.trans s', S', k⟩⟩
 . have e : j = ds.length := by omega
   subst e
   exact .inl ⟨st H2 (s.trans S2.zh), M.nx δ2 σ H2 Z2 (z1.trans s) S2 (hd δ2 p2)⟩
def Block (X : Cx) (CL : Q.g) (scope : Scope) (Nc : Q.h) (ifs : List Expr) (elt : Expr) (δc : Q.n) (ds : List D) (p : D -> Bool) (g : D -> T) : Prop :=
 ∀ C s0 H0 f0 b' d, d ∈ ds -> TIv (fQ X scope Nc C s0 H0 f0) CL b' ifs (some (.sh d) :: δc) (p d) /\ (p d = true -> dH (fQ X scope Nc C s0 H0 f0) CL b' elt (some (.sh d) :: δc) (g d) (some (.sh d) :: δc))
variable {δc : Q.n} {p : D -> Bool} {g : D -> T}
end
variable {n : Nat}
theorem aC (h : Nat.ble n 1000 = true) : n <= sizeLine := atJ (cR (asR h))
structure Vn (X : Cx) (i : Nat) (x : Str) : Prop where
 hi : X.N[i]? = some x
 hv : Vis X.env.scope x
 hd : (x == ("__debug__" : Str)) = false
 rE : (x == ("__classdict__" : Str)) = false
structure Ln (X : Cx) (i : Nat) (x : Str) : Prop extends Vn X i x where
 loc : Loc X.env.scope x
 hf : X.fn x = true \/ X.env.scope.names.lookup x = some .local
structure Gx (X : Cx) : Prop where
 nd : X.N.Nodup
 calm : X.calm = true
 xe : PassesOwn Q.k X.A X.env X.xe
structure Fc (X : Cx) (CL : Q.g) (x : Str) (k n : Nat) {A : Type} (arg : A -> List D) (Pre : A -> Prop) (res : A -> T) : Prop where
 ex : ∃ f fd ps, ic X.prog X.w X.K X.mg X.base xO k f fd ps (XO X.K CL n arg Pre res) /\ X.mg x = some (.ref f) /\ PySem.W.keepIn X.K (.ref f) = true /\ Binds X.K fd ps []
 room : jD k X.A
section
variable {d : L3.D} {pp : Pos} {D : gX} {fP : List Stmt} {ds : List L3.D}
theorem v_ (n : Vn X i x) (h : δ[i]? = some (some (.sh d)) := by rfl) : dH X CL b Q.B δ (.sh d) δ := ah1 i n.hi n.hv n.hd n.rE h
theorem vF (n : Vn X i x) (h : δ[i]? = some (some t) := by rfl) : dH X CL b Q.B δ (.sh t.iX) (δ.set i (some (.sh t.iX))) := adQ i n.hi n.hv n.hd n.rE h
theorem vM (n : Vn X i x) (h : δ[i]? = some (some t) := by rfl) : dH X CL b Q.B δ t (δ.set i none) := adR i n.hi n.hv n.hd n.rE h
theorem vB (n : Vn X i x) (h : δ[i]? = some (some t) := by rfl) : eF X CL b Q.B δ t.iX δ := ah2 i n.hi n.hv n.hd n.rE h
theorem cg (h : eF X CL b e δ (.int k) δ1) : dH X CL b (.UnaryOp .USub e pos) δ (.sh (.int (-k))) δ1 := fun H Z σ ts vs Q S kk =>
 dS (akP ahF fh) (h H Z σ ts vs _ S fun v H1 Z1 z1 k1 S1 r => ⟨k, r.sc rfl, kk _ H1 Z1 z1 k1 (S1.push (.int _))⟩)
theorem vL (n : Vn X i x) (h : δ[i]? = some (some (.lst (ds.map T.sh))) := by rfl) : eF X CL b Q.B δ (.lst ds) δ := by
 have := vB (CL := CL) (b := b) (pos := pos) n h
 rwa [T.iX, rJ] at this
theorem c_ {k : Nat} {A : Type} {arg : A -> List L3.D} {Pre : A -> Prop} {res : A -> T} (a : A) (F : Fc X CL x k n arg Pre res) (hg : Gl X x) (h : BAv X CL b (e :: es) δ (arg a) δ1) (hp : Pre a) (hc : (res a).clean = true) (hn : (arg a).length = n := by rfl)
   (Bh : Q.s := by decide) (he : Q.O := by exact cE rfl) (hpl : Q.W := by rfl) :
   dH X CL b Q.an δ (res a) δ1 := by
 obtain ⟨f, fd, ps, F1, m, k, b⟩ := F.ex
 exact adW a F1 F.room m k b h hn hp hc hg Bh he hpl
theorem bf {pos' : Pos} (g : Gx X) (n : Ln X i x) (h : Q.Q) (k : dY X CL b fP (δ1.set i (some t)) D) (hl : i < δ1.length := by exact asR rfl) (hs : Q.ay := by rfl) :
   dY X CL b (.Assign [.Name x pos'] e pos :: fP) δ D := c9 (RK i h k hl g.nd n.hi n.loc hs n.hf)
theorem bu (h : Q.Q) (k : D.rt t δ1) : dY X CL b (.Return (some e) pos :: fP) δ D := c9 (ah6 h k)
theorem b5 {a c : List Stmt} (h : xP X CL b e δ p δ1) (h1 : p = true -> dY X CL b a δ1 { D with nx := fun δ2 => dY X CL b fP δ2 D }) (h2 : p = false -> dY X CL b c δ1 { D with nx := fun δ2 => dY X CL b fP δ2 D }) : dY X CL b (.If e a c pos :: fP) δ D := c9 (alj h h1 h2)
theorem dY.to {D' : gX} (h : dY X CL b fP δ D') (h1 : ∀ δ, D'.nx δ -> D.nx δ) (h2 : ∀ t δ, D'.rt t δ -> D.rt t δ) (h3 : ∀ δ, D'.bk δ -> D.bk δ) (h4 : ∀ δ, D'.ct δ -> D.ct δ) : dY X CL b fP δ D := fun H Z σ ts vs E S M => h H Z σ ts vs E S (M.to h1 h2 h3 h4)
theorem Kr {a c : List Stmt} (J : List (Option T) -> Prop) (h : xP X CL b e δ p δ1) (h1 : p = true -> dY X CL b a δ1 { D with nx := J }) (h2 : p = false -> dY X CL b c δ1 { D with nx := J }) (k : ∀ δ2, J δ2 -> dY X CL b fP δ2 D) : dY X CL b (.If e a c pos :: fP) δ D :=
 b5 h (fun hp => dY.to (h1 hp) k (fun _ _ q => q) (fun _ q => q) (fun _ q => q)) (fun hp => dY.to (h2 hp) k (fun _ _ q => q) (fun _ q => q) (fun _ q => q))
theorem pC {body : List Stmt} {pos' : Pos} (g : Gx X) (n : Ln X i x) (P : Nat -> List (Option T) -> Prop) (h : TIt X CL b (.Name x pos') e δ ds δ1) (h0 : P 0 δ1) (hl : ∀ j δ, P j δ -> i < δ.length)
   (hs : ∀ j d δ, ds[j]? = some d -> P j δ -> dY X CL b body (δ.set i (some (.sh d))) { nx := P (j + 1), rt := D.rt, bk := fun δ2 => dY X CL b fP δ2 D, ct := P (j + 1) }) (hd : ∀ δ, P ds.length δ -> dY X CL b fP δ D) (hq : ∀ x, foldedSetIterable e X.env x = pure x := by intro _; rfl) :
   dY X CL b (.For (.Name x pos') e body [] pos :: fP) δ D :=
 c9 (aia (D := { D with nx := fun δ1 => dY X CL b fP δ1 D }) i P h h0 hl hs hd g.xe g.calm g.nd n.hi n.loc n.hf hq)
theorem Bs {o : Option Expr} {l : Nat} (h : ∃ c, swapsWith e o l env = pure c) : swapsWith e o l env = pure true \/ swapsWith e o l env = pure false := by
 obtain ⟨c, h⟩ := h
 cases c
 . exact .inr h
 . exact .inl h
theorem kF {C : Addr} (h1 : Nc[i]? = some x) (h2 : scope.names.lookup x = some .local) (hd : Q.s := by decide) (rE : Q.ah := by decide) : Vn (fQ X scope Nc C s H fp) i x :=
 ⟨h1, .inl (lookup_relabel_local h2), hd, rE⟩
theorem pQ {C : Addr} (h1 : Nc[i]? = some x) (h2 : scope.names.lookup x = some .free) (hd : Q.s := by decide) (rE : Q.ah := by decide) : Vn (fQ X scope Nc C s H fp) i x := by
 refine ⟨h1, ?_, hd, rE⟩
 have q := jE (env := X.env) h2
 show (relabel scope X.env).names.lookup x = some .local \/ (relabel scope X.env).names.lookup x = some .cell \/ (relabel scope X.env).names.lookup x = some .free
 rw [show (relabel scope X.env).names.lookup x = _ from q]
 split
 . exact .inr (.inl rfl)
 . exact .inr (.inr rfl)
theorem qb {C : Addr} (h2 : scope.names.lookup x = some .globalImplicit) : Gl (fQ X scope Nc C s H fp) x := by
 have q := jE (env := X.env) h2
 show (relabel scope X.env).names.lookup x = some .globalImplicit
 rw [show (relabel scope X.env).names.lookup x = _ from q]
 rfl
theorem Bt {C : Addr} {k : Nat} {A : Type} {arg : A -> List L3.D} {Pre : A -> Prop} {res : A -> T} (F : Fc X CL x k n arg Pre res) : Fc (fQ X scope Nc C s H fp) CL x k n arg Pre res := ⟨F.ex, F.room⟩
end
theorem XR : bootBuiltins "int" = some (.type "int") := Q.f
theorem cK : bootBuiltins "list" = some (.type "list") := Q.f
theorem O4 : bootBuiltins "tuple" = some (.type "tuple") := Q.f
def pM (sc : Scope) (l : List (Str × NameKind)) : Bool := l.all fun p => sc.names.lookup p.1 == some p.2
theorem jk {sc : Scope} {l : List (Str × NameKind)} (h : pM sc l = true) (i : Nat) {k : NameKind} (hi : l[i]? = some (x, k)) : sc.names.lookup x = some k := by
 unfold pM at h
 rw [atk] at h
 exact auJ.mp (h _ (atB hi))
inductive adX (X : Cx) : List Nat -> List Str -> Prop where
 | nil : adX X [] []
 | cons {i : Nat} {y : Str} {ix : List Nat} {ys : Q.h} (n : Vn X i y) (k : X.env.kindOf y = some .cell \/ X.env.kindOf y = some .free) (r : adX X ix ys) : adX X (i :: ix) (y :: ys)
def aaT (scope : Scope) (x : Str) (O5 : Q.h) : Bool :=
 scope.kind == .function && scope.names.lookup x == some .local && O5.all (fun y => scope.names.lookup y == some .free) && decide ((x :: O5).Nodup) &&
   scope.names.all fun y => y.2 != .cell && (y.2 != .local || scope.names.lookup y.1 == some .local) && (y.2 != .free || (O5.contains y.1 && scope.names.lookup y.1 == some .free))
variable {ix : List Nat}
theorem eX {O5 : Q.h} (c : adX X ix O5) (ok : aaT scope x O5 = true) : sY X scope x (x :: O5) ix := by
 unfold aaT at ok
 simp only [asZ, atk, atZ, auJ] at ok
 obtain ⟨⟨⟨⟨h1, h2⟩, h3⟩, h4⟩, h5⟩ := ok
 have kc : ∀ y ∈ O5, X.env.kindOf y = some .cell \/ X.env.kindOf y = some .free := by
   clear h3 h4 h5
   induction c with
   | nil => intro y hy; cases hy
   | cons n k r ih =>
     intro y hy
     rcases asX.mp hy with e | hy
     . subst e; exact k
     . exact ih y hy
 refine ⟨h1, fun y hy e => ?_, h4, fun y hy e => ?_, h2, fun y hy e => ?_, ?_, fun i hi => ?_⟩
 . have := (h5 y hy).1.1
   rw [e] at this
   simp at this
 . have := (h5 y hy).1.2
   rw [e] at this
   simpa using this
 . have := (h5 y hy).2
   rw [e] at this
   simp at this
   exact ⟨this.2, kc _ this.1⟩
 . congr 1
   clear h3 h4 h5 kc
   induction c with
   | nil => rfl
   | cons n k r ih => rw [atR, n.hi, ← ih]
 . clear h4 h5 kc
   induction c with
   | nil => cases hi
   | @cons i' y ix ys n k r ih =>
     rcases asX.mp hi with e | hi
     . subst e; exact ⟨y, n.hi, h3 y asT⟩
     . exact ih (fun z hz => h3 z (asV _ hz)) hi
def D.Hv : D -> Int
 | .int i => i
 | _ => 0
def D.toS : D -> Str
 | .str x => x
 | _ => Str.empty
theorem fS {bs : Q.e} (h0 : 0 <= k) (h1 : k < bs.length) : Bc (bs.map D.int) k = some (.int (bs.getD k.toNat 0)) := by
 obtain ⟨j, rfl⟩ : ∃ j : Nat, k = j := ⟨k.toNat, by omega⟩
 refine b6 ?_
 have hl : j < bs.length := by omega
 rw [atf, as2 hl]
 simp [List.getD, hl]
theorem gf : ∀ (bs : Q.e), D.cV (bs.map D.int) = true
 | [] => rfl
 | i :: r => by rw [atg, D.cV, gf r]; rfl
theorem mE {lo : Int} {d : D} (h : (cW lo n)[j]? = some d) : d = .int (lo + j) /\ j < n := by
 have hl : j < n := by
   have := (atl.mp h).1
   simpa [cW] using this
 refine ⟨?_, hl⟩
 unfold cW at h
 rw [atf, aud hl] at h
 exact (atv h).symm
theorem lZ (l : List α) : l.filter (fun _ => true) = l := by simp
theorem O6 {K : Q.l} {CL : Q.g} {Z : Hp} : ∀ (ns : Q.e), aX K CL Z (ns.map D.int) (ns.map V.int)
 | [] => .nil
 | n :: r => .cons (.int n) (O6 r)
theorem aib {arg : List Int -> List D} {pre : List Int -> Prop} {res : List Int -> T} {ns : Q.e} (ha : arg ns = [.lst (ns.map D.int)]) (hp : pre ns) (hr : res ns = .sh (.bl true)) (hS : vJ K H a (ns.map V.int)) (h0 : ∀ x, VM x = true -> CL x = 0 := by intros; rfl) :
   XO K CL 1 arg pre res [.ref a] H (fun v _ => v = .bl true) fun _ _ _ => False :=
 ⟨H, ns, .refl _, fun _ _ q _ => q, by rw [ha]; exact .cons (.lst hS (O6 ns)) .nil, by rw [ha]; rfl, hp, fun x hx e => absurd (h0 x hx) e, fun v H' W' fp _ _ _ _ _ r _ _ => by
   rw [hr] at r
   cases r with
   | sh r => exact r.sc rfl⟩
mutual
def D.toPy : D -> PyData
 | .non => .none
 | .bl b => .bool b
 | .int i => .int i
 | .str x => .str x
 | .tup ds => .tuple (D.wg ds)
 | .lst ds => .list (D.wg ds)
 | .ins _ _ => .none
 | .vt _ => .none
 | .dct _ => .none
 | .any => .none
 | .val _ => .none
def D.wg : List D -> List PyData
 | [] => []
 | d :: ds => d.toPy :: D.wg ds
end
inductive rG : Nat -> D -> Prop where
 | non (n : Nat) : rG n .non
 | bl (n : Nat) (b : Bool) : rG n (.bl b)
 | int (n : Nat) (i : Int) : rG n (.int i)
 | str (n : Nat) (x : Str) (h : PyData.strOk x = true) : rG n (.str x)
 | tup {n : Nat} {ds : List D} (h : ∀ d ∈ ds, rG n d) : rG (n + 1) (.tup ds)
 | lst {n : Nat} {ds : List D} (h : ∀ d ∈ ds, rG n d) : rG (n + 1) (.lst ds)
def RL (a b : D) : Bool := PyData.eqv a.toPy b.toPy
theorem rG.aic {n : Nat} : ∀ {ds : List D}, (∀ d ∈ ds, d.toPy.canLay0 = true /\ d.toPy.depth <= n) -> PyData.canLayAll0 (D.wg ds) = true /\ PyData.depthAll (D.wg ds) <= n
 | [], _ => ⟨by rw [D.wg, PyData.canLayAll0], by rw [D.wg, PyData.depthAll]; exact ata _⟩
 | d :: ds, h => by
   have h1 := h d asT
   have h2 := rG.aic (ds := ds) fun e he => h e (asV _ he)
   rw [D.wg, PyData.canLayAll0, PyData.depthAll, h1.1, h2.1]
   exact ⟨rfl, Nat.max_le.mpr ⟨h1.2, h2.2⟩⟩
theorem rG.lay {d : D} (h : rG n d) : d.toPy.canLay0 = true /\ d.toPy.depth <= n := by
 induction h with
 | non n => exact ⟨by rw [D.toPy, PyData.canLay0], by rw [D.toPy, PyData.depth]; exact ata _⟩
 | bl n b => exact ⟨by rw [D.toPy, PyData.canLay0], by rw [D.toPy, PyData.depth]; exact ata _⟩
 | int n i => exact ⟨by rw [D.toPy, PyData.canLay0], by rw [D.toPy, PyData.depth]; exact ata _⟩
 | str n x hx => exact ⟨by rw [D.toPy, PyData.canLay0]; exact hx, by rw [D.toPy, PyData.depth]; exact ata _⟩
 | @tup n ds _ ih =>
   have := rG.aic ih
   rw [D.toPy, PyData.canLay0, PyData.depth]
   exact ⟨this.1, by omega⟩
 | @lst n ds _ ih =>
   have := rG.aic ih
   rw [D.toPy, PyData.canLay0, PyData.depth]
   exact ⟨this.1, by omega⟩
theorem O7 {d : D} (h : rG n d) : RL d d = true := SeqAt.eqv_refl _ h.lay.1
theorem Lp (I : L2.Inv X pins σ H s) {d : D} {u : Value} (hd : rG n d) (q : cC X.K CL H d v) (r : RelV v u) : ∃ as, Reads s.heap u d.toPy as := by
 refine cC.rec (motive_1 := fun d v _ => ∀ (n : Nat) (u : Value), rG n d -> RelV v u -> ∃ as, Reads s.heap u d.toPy as)
   (motive_2 := fun ds vs _ => ∀ (n : Nat) (us : Q.q), (∀ d ∈ ds, rG n d) -> Vals vs us -> ∃ as, ReadsAll s.heap us (D.wg ds) as) (motive_3 := fun _ _ _ => True) (motive_4 := fun _ _ _ => True) (motive_5 := fun _ _ _ => True)
   (fun _ _ _ r => ?non) (fun b _ _ _ r => ?bl) (fun i _ _ _ r => ?int) (fun x _ _ _ r => ?str) (fun _ _ _ hd _ => by cases hd) (fun _ _ _ hd _ => by cases hd) (fun hq _ ih n u hd r => ?tup) (fun hq _ ih n u hd r => ?lst) (fun _ _ _ _ _ hd _ => by cases hd) (fun _ _ _ _ _ hd _ => by cases hd) (fun _ _ _ _ _ hd _ => by cases hd)
   (fun _ _ _ r => ?nil) (fun _ _ ih ihs n us h r => ?cons) trivial Q.P trivial Q.P trivial Q.P q n u hd r
 case non => cases r; rw [D.toPy]; exact ⟨[], .none⟩
 case bl => cases r; rw [D.toPy]; exact ⟨[], .bool b⟩
 case int => obtain ⟨t, rfl⟩ := r; rw [D.toPy]; exact ⟨[], .int i t⟩
 case str => obtain ⟨t, rfl⟩ := r; rw [D.toPy]; exact ⟨[], .str x t⟩
 case tup =>
   cases hd with
   | tup hd =>
     cases r
     obtain ⟨its, rv, ⟨o, e, c, k, dt⟩, _⟩ := I.tuple hq
     obtain ⟨as, ra⟩ := ih _ _ hd rv
     rw [D.toPy]
     exact ⟨as, .tuple e c dt (by simpa using ra)⟩
 case lst =>
   cases hd with
   | lst hd =>
     cases r
     obtain ⟨its, rv, ⟨o, k, e, c, _, dt⟩, _⟩ := I.list hq
     obtain ⟨as, ra⟩ := ih _ _ hd rv
     rw [D.toPy]
     exact ⟨_, .list e c dt (by simpa using ra)⟩
 case nil => cases r; rw [D.wg]; exact ⟨[], .nil⟩
 case cons =>
   cases r with
   | cons r rs =>
     obtain ⟨as, ra⟩ := ih n _ (h _ asT) r
     obtain ⟨bs, rb⟩ := ihs n _ (fun e he => h e (asV _ he)) rs
     rw [D.wg]
     exact ⟨as ++ bs, .cons ra rb⟩
variable {δ3 : Q.n} {p2 pp : Pos} {fP : List Stmt} {DD : gX} {d1 d2 : D} {ds : List D}
theorem aid (hu : X.A.units + 64 < cLine) : vX X (compareOp .Eq) (fun x y H Q => ∃ a c, cC X.K CL H a x /\ cC X.K CL H c y /\ rG 60 a /\ rG 60 c /\ Q (.bl (RL a c)) H) := by
 intro pins s σ H x y v u Q I rx ry h
 obtain ⟨a, c, ra, rc, da, dc, q⟩ := h
 obtain ⟨as, r1⟩ := Lp I da ra rx
 obtain ⟨bs, r2⟩ := Lp I dc rc ry
 exact SeqAt.rcAt_reads r1 r2 da.lay.1 dc.lay.1 (by have := da.lay.2; omega) X.prog X.w X.xe _ ⟨.bl _, H, I, rfl, q⟩
theorem aie (hu : X.A.units + 64 < cLine) : vX X (compareOp .NotEq) (fun x y H Q => ∃ a c, cC X.K CL H a x /\ cC X.K CL H c y /\ rG 60 a /\ rG 60 c /\ Q (.bl (!RL a c)) H) := by
 intro pins s σ H x y v u Q I rx ry h
 obtain ⟨a, c, ra, rc, da, dc, q⟩ := h
 obtain ⟨as, r1⟩ := Lp I da ra rx
 obtain ⟨bs, r2⟩ := Lp I dc rc ry
 exact SeqAt.rcNeAt_reads r1 r2 da.lay.1 dc.lay.1 (by have := da.lay.2; omega) X.prog X.w X.xe _ ⟨.bl _, H, I, rfl, q⟩
theorem alo {op : CmpOp} {f : Bool -> Bool} (ho : vX X (compareOp op) (fun x y H Q => ∃ a c, cC X.K CL H a x /\ cC X.K CL H c y /\ rG 60 a /\ rG 60 c /\ Q (.bl (f (RL a c))) H)) (h1 : eF X CL b e1 δ d1 δ1) (h2 : eF X CL b e2 δ1 d2 δ2) (k1 : rG 60 d1) (k2 : rG 60 d2)
   (hm : behindInMarks op e2 = false) : xP X CL b (.Compare e1 [op] [e2] pos) δ (f (RL d1 d2)) δ2 /\ dH X CL b (.Compare e1 [op] [e2] pos) δ (.sh (.bl (f (RL d1 d2)))) δ2 := by
 constructor
 . intro H Z σ ts vs Q S k
   refine J1 (xK ho fh fh hm) (h1 H Z σ ts vs _ S fun v1 H1 Z1 z1 k1' S1 r1 => h2 H1 Z1 σ ts vs _ S1 fun v2 H2 Z2 z2 k2' S2 r2 => ?_)
   exact ⟨d1, d2, r1.mono k2', r2, k1, k2, _, rfl, k H2 Z2 Q.w (k1'.trans k2') S2⟩
 . intro H Z σ ts vs Q S k
   refine dS (xJ ho fh fh hm) (h1 H Z σ ts vs _ S fun v1 H1 Z1 z1 k1' S1 r1 => h2 H1 Z1 σ ts vs _ S1 fun v2 H2 Z2 z2 k2' S2 r2 => ?_)
   exact ⟨d1, d2, r1.mono k2', r2, k1, k2, k _ H2 Z2 Q.w (k1'.trans k2') (S2.push (.bl _))⟩
theorem aaU (hu : X.A.units + 64 < cLine) (h1 : eF X CL b e1 δ d1 δ1) (h2 : eF X CL b e2 δ1 d2 δ2) (k1 : rG 60 d1) (k2 : rG 60 d2) : xP X CL b (.Compare e1 [.Eq] [e2] pos) δ (RL d1 d2) δ2 /\ dH X CL b (.Compare e1 [.Eq] [e2] pos) δ (.sh (.bl (RL d1 d2))) δ2 :=
 alo (f := fun b => b) (aid hu) h1 h2 k1 k2 (tY _)
theorem Lq (hu : X.A.units + 64 < cLine) (h1 : eF X CL b e1 δ d1 δ1) (h2 : eF X CL b e2 δ1 d2 δ2) (k1 : rG 60 d1) (k2 : rG 60 d2) : xP X CL b (.Compare e1 [.NotEq] [e2] pos) δ (!RL d1 d2) δ2 /\ dH X CL b (.Compare e1 [.NotEq] [e2] pos) δ (.sh (.bl (!RL d1 d2))) δ2 :=
 alo (f := fun b => !b) (aie hu) h1 h2 k1 k2 (tY _)
def cutD (xs : List α) (lo hi : Option Int) : List α := (xs.drop (HT.DP xs.length 0 lo)).take (HT.DP xs.length xs.length hi - HT.DP xs.length 0 lo)
theorem aX.drop {K : Q.l} {Z : Hp} : ∀ {ds : List L3.D} {vs : List V} (n : Nat), aX K CL Z ds vs -> aX K CL Z (ds.drop n) (vs.drop n)
 | _, _, 0, r => r
 | _, _, _ + 1, .nil => .nil
 | _, _, n + 1, .cons _ t => aX.drop n t
theorem aX.take {K : Q.l} {Z : Hp} : ∀ {ds : List L3.D} {vs : List V} (n : Nat), aX K CL Z ds vs -> aX K CL Z (ds.take n) (vs.take n)
 | _, _, 0, _ => .nil
 | _, _, _ + 1, .nil => .nil
 | _, _, n + 1, .cons r t => .cons r (aX.take n t)
theorem aX.cut {ds : List L3.D} (r : aX K CL Z ds vs) (lo hi : Option Int) : aX K CL Z (cutD ds lo hi) (Xz vs lo hi) := by
 unfold cutD Xz
 rw [r.length]
 exact (r.drop _).take _
theorem Hw : ∀ {ds : List L3.D}, D.cV ds = true -> ∀ d ∈ ds, d.qa = true
 | [], _, _, h => by cases h
 | d :: ds, k, e, h => by
   rw [D.cV, asZ] at k
   rcases asX.mp h with h | h
   . subst h; exact k.1
   . exact Hw k.2 e h
theorem GD : ∀ {ds : List L3.D}, (∀ d ∈ ds, d.qa = true) -> D.cV ds = true
 | [], _ => rfl
 | d :: ds, h => by rw [D.cV, h d asT, GD fun e he => h e (asV _ he)]; rfl
theorem adY {xs : List α} {lo hi : Option Int} {x : α} (h : x ∈ cutD xs lo hi) : x ∈ xs := List.mem_of_mem_drop (aup h)
def TOv (X : Cx) (CL : Q.g) (b : Bx) (e : Option Expr) (δ : Q.n) (k : Option Int) (δ' : Q.n) : Prop :=
 ∃ t, PO X e t /\ ∀ (H Z : Hp) (σ : L2.St) (ts : List T) (vs : List V) (Q : Option Int -> Hp -> Prop), bY X.K CL b H Z δ σ ts vs -> (∀ H' Z', aR Z Z' -> aR H H' -> bY X.K CL b H' Z' δ' σ ts vs -> Q k H') -> t σ H Q
theorem oV : TOv X CL b none δ none δ := ⟨_, adF, fun H Z σ ts vs Q S k => k H Z Q.j Q.j S⟩
theorem oW (h : eF X CL b e δ (.int k) δ1) : TOv X CL b (some e) δ (some k) δ1 := ⟨_, adG fh, fun H Z σ ts vs Q S kk => h H Z σ ts vs _ S fun v H1 Z1 z1 k1 S1 r => ⟨k, r.sc rfl, kk H1 Z1 z1 k1 S1⟩⟩
theorem qN {lo hi : Option Expr} {l h : Option Int} (h1 : eF X CL b e δ (.lst ds) δ1) (hi1 : D.cV ds = true) (h2 : TOv X CL b lo δ1 l δ2) (h3 : TOv X CL b hi δ2 h δ3) : dH X CL b (.Subscript e (.Slice lo hi none p2) pos) δ (.lst ((cutD ds l h).map T.sh)) δ3 := fun H Z σ ts vs Q S k => by
 obtain ⟨t2, po2, w2⟩ := h2
 obtain ⟨t3, po3, w3⟩ := h3
 refine dS (OJ adH fh po2 po3) (h1 H Z σ ts vs _ S fun v H1 Z1 z1 k1 S1 r => w2 H1 Z1 σ ts vs _ S1 fun H2 Z2 z2 k2 S2 => w3 H2 Z2 σ ts vs _ S2 fun H3 Z3 z3 k3 S3 => ?_)
 have r' := r.mono (k2.trans k3)
 cases r' with
 | lst hq rr =>
   refine ⟨_, _, rfl, hq, fun p hp => ?_⟩
   have rc := aX.qa S3.tp (GD fun d hd => Hw hi1 d (adY hd)) (rr.cut l h)
   obtain ⟨c, S4⟩ := (bY.Fz rc S3).zk (g0 := []) (by simp [rc.length]) hp
   exact k _ _ _ (z1.trans (z2.trans z3)) (k1.trans (k2.trans (k3.trans c))) S4
theorem tu (hm : X.mg "tuple" = none) (h : eF X CL b e δ (.lst ds) δ1) (hi : D.cV ds = true) (hg : Gl X "tuple") (hs : Q.V := by exact cE rfl) : dH X CL b (.Call (.Name "tuple" pp) [e] [] pos) δ (.sh (.tup ds)) δ1 := fun H Z σ ts vs Q S k =>
 dS (qC JZ hg hm O4 (dh fh iy hs) (he := hs)) (h H Z σ ts vs _ S fun v H1 Z1 z1 k1 S1 r => by
   cases r with
   | lst hq rr =>
     refine ⟨_, _, rfl, .inl ⟨hq, fun l hl => ?_⟩⟩
     obtain ⟨a, c, S2⟩ := (bY.Fz (aX.qa S1.tp hi rr) S1).aaN (by simp [rr.length]) hl
     obtain ⟨Z3, z3, S3⟩ := S2.aaJ
     rw [T.iX, rJ] at S3
     exact k _ _ Z3 (z1.trans (a.trans z3)) (k1.trans c) S3)
theorem yU {Rh : List T} {pa pb : Pos} (n : Vn X i x) (h0 : δ[i]? = some (some (.lst Rh))) (h : Q.Q) (h1 : δ1[i]? = some (some (.lst tl))) (hl : tl.length <= 1000000) (k : dY X CL b fP (δ1.set i (some (.lst (tl ++ [t])))) DD)
   (Bo : attributeBase (.Name x pp) "append" X.env (eval (.Name x pp) X.env) = eval (.Name x pp) X.env := by rfl)
   (Ld : Q.aQ := by rfl)
   (hline : (pa.endLine == pb.line) = true := by rfl) (hs : Q.V := by exact cE rfl) (OW : swapsWith (.Call (.Attribute (.Name x pp) "append" pa) [e] [] pb) none pos.line X.env = pure false := by rfl) :
   dY X CL b (.Expr (.Call (.Attribute (.Name x pp) "append" pa) [e] [] pb) pos :: fP) δ DD :=
 c9 (ah8 i h0 h h1 (auz hl (by rw [atP]; decide)) k n.hi n.hv n.hd n.rE Bo Ld hline hs OW)
theorem aaV {ps : Pos} (n : Vn X i x) (h : Q.Q) (h2 : eF X CL b e2 δ1 (.int k) δ1) (h1 : δ1[i]? = some (some (.lst tl))) (hk : xM tl.length k = some j) (kk : dY X CL b fP (δ1.set i (some (.lst (tl.set j t)))) DD)
   (ha : ∀ v, assign (.Subscript (.Name x pp) e2 ps) X.env v = (do
     let ov ← holding [v] (eval (.Name x pp) X.env)
     let iv ← holding [v, ov] (eval e2 X.env)
     standAt ps
     holding [v, ov, iv] (setItem ov iv v)
     release [v, ov, iv] []) := by intro _; rfl)
   (hs : swapsWithSole [.Subscript (.Name x pp) e2 ps] e pos.line X.env = pure false := by rfl) (hw : swappedStores [.Subscript (.Name x pp) e2 ps] e X.env = pure none := by rfl) (ha1 : (assignEach [.Subscript (.Name x pp) e2 ps] X.env).map (·.2) = [assign (.Subscript (.Name x pp) e2 ps) X.env] := by rfl) :
   dY X CL b (.Assign [.Subscript (.Name x pp) e2 ps] e pos :: fP) δ DD := by
 refine c9 fun H Z σ ts vs E S M => v7 (aag fh (aaf (ow n.hi n.hv n.hd n.rE) fh set_list ha) hs hw ha1) (h H Z σ ts vs _ S fun v H1 Z1 z1 k1 S1 => ?_)
 have hj : j < tl.length := (Bj hk).2.1
 obtain ⟨v0, e0, _⟩ := S1.look h1
 refine ⟨v0, e0, ?_⟩
 refine h2 H1 Z1 σ _ _ _ S1 fun v2 H2 Z2 z2 k2 S2 r2 => ?_
 obtain ⟨a, us, ea, XJ, hu, S3⟩ := S2.setAt h1 hj
 rw [e0] at ea
 cases ea
 exact ⟨a, us, k, j, rfl, r2.sc rfl, XJ, by rw [hu]; exact hk, M.nx _ σ _ Z2 Q.w S3 kk⟩
theorem cT (hn : ds.length = n) (hm : X.mg "len" = none) (h : eF X CL b e δ (.lst ds) δ1) (hg : Gl X "len") (hs : Q.V := by exact cE rfl) : dH X CL b (.Call (.Name "len" pp) [e] [] pos) δ (.sh (.int n)) δ1 := by
 subst hn
 exact VR hm h hg hs
theorem bK (h : dH X CL b e δ (.lst (ds.map T.sh)) δ1) : eF X CL b e δ (.lst ds) δ1 := by
 have := VP h
 rwa [T.iX, rJ] at this
theorem gY {f : α -> D} {l : List α} (z : α) (h0 : 0 <= k) (h1 : k < l.length) : Bc (l.map f) k = some (f (l.getD k.toNat z)) := by
 obtain ⟨j, rfl⟩ : ∃ j : Nat, k = j := ⟨k.toNat, by omega⟩
 refine b6 ?_
 have hl : j < l.length := by omega
 rw [atf, as2 hl]
 simp [List.getD, hl]
theorem bS {α : Type} {f : α -> D} (h : ∀ a, (f a).qa = true) : ∀ (l : List α), D.cV (l.map f) = true
 | [] => rfl
 | a :: l => by rw [atg, D.cV, h a, bS h l]; rfl
variable {d : D}
theorem adZ {u : Tok} (hm : X.mg x = some (.int k u)) (hg : Gl X x) (hd : Q.s := by decide) : dH X CL b Q.B δ (.sh (.int k)) δ := fun H Z σ ts vs Q S kk =>
 dS (GC (v := .int k) hg hm ⟨u, rfl⟩ hd) (kk _ H Z Q.j Q.j (S.push (.int k)))
theorem kN (hm : ∃ u, X.mg x = some (.int k u)) (hg : Gl X x) (hd : Q.s := by decide) : dH X CL b Q.B δ (.sh (.int k)) δ := by
 obtain ⟨u, hm⟩ := hm
 exact adZ hm hg hd
theorem vE (n : Vn X i x) (h : δ[i]? = some (some t)) (e : t.iX = d) : eF X CL b Q.B δ d δ := e ▸ vB n h
theorem t9 (x : Str) : ∀ l : List Str, inV (.str x) (l.map V.str) = decide (x ∈ l)
 | [] => by simp [inV]
 | y :: l => by
   have ih := t9 x l
   unfold inV at ih ⊢
   rw [atg, atW, ih]
   have e : ∀ a c : Str, eqV (.str a) (.str c) = (a == c) := fun _ _ => rfl
   rw [e]
   by_cases h : y = x
   . subst h; simp
   . have h' : ¬ x = y := fun e => h e.symm
     simp [h, h']
theorem aX.strs {K : Q.l} {Z : Hp} : ∀ {l : Q.h} {vs : List V}, aX K CL Z (l.map D.str) vs -> vs = l.map V.str
 | [], _, r => by
   have r' : aX K CL Z [] _ := r
   cases r'; rfl
 | y :: l, _, r => by
   have r' : aX K CL Z (D.str y :: l.map D.str) _ := r
   cases r' with
   | cons r1 r2 => rw [r1.sc rfl, aX.strs r2]; rfl
theorem iz : ∀ l : List Str, (l.map V.str).all yS = true
 | [] => rfl
 | y :: l => by rw [atg, atV, iz l]; rfl
variable {l : Q.h}
theorem alr (h1 : eF X CL b e1 δ (.str x) δ1) (h2 : eF X CL b e2 δ1 (.tup (l.map .str)) δ2) (hm : behindInMarks .In e2 = false) :
   xP X CL b (.Compare e1 [.In] [e2] pos) δ (decide (x ∈ l)) δ2 /\ dH X CL b (.Compare e1 [.In] [e2] pos) δ (.sh (.bl (decide (x ∈ l)))) δ2 := by
 constructor
 . intro H Z σ ts vs Q S k
   refine J1 (xK xN fh fh hm) (h1 H Z σ ts vs _ S fun v1 H1 Z1 z1 k1 S1 r1 => h2 H1 Z1 σ ts vs _ S1 fun v2 H2 Z2 z2 k2 S2 r2 => ?_)
   cases r2 with
   | tup hq rr =>
     have e := rr.strs
     subst e
     refine ⟨_, _, rfl, .inr hq, by rw [r1.sc rfl]; rfl, iz l, _, rfl, ?_⟩
     rw [asH as7, r1.sc rfl, t9]
     exact k H2 Z2 Q.w Q.D S2
 . intro H Z σ ts vs Q S k
   refine dS (xJ xN fh fh hm) (h1 H Z σ ts vs _ S fun v1 H1 Z1 z1 k1 S1 r1 => h2 H1 Z1 σ ts vs _ S1 fun v2 H2 Z2 z2 k2 S2 r2 => ?_)
   cases r2 with
   | tup hq rr =>
     have e := rr.strs
     subst e
     refine ⟨_, _, rfl, .inr hq, by rw [r1.sc rfl]; rfl, iz l, ?_⟩
     rw [asH as7, r1.sc rfl, t9]
     exact k _ H2 Z2 Q.w Q.D (S2.push (.bl _))
theorem aaW (h1 : eF X CL b e1 δ (.str x) δ1) (h2 : XM X CL b es δ1 ((l.map D.str).map T.sh) δ2) (hl : (l.map D.str).length <= sizeLine := by exact aC rfl) :
   xP X CL b (.Compare e1 [.In] [.Tuple es j p2] pos) δ (decide (x ∈ l)) δ2 /\ dH X CL b (.Compare e1 [.In] [.Tuple es j p2] pos) δ (.sh (.bl (decide (x ∈ l)))) δ2 := alr h1 (ai (bE h2 hl)) rfl
theorem Lr (hm : X.mg "int" = none) (h : eF X CL b e δ (.bl p) δ1) (hg : Gl X "int") (hs : Q.V := by exact cE rfl) : dH X CL b (.Call (.Name "int" pp) [e] [] pos) δ (.sh (.int (if p then 1 else 0))) δ1 := fun H Z σ ts vs Q S k =>
 dS (qC Xu hg hm XR (dh fh iy hs) (he := hs)) (h H Z σ ts vs _ S fun v H1 Z1 z1 k1 S1 r => .inr ⟨p, by rw [r.sc rfl], k _ H1 Z1 z1 k1 (S1.push (.int _))⟩)
def Hx : Expr -> Option Str
 | .Constant (.str x) _ _ => some x
 | _ => none
def DT : List Expr -> Option Q.h
 | [] => some []
 | e :: es => (Hx e).bind fun x => (DT es).map (x :: ·)
theorem O8 (h : Hx e = some x) : ∃ j p, e = .Constant (.str x) j p := by
 unfold Hx at h
 split at h
 . cases h; exact ⟨_, _, rfl⟩
 . cases h
theorem iA : ∀ {es : List Expr} {l : Q.h}, DT es = some l -> XM X CL b es δ ((l.map D.str).map T.sh) δ
 | [], l, h => by
   have e : l = [] := (atv h).symm
   subst e
   exact c7
 | e :: es, l, h => by
   rw [DT] at h
   obtain ⟨x, hx, h⟩ := Option.bind_eq_some_iff.mp h
   obtain ⟨l', hl, rfl⟩ := atH.mp h
   obtain ⟨j, p, rfl⟩ := O8 hx
   exact bL bx (iA hl)
theorem aoj {st1 : Stmt} (J : List (Option T) -> Prop) (k : ∀ δ2, J δ2 -> dY X CL b fP δ2 DD) (h : (∀ δ2, J δ2 -> dY X CL b fP δ2 DD) -> dY X CL b (st1 :: fP) δ DD) : dY X CL b (st1 :: fP) δ DD := h k
theorem aaX {l : List α} (z : α) (h0 : 0 <= k) (h1 : k < l.length) : Bc l k = some (l.getD k.toNat z) := by
 obtain ⟨j, rfl⟩ : ∃ j : Nat, k = j := ⟨k.toNat, by omega⟩
 refine b6 ?_
 have hl : j < l.length := by omega
 rw [as2 hl]
 simp [List.getD, hl]
theorem str_len (x y : Str) : (x ++ y).length = x.length + y.length := by
 show (x.cps ++ y.cps).size = _
 rw [Array.size_append]; rfl
theorem FE (l : Q.e) : T.eV ((l.map D.int).map T.sh) = true := by
 rw [ath]
 induction l with
 | nil => rfl
 | cons i r ih => rw [atg, T.eV, ih]; rfl
variable {tt : List T}
theorem bY.aif (S : Q.K) (hi : δ[i]? = some (some (.tup tt))) (hj : tt[j]? = some t) :
   ∃ a0 us0 v, σ[i]? = some (some (.ref a0)) /\ Z a0 = some (.tup us0) /\ us0[j]? = some v /\ bY K CL b H Z (δ.set i (some (.tup (tt.set j (.sh .any))))) σ (t :: ts) (v :: vs) := by
 obtain ⟨fp, gp, e, r, nd, k⟩ := S.rep
 obtain ⟨v0, f1, f2, f3, hv, v8, rt, put, _⟩ := e.get hi
 subst v8
 cases rt with
 | @tup a0 us0 _ _ hq r0 =>
   obtain ⟨vj, g1, g2, g3, hvj, hg, rj, set⟩ := r0.at hj
   subst hg
   have r2 := set (H' := H) (t' := .sh .any) (v' := vj) (g := []) (fun _ _ => rfl) (.sh (.any vj))
   rw [iQ hvj] at r2
   have e2 := put (H' := H) Q.j (fun _ _ => rfl) (cL.tup hq r2)
   rw [iQ hv] at e2
   have hp : ((f1 ++ ((g1 ++ ([] ++ g3)) ++ f3)) ++ (g2 ++ gp)).Perm ((f1 ++ ((g1 ++ (g2 ++ g3)) ++ f3)) ++ gp) := by
     simp only [aub, asO]
     refine atD f1 (atD g1 ?_)
     have := (atj (l₁ := g3 ++ f3) (l₂ := g2)).append_right gp
     simp only [asO] at this
     exact this
   exact ⟨a0, us0, vj, hv, hq, hvj, ⟨⟨_, g2 ++ gp, e2, .cons rj r, hp.nodup_iff.mpr nd, fun a ha => k a (hp.mem_iff.mp ha)⟩, S.bh, S.zz, S.zh, S.new, S.tp, S.tab⟩⟩
variable {pc ps : Pos} {kj : Nat}
theorem VX (j : Nat) (n : Vn X i x) (h : δ[i]? = some (some (.tup tt))) (hj : tt[j]? = some t) : dH X CL b (.Subscript (.Name x pp) (.Constant (.int j) kj pc) ps) δ t (δ.set i (some (.tup (tt.set j (.sh .any))))) := fun H Z σ ts vs Q S k => by
 obtain ⟨a0, us0, v, hv, hq, hvj, S'⟩ := S.aif h hj
 exact dS (OO aav (ow n.hi n.hv n.hd n.rE) aad (fun _ _ => rfl)) ⟨_, hv, a0, us0, j, v, rfl, rfl, Fp.of (S.zh _ _ hq), b6 hvj, k v H Z Q.j Q.j S'⟩
variable {ds : List D}
theorem vFL (n : Vn X i x) (h : δ[i]? = some (some (.lst (ds.map T.sh)))) : dH X CL b Q.B δ (.sh (.lst ds)) (δ.set i (some (.sh (.lst ds)))) := by
 have := vF (CL := CL) (b := b) (pos := pos) n h
 rwa [T.iX, rJ] at this
theorem yT.get : ∀ {fs : List (Str × D)} {gs : List (Str × V)} {f : Str} {d : D}, yT K CL Z fs gs -> fs.lookup f = some d -> ∃ v, gs.lookup f = some v /\ cC K CL Z d v
 | _, _, _, _, .nil, e => by simp at e
 | _, _, f, d, .cons (x := x) r t, e => by
   rw [atu] at e ⊢
   cases h : f == x with
   | true => rw [h] at e; cases e; exact ⟨_, rfl, r⟩
   | false => rw [h] at e; exact yT.get t e
def Bu (f : Str) (t : T) : List (Str × T) -> List (Str × T)
 | [] => [(f, t)]
 | (g, x) :: r => if g = f then (g, t) :: r else (g, x) :: Bu f t r
theorem eO.length {fs : List (Str × T)} {gs : List (Str × V)} (h : eO K CL H Z fs gs fp) : fs.length = gs.length :=
 eO.ind (P := fun d v _ => d.length = v.length) rfl (fun _ _ i => congrArg (· + 1) i) h
theorem eO.put {f : Str} {g : Q.p} (q : cL K CL H Z t v g) : ∀ {fs : List (Str × T)} {gs : List (Str × V)} {fp : Q.p}, eO K CL H Z fs gs fp →
   ∃ VY f', eO K CL H Z (Bu f t fs) (qL f v gs) VY /\ f'.Sublist fp /\ VY.Perm (g ++ f')
 | _, _, _, .nil => ⟨g ++ [], [], .cons q .nil, atq _, auV _⟩
 | _, _, _, .cons (x := x) (fp := fp) (gp := gp) r rs => by
   rw [Bu, qL]
   by_cases h : x = f
   . rw [asM h, asM h]
     exact ⟨g ++ gp, gp, .cons q rs, atO _ _, auV _⟩
   . rw [asH h, asH h]
     obtain ⟨p, p', h1, h2, h3⟩ := eO.put (f := f) q rs
     refine ⟨fp ++ p, fp ++ p', .cons r h1, atn (atq _) h2, (atD fp h3).trans ?_⟩
     rw [← asO, ← asO]
     exact atj.append_right p'
theorem bY.RM {o : HO} {VY VW : Q.p} (hm : pB o = false) (S : Q.K) (own : ∀ c ∈ fp ++ gp, Z c = none /\ b.B c = none) (ha : a ∈ fp ++ gp)
   (e' : fO K CL (upd H a o) Z δ2 σ VY) (r' : bJ K CL (upd H a o) Z tl us VW) (pm : (VY ++ VW).Nodup) (sub : ∀ c ∈ VY ++ VW, c ∈ fp ++ gp) :
   bY K CL b (upd H a o) Z δ2 σ tl us := by
 have oa := own a ha
 refine ⟨⟨_, _, e', r', pm, fun c hc => own c (sub c hc)⟩, fun c u q => ?_, S.zz, fun c u q => ?_, S.new, fun c u q i => ?_, S.tab⟩
 . rw [aP (cJ q oa.2)]; exact S.bh c u q
 . rw [aP (cJ q oa.1)]; exact S.zh c u q
 . by_cases hc : c = a
   . subst hc; rw [bR] at q; cases q; rw [hm] at i; cases i
   . rw [aP hc] at q; exact S.tp c u q i
variable {c : Str}
theorem bY.setField {x : Addr} {f : Str} {fs : List (Str × T)} (S : Q.af) (hi : δ[i]? = some (some (.pin x (.ins c fs)))) :
   ∃ dx gs, σ[i]? = some (some (.ref x)) /\ H x = some (.ins (CL c) dx gs) /\ gs.length = fs.length /\ bY K CL b (upd H x (.ins (CL c) dx (qL f v gs))) Z (δ.set i (some (.pin x (.ins c (Bu f t fs))))) σ ts vs := by
 obtain ⟨fp, gp, e, r, nd, k⟩ := S.rep
 obtain ⟨v0, f1, f2, f3, hv, v8, rt, put, _⟩ := e.get hi
 subst v8
 cases rt with
 | pin rt =>
 cases rt with
 | @ins a dx _ gs _ g ha rs =>
   cases r with
   | @cons _ _ _ _ ft gr q1 q2 =>
     have ne : ∀ c ∈ (f1 ++ (g ++ f3)) ++ (ft ++ gr), c ≠ x := fun c hc e => by
       subst e
       have hp : ((f1 ++ ((c :: g) ++ f3)) ++ (ft ++ gr)).Perm (c :: ((f1 ++ (g ++ f3)) ++ (ft ++ gr))) := by
         rw [att, ← att]
         exact (aue.append_right _)
       exact (atL.mp (hp.nodup_iff.mp nd)).1 hc
     refine ⟨dx, gs, hv, ha, rs.length.symm, ?_⟩
     have q1' := q1.mono (H' := upd H x (.ins (CL c) dx (qL f v gs))) Q.j fun c hc => aP Q.T
     have rs' := rs.mono (H' := upd H x (.ins (CL c) dx (qL f v gs))) Q.j fun c hc => aP Q.T
     obtain ⟨p, p', h1, h2, h3⟩ := eO.put (f := f) q1' rs'
     have r1 : cL K CL (upd H x (.ins (CL c) dx (qL f v gs))) Z (.pin x (.ins c (Bu f t fs))) (.ref x) (x :: p) := .pin (.ins bR h1)
     have e2 := put (H' := upd H x (.ins (CL c) dx (qL f v gs))) Q.j (fun c hc => aP (ne c (by
       rcases asQ.mp hc with h | h
       . simp [h]
       . simp [h]))) r1
     rw [iQ hv] at e2
     have hp : ((f1 ++ ((x :: p) ++ f3)) ++ gr).Perm ((f1 ++ ((x :: p') ++ f3)) ++ (ft ++ gr)) := by
       have h4 : ((f1 ++ ((x :: p) ++ f3)) ++ gr).Perm ((f1 ++ ((x :: (ft ++ p')) ++ f3)) ++ gr) := ((h3.cons x).append_right f3).append_left f1 |>.append_right gr
       refine h4.trans ?_
       simp only [att, asO]
       refine atD f1 (List.Perm.cons x ?_)
       have := (atj (l₁ := ft) (l₂ := p' ++ f3)).append_right gr
       simp only [asO] at this
       exact this
     have sb : ((f1 ++ ((x :: p') ++ f3)) ++ (ft ++ gr)).Sublist ((f1 ++ ((x :: g) ++ f3)) ++ (ft ++ gr)) :=
       atn (atn (atq _) (atn (List.Sublist.cons₂ x h2) (atq _))) (atq _)
     exact S.RM rfl k Q.r e2 (q2.mono Q.j fun c hc => aP Q.T) (hp.nodup_iff.mpr (nd.sublist sb)) fun c hc => sb.subset (hp.mem_iff.mp hc)
variable {f : Str} {d : D} {fs : List (Str × D)}
theorem dJ (hc : DM X.K (CL c)) (n : bQ X.K (CL c) f) (h : eF X CL b e δ (.ins c fs) δ1) (hl : fs.lookup f = some d) (hb : attributeBase e f X.env (eval e X.env) = eval e X.env := by rfl) :
   eF X CL b (.Attribute e f pos) δ d δ1 := fun H Z σ ts vs Q S k =>
 dS (aaq fh hb) (h H Z σ ts vs _ S fun v H' Z' z s S' r => by
   cases r with
   | @ins a dx _ gs _ ha rf =>
     obtain ⟨w, hw, rw'⟩ := rf.get hl
     exact ⟨a, CL c, dx, gs, w, rfl, ha, hc, n, hw, k w H' Z' z s S' rw'⟩)
theorem Hy (hc : DM X.K (CL c)) (n : bQ X.K (CL c) f) (h : dH X CL b e δ (.sh (.ins c fs)) δ1) (hl : fs.lookup f = some d) (hb : attributeBase e f X.env (eval e X.env) = eval e X.env := by rfl) :
   dH X CL b (.Attribute e f pos) δ (.sh d) δ1 := fun H Z σ ts vs Q S k =>
 dS (aaq fh hb) (h H Z σ ts vs _ S fun v H' Z' z s S' => by
   obtain ⟨fp, gp, _, r, _, _⟩ := S'.rep
   cases r with
   | cons r _ =>
     cases r with
     | sh r =>
       cases r with
       | @ins a dx _ gs _ ha rf =>
         obtain ⟨w, hw, rw'⟩ := rf.get hl
         exact ⟨a, CL c, dx, gs, w, rfl, S'.zh _ _ ha, hc, n, hw, k w H' Z' z s (S'.pop.push rw')⟩)
theorem Bv {gs : List (Str × T)} {pa pb : Pos} (hc : DM X.K (CL c)) (n : bQ X.K (CL c) f) (nm : Vn X i x) (h : Q.Q) (h1 : δ1[i]? = some (some (.pin a (.ins c gs)))) (hl : gs.length < 1000)
   (k : dY X CL b fP (δ1.set i (some (.pin a (.ins c (Bu f t gs))))) DD) (hs : swapsWith e (some (.Attribute (.Name x pa) f pb)) pc.line X.env = pure false := by rfl) :
   dY X CL b (.Assign [.Attribute (.Name x pa) f pb] e pc :: fP) δ DD := c9 fun H Z σ ts vs E S M =>
 v7 (ahH (ow nm.hi nm.hv nm.hd nm.rE) fh hs) (h H Z σ ts vs _ S fun v H' Z' z s S' => by
   obtain ⟨dx, ws, hv, hx, hlen, S2⟩ := S'.setField (f := f) h1
   exact ⟨.ref a, hv, a, CL c, dx, ws, rfl, hx, hc, n, by rw [hlen]; exact hl, M.nx _ σ _ Z' z S2 k⟩)
def spI (K : Q.l) (CL : Q.g) {A : Type} (c : Str) (n : Nat) (arg : A -> List D) (Pre : A -> Prop) (res : A -> List (Str × T)) : Sp := fun vs H Q _ =>
 ∃ (W H0 : Hp) (a : A) (x dx : Addr) (us : List V), vs = .ref x :: us /\ H0 x = none /\ H0 dx = none /\ dx ≠ x /\ H = upd (upd H0 dx (.own x)) x (.ins (CL c) dx []) ∧
   aR W H0 /\ (∀ c o, H0 c = some o -> pB o = true -> W c = some o) /\ aX K CL W (arg a) us /\ (arg a).length + 1 = n /\ Pre a /\ pO CL W ∧
   ∀ H' W' fp, aR H0 H' -> aR W W' -> aR W' H' -> (∀ c o, W' c = some o -> W c = none -> H0 c = none) -> (∀ c o, H' c = some o -> pB o = true -> W' c = some o) →
     cL K CL H' W' (.ins c (res a)) (.ref x) fp -> fp.Nodup -> (∀ c ∈ fp, W' c = none /\ H0 c = none) -> Q .non H'
variable {A : Type} {k : Nat} {f : Addr} {ps : Q.h} {arg : A -> List D} {Pre : A -> Prop}
theorem ad1 {res : A -> List (Str × T)} (a : A) (M : Mk X.K (CL c) f) (F : ic X.prog X.w X.K X.mg X.base xO k f fd ps (spI X.K CL c n arg Pre res)) (hr : jD (k + 1) X.A) (hm : X.mg x = some (.ref (CL c))) (hb : Binds X.K fd ps [])
   (h : BAv X CL b (e :: es) δ (arg a) δ1) (hn : (arg a).length + 1 = n) (hp : Pre a) (hc : T.cM (res a) = true) (hg : Gl X x)
   (Bh : Q.s := by decide) (he : Q.O := by exact cE rfl) (hpl : Q.W := by rfl) :
   dH X CL b Q.an δ (.ins c (res a)) δ1 := fun H Z σ ts vs Q S kk =>
 dS (VD M F hr hg hm hb .nil OS VL Bh he hpl) (h H Z σ ts vs _ S fun us H1 Z1 z1 k1 S1 r x dx hx hdx ne => by
   rw [atw]
   refine ⟨H1, H1, a, x, dx, us, rfl, hx, hdx, ne, rfl, .refl _, fun _ _ q _ => q, r, hn, hp, S1.aaI, fun H' W' fp hh ww wh nw tp rt nd own => ⟨rfl, ?_⟩⟩
   obtain ⟨Z', z', S'⟩ := S1.back hh S1.zh ww wh nw tp rt nd own (.inr (by rw [T.clean]; exact hc))
   exact kk _ H' Z' (z1.trans z') (k1.trans hh) S')
theorem VZ {qual : Str} {arg : A -> List D} {Pre : A -> Prop} {res : A -> List (Str × T)} (F : oj K x qual st f fd) (S : aY N ps (az st))
   (hb : ∀ (lu : Value) (Ar : Around) (outer : List Env) (s : Shared) (H : Hp) (E : XK) (b : Bx) (a : A) (y : Addr), jD k Q.aL -> Pre a →
     dY (DN xO P w K mg base N qual (az st) f lu Ar outer s H E).nox CL b (dW st) (some (.pin y (.ins c [])) :: ((arg a).map (fun d => some (T.sh d)) ++ List.replicate (N.length - ((arg a).length + 1)) none))
       { nx := fun δ => δ[0]? = some (some (.pin y (.ins c (res a)))), rt := fun _ _ => False }) :
   ic P w K mg base xO (k + 1) f fd ps (spI K CL c ps.length arg Pre res) := by
 refine F.ok S (fun vs H Q E h => ?_) (fun lu Ar outer s H vs Q E hr h => ?_)
 . obtain ⟨W, H0, a, y, dx, us, rfl, _, _, _, _, _, _, r, hl, _⟩ := h
   rw [atE, ← r.length]; exact hl
 . obtain ⟨W, H0, a, y, dx, us, rfl, hy, hdx, ne, rfl, wh, tp, r, hl, hp, tb, kk⟩ := h
   have old : ∀ {d : Addr} {o : HO}, H0 d = some o -> upd (upd H0 dx (.own y)) y (.ins (CL c) dx []) d = some o := fun {d o} q => by
     rw [aP (cJ q hy), aP (cJ q hdx)]; exact q
   refine ⟨_, XI, hb lu Ar outer s _ E ⟨H0, W⟩ a y hr hp _ W _ [] [] _ ⟨⟨[y] ++ [], [], ?_, .nil, by simp, fun d hd => ?_⟩, fun d o q => old q, .refl _, fun d o q => old (wh d o q), fun d o q z => ?_, fun d o q i => ?_, tb⟩ ⟨fun δ' σ' H' Z' s' S' e => ?_, fun t v H' Z' δ' σ' s' S' e => e.elim, fun _ _ _ _ _ _ e => e.elim, fun _ _ _ _ _ _ e => e.elim⟩⟩
   . unfold L2.start
     rw [atg, atE, att, ← r.length]
     exact .cons (.pin (.ins bR .nil)) (oz _ r)
   . have : d = y := by simpa using hd
     subst this
     exact ⟨RG wh hy, hy⟩
   . have q' : W d = some o := q
     have z' : W d = none := z
     rw [q'] at z'; cases z'
   . by_cases h1 : d = y
     . subst h1; rw [bR] at q; cases q; cases i
     . rw [aP h1] at q
       by_cases h2 : d = dx
       . subst h2; rw [bR] at q; cases q; cases i
       . rw [aP h2] at q; exact tp d o q i
   . obtain ⟨fp, gp, eE, _, nd, own⟩ := S'.rep
     obtain ⟨v, f1, f2, f3, hv, v8, rt, _, _⟩ := eE.get e
     subst v8
     cases rt with
     | pin rt =>
       refine kk H' Z' f2 S'.bh S'.zz S'.zh S'.new S'.tp rt ?_ fun d hd => own d (by simp [hd])
       have h1 := (atr.mp nd).1
       exact (atr.mp (atr.mp h1).2.1).1
variable {body : List Stmt} {ds V0 : List D}
theorem V1 (g : Gx X) (P : Nat -> List (Option T) -> Prop) (m : Nat) (h0 : P m δ)
   (hs : ∀ m δ, P m δ -> ∃ p δ1, xP X CL b e δ p δ1 ∧
     (p = true -> dY X CL b body δ1 { nx := fun δ2 => ∃ m', m' < m /\ P m' δ2, rt := DD.rt, bk := fun δ2 => dY X CL b fP δ2 DD, ct := fun δ2 => ∃ m', m' < m /\ P m' δ2 }) /\ (p = false -> dY X CL b fP δ1 DD)) :
   dY X CL b (.While e body [] pos :: fP) δ DD := c9 fun H Z σ ts vs E S M =>
 v7 (aah g.xe ptS XI) (by
   refine ⟨fun m σ H => ∃ Z2 δ2, aR Z Z2 /\ bY X.K CL b H Z2 δ2 σ ts vs /\ P m δ2, ⟨m, Z, δ, .refl _, S, h0⟩, ?_⟩
   rintro m σ H ⟨Z2, δ2, z2, S2, p2⟩
   obtain ⟨p, δ3, ht, h1, h2⟩ := hs m δ2 p2
   refine ht H Z2 σ ts vs _ S2 fun H3 Z3 z3 k3 S3 => ?_
   cases p with
   | true =>
     rw [asM rfl]
     refine ⟨fun σ' H' => ∃ m', m' < m /\ ∃ Z2 δ2, aR Z Z2 /\ bY X.K CL b H' Z2 δ2 σ' ts vs /\ P m' δ2, fun σ' H' q => q, ?_⟩
     refine h1 rfl H3 Z3 σ ts vs _ S3 ⟨fun δ' σ' H' Z' s' S' ⟨m', l, q⟩ => ⟨m', l, Z', δ', z2.trans (z3.trans s'), S', q⟩, fun t v H' Z' δ' σ' s' S' q => M.rt t v H' Z' δ' σ' (z2.trans (z3.trans s')) S' q,
       fun δ' σ' H' Z' s' S' q => M.nx δ' σ' H' Z' (z2.trans (z3.trans s')) S' q, fun δ' σ' H' Z' s' S' ⟨m', l, q⟩ => ⟨m', l, Z', δ', z2.trans (z3.trans s'), S', q⟩⟩
   | false =>
     rw [asH Q.c]
     exact M.nx δ3 σ H3 Z3 (z2.trans z3) S3 (h2 rfl))
def alv (K : Q.l) : R2 := fun x y H Q => ∃ l b xs zs, x = .ref l /\ y = .ref b /\ vJ K H l xs /\ vJ K H b zs /\ xs.length + zs.length <= sizeLine /\ ∀ p, H p = none -> Q (.ref p) (upd H p (.lst (xs ++ zs)))
theorem ad2 : vX X (binaryOp .Add) (alv X.K) := by
 intro pins s σ H x y v u Q I rx ry h
 obtain ⟨l, b, xs, zs, rfl, rfl, hH, hB, hz, q⟩ := h
 cases rx
 cases ry
 obtain ⟨its, r, pl, _⟩ := I.list hH
 obtain ⟨aih, r2, pl2, _⟩ := I.list hB
 have e1 := r.length
 have e2 := r2.length
 obtain ⟨⟨c1, dd, da1, sl⟩, ho, hc, n, hd⟩ := pl.isList
 obtain ⟨⟨c2, dd2, da2, sl2⟩, ho2, hc2, n2, hd2⟩ := pl2.isList
 cases hc; cases hc2; cases hd; cases hd2
 refine concat_meets ⟨_, ho, rfl⟩ ⟨_, ho2, rfl⟩ noFill_list_add seq_list_add PySem.F.slot_list_add PySem.F.entry_list_add (PySem.F.args_list_add_2 (Value.ref l) (Value.ref b))
   (list_addW l b its.toArray aih.toArray n n2 dd dd2 sl sl2 (by rw [atm, atm]; omega)) ⟨ho, ho2, ?_⟩
 have ea : its.toArray ++ aih.toArray = (its ++ aih).toArray := by simp
 rw [ea]
 exact ⟨.ref _, _, I.ak6 (t' := s.toks) (r.append r2) (by rw [as5]; omega), rfl, q _ I.fresh⟩
theorem aX.app {ds V0 : List L3.D} {vs2 : List V} (h : aX K CL Z ds vs) (r2 : aX K CL Z V0 vs2) : aX K CL Z (ds ++ V0) (vs ++ vs2) :=
 aX.ind (P := fun ds vs => aX K CL Z (ds ++ V0) (vs ++ vs2)) r2 (fun r _ i => .cons r i) h
theorem ua (h1 : eF X CL b e1 δ (.lst ds) δ1) (h2 : eF X CL b e2 δ1 (.lst V0) δ2) (i1 : D.cV ds = true) (i2 : D.cV V0 = true) (hz : ds.length + V0.length <= sizeLine) :
   dH X CL b (.BinOp e1 .Add e2 pos) δ (.lst ((ds ++ V0).map T.sh)) δ2 := fun H Z σ ts vs Q S k =>
 dS (aaj ad2 fh fh) (h1 H Z σ ts vs _ S fun v1 H1 Z1 z1 k1 S1 r1 => h2 H1 Z1 σ ts vs _ S1 fun v2 H2 Z2 z2 k2 S2 r2 => by
   have r1' := r1.mono k2
   cases r1' with
   | lst hq1 rr1 =>
     cases r2 with
     | lst hq2 rr2 =>
       refine ⟨_, _, _, _, rfl, rfl, hq1, hq2, by rw [← rr1.length, ← rr2.length]; exact hz, fun p hp => ?_⟩
       have rc := aX.app (aX.qa S2.tp i1 rr1) (aX.qa S2.tp i2 rr2)
       obtain ⟨c, S4⟩ := (bY.Fz rc S2).zk (g0 := []) (by simp [rc.length, rr1.length, rr2.length]) hp
       exact k _ _ _ Q.w (k1.trans (k2.trans c)) S4)
theorem boot_str : bootBuiltins "str" = some (.type "str") := Q.f
theorem Ls {i : Int} (hm : X.mg "str" = none) (hg : Gl X "str") (h : eF X CL b e δ (.int i) δ1) (hi : i.natAbs.log2 < 1920) (hs : Q.V := by exact cE rfl) :
   dH X CL b (.Call (.Name "str" pp) [e] [] pos) δ (.sh (.str (toString i))) δ1 := fun H Z σ ts vs Q S k =>
 dS (qC K8 hg hm boot_str (dh fh iy hs) (he := hs)) (h H Z σ ts vs _ S fun v H1 Z1 z1 k1 S1 r => by
   rw [r.sc rfl]
   exact ⟨i, rfl, hi, k _ H1 Z1 z1 k1 (S1.push (.str _))⟩)
structure Fm (X : Cx) (CL : Q.g) (x : Str) (k n : Nat) {A : Type} (arg : A -> List D) (Pre : A -> Prop) (res : A -> List (Str × T)) : Prop where
 ex : ∃ f fd ps, Mk X.K (CL x) f /\ ic X.prog X.w X.K X.mg X.base xO k f fd ps (spI X.K CL x n arg Pre res) /\ X.mg x = some (.ref (CL x)) /\ Binds X.K fd ps []
 room : jD (k + 1) X.A
def aaY (N : Q.h) (y : Addr) (c : Str) (ds : List D) : List (Option T) := some (.pin y (.ins c [])) :: (ds.map (fun d => some (T.sh d)) ++ List.replicate (N.length - (ds.length + 1)) none)
theorem aik {CL' : Q.g} {arg : List Int -> List D} {pre : List Int -> Prop} {res : List Int -> T} (ha : ∀ a, arg a = [.lst (a.map .int)]) (hr : ∀ a, res a = .sh (.bl true)) (h0 : ∀ x, VM x = true -> CL x = 0) :
   ∀ (vs : List V) (H : Hp) (Q : VK) (E : XK), XO K CL' 1 arg pre res vs H Q E -> XO K CL 1 arg pre res vs H Q E := by
 rintro vs H Q E ⟨W, a, h1, h2, h3, h4, h5, _, k⟩
 have ail : ∀ {l : Q.e} {us : List V}, aX K CL' W (l.map .int) us -> aX K CL W (l.map .int) us := by
   intro l
   induction l with
   | nil => intro us r; cases r; exact .nil
   | cons i l ih =>
     intro us r
     cases r with
     | cons r t => cases r; exact .cons (.int i) (ih t)
 refine ⟨W, a, h1, h2, ?_, h4, h5, fun x hx e => absurd (h0 x hx) e, fun v H' W' fp a1 a2 a3 a4 a5 r nd own => k v H' W' fp a1 a2 a3 a4 a5 ?_ nd own⟩
 . rw [ha] at h3 ⊢
   cases h3 with
   | cons r t =>
     cases t
     cases r with
     | lst q rr => exact .cons (.lst q (ail rr)) .nil
 . rw [hr] at r ⊢
   cases r with
   | sh r => cases r; exact .sh (.bl _)
section
variable {m : Str} {D : gX}
theorem mk_ {arg : A -> List L3.D} {Pre : A -> Prop} {res : A -> List (Str × T)} (a : A) (F : Fm X CL x k n arg Pre res) (hg : Gl X x) (h : BAv X CL b (e :: es) δ (arg a) δ1) (hp : Pre a) (hc : T.cM (res a) = true) (hn : (arg a).length + 1 = n := by rfl)
   (Bh : Q.s := by decide) (he : Q.O := by exact cE rfl) (hpl : Q.W := by rfl) :
   dH X CL b Q.an δ (.ins x (res a)) δ1 := by
 obtain ⟨f, fd, ps, M, F1, m, b⟩ := F.ex
 exact ad1 a M F1 F.room m b h hn hp hc hg Bh he hpl
end
theorem qc {f : Str} {d : α} {fs : List (Str × α)} : ((f, d) :: fs).lookup f = some d := by
 rw [atu, auq]
theorem fL {f g : Str} {d : α} {fs : List (Str × α)} (h : (f == g) = false) : ((g, d) :: fs).lookup f = fs.lookup f := by
 rw [atu, h]
theorem mF {f : Str} : Bu f t [] = [(f, t)] := rfl
theorem c5 {f g : Str} {u : T} {fs : List (Str × T)} (h : ¬ g = f) : Bu f t ((g, u) :: fs) = (g, u) :: Bu f t fs := by
 rw [Bu, asH h]
variable {d : L3.D}
theorem Lv (x : Int) : ∀ l : List Int, inV (.int x) (l.map V.int) = decide (x ∈ l)
 | [] => by simp [inV]
 | y :: l => by
   have ih := Lv x l
   unfold inV at ih ⊢
   rw [atg, atW, ih]
   by_cases h : y = x
   . subst h; simp [eqV]
   . have h' : ¬ x = y := fun e => h e.symm
     simp [eqV, h, h']
theorem aX.ints {K : Q.l} {Z : Hp} : ∀ {l : Q.e} {vs : List V}, aX K CL Z (l.map D.int) vs -> vs = l.map V.int
 | [], _, r => by
   have r' : aX K CL Z [] _ := r
   cases r'; rfl
 | y :: l, _, r => by
   have r' : aX K CL Z (D.int y :: l.map D.int) _ := r
   cases r' with
   | cons r1 r2 => rw [r1.sc rfl, aX.ints r2]; rfl
theorem uc : ∀ l : List Int, (l.map V.int).all yS = true
 | [] => rfl
 | y :: l => by rw [atg, atV, uc l]; rfl
def Hz (d : L3.D) : Option (List L3.D) := match d with
 | .lst ds => some ds
 | .tup ds => some ds
 | _ => none
theorem cC.Hz {ds : List L3.D} (r : cC K CL Z d v) (h : L3.Hz d = some ds) : ∃ p us, v = .ref p /\ (vJ K Z p us \/ Fp K Z p us) /\ aX K CL Z ds us := by
 cases r with
 | tup hq rr => cases h; exact ⟨_, _, rfl, .inr hq, rr⟩
 | lst hq rr => cases h; exact ⟨_, _, rfl, .inl hq, rr⟩
 | non => cases h
 | bl => cases h
 | int => cases h
 | str => cases h
 | any => cases h
 | val => cases h
 | vt => cases h
 | dct => cases h
 | ins => cases h
theorem ad3 {l : Q.e} {i : Int} (h1 : Q.Y) (h2 : eF X CL b e2 δ1 d δ2) (hd : L3.Hz d = some (l.map .int)) (hm : behindInMarks .NotIn e2 = false) :
   xP X CL b (.Compare e1 [.NotIn] [e2] pos) δ (!decide (i ∈ l)) δ2 /\ dH X CL b (.Compare e1 [.NotIn] [e2] pos) δ (.sh (.bl (!decide (i ∈ l)))) δ2 := by
 constructor
 . intro H Z σ ts vs Q S k
   refine J1 (xK p9 fh fh hm) (h1 H Z σ ts vs _ S fun v1 H1 Z1 z1 k1 S1 r1 => h2 H1 Z1 σ ts vs _ S1 fun v2 H2 Z2 z2 k2 S2 r2 => ?_)
   obtain ⟨p, us, rfl, hq, rr⟩ := cC.Hz r2 hd
   have e := rr.ints
   subst e
   refine ⟨_, _, rfl, hq, by rw [r1.sc rfl]; rfl, uc l, _, rfl, ?_⟩
   rw [asM rfl, r1.sc rfl, Lv]
   exact k H2 Z2 Q.w Q.D S2
 . intro H Z σ ts vs Q S k
   refine dS (xJ p9 fh fh hm) (h1 H Z σ ts vs _ S fun v1 H1 Z1 z1 k1 S1 r1 => h2 H1 Z1 σ ts vs _ S1 fun v2 H2 Z2 z2 k2 S2 r2 => ?_)
   obtain ⟨p, us, rfl, hq, rr⟩ := cC.Hz r2 hd
   have e := rr.ints
   subst e
   refine ⟨_, _, rfl, hq, by rw [r1.sc rfl]; rfl, uc l, ?_⟩
   rw [asM rfl, r1.sc rfl, Lv]
   exact k _ H2 Z2 Q.w Q.D (S2.push (.bl _))
theorem V2 (h1 : eF X CL b e1 δ (.str x) δ1) (h2 : eF X CL b e2 δ1 d δ2) (hd : L3.Hz d = some (l.map .str)) (hm : behindInMarks .In e2 = false) :
   xP X CL b (.Compare e1 [.In] [e2] pos) δ (decide (x ∈ l)) δ2 /\ dH X CL b (.Compare e1 [.In] [e2] pos) δ (.sh (.bl (decide (x ∈ l)))) δ2 := by
 constructor
 . intro H Z σ ts vs Q S k
   refine J1 (xK xN fh fh hm) (h1 H Z σ ts vs _ S fun v1 H1 Z1 z1 k1 S1 r1 => h2 H1 Z1 σ ts vs _ S1 fun v2 H2 Z2 z2 k2 S2 r2 => ?_)
   obtain ⟨p, us, rfl, hq, rr⟩ := cC.Hz r2 hd
   have e := rr.strs
   subst e
   refine ⟨_, _, rfl, hq, by rw [r1.sc rfl]; rfl, iz l, _, rfl, ?_⟩
   rw [asH as7, r1.sc rfl, t9]
   exact k H2 Z2 Q.w Q.D S2
 . intro H Z σ ts vs Q S k
   refine dS (xJ xN fh fh hm) (h1 H Z σ ts vs _ S fun v1 H1 Z1 z1 k1 S1 r1 => h2 H1 Z1 σ ts vs _ S1 fun v2 H2 Z2 z2 k2 S2 r2 => ?_)
   obtain ⟨p, us, rfl, hq, rr⟩ := cC.Hz r2 hd
   have e := rr.strs
   subst e
   refine ⟨_, _, rfl, hq, by rw [r1.sc rfl]; rfl, iz l, ?_⟩
   rw [asH as7, r1.sc rfl, t9]
   exact k _ H2 Z2 Q.w Q.D (S2.push (.bl _))
theorem V3 (h1 : eF X CL b e1 δ (.str x) δ1) (h2 : eF X CL b e2 δ1 d δ2) (hd : L3.Hz d = some (l.map .str)) (hm : behindInMarks .NotIn e2 = false) :
   xP X CL b (.Compare e1 [.NotIn] [e2] pos) δ (!decide (x ∈ l)) δ2 /\ dH X CL b (.Compare e1 [.NotIn] [e2] pos) δ (.sh (.bl (!decide (x ∈ l)))) δ2 := by
 constructor
 . intro H Z σ ts vs Q S k
   refine J1 (xK p9 fh fh hm) (h1 H Z σ ts vs _ S fun v1 H1 Z1 z1 k1 S1 r1 => h2 H1 Z1 σ ts vs _ S1 fun v2 H2 Z2 z2 k2 S2 r2 => ?_)
   obtain ⟨p, us, rfl, hq, rr⟩ := cC.Hz r2 hd
   have e := rr.strs
   subst e
   refine ⟨_, _, rfl, hq, by rw [r1.sc rfl]; rfl, iz l, _, rfl, ?_⟩
   rw [asM rfl, r1.sc rfl, t9]
   exact k H2 Z2 Q.w Q.D S2
 . intro H Z σ ts vs Q S k
   refine dS (xJ p9 fh fh hm) (h1 H Z σ ts vs _ S fun v1 H1 Z1 z1 k1 S1 r1 => h2 H1 Z1 σ ts vs _ S1 fun v2 H2 Z2 z2 k2 S2 r2 => ?_)
   obtain ⟨p, us, rfl, hq, rr⟩ := cC.Hz r2 hd
   have e := rr.strs
   subst e
   refine ⟨_, _, rfl, hq, by rw [r1.sc rfl]; rfl, iz l, ?_⟩
   rw [asM rfl, r1.sc rfl, t9]
   exact k _ H2 Z2 Q.w Q.D (S2.push (.bl _))
variable {ds : List L3.D}
theorem bH : XM X CL b [] δ (([] : List L3.D).map T.sh) δ := c7
theorem ay (h1 : dH X CL b e δ (.sh d) δ1) (h2 : XM X CL b es δ1 (ds.map T.sh) δ2) (hs : Q.O := by exact cE rfl) : XM X CL b (e :: es) δ ((d :: ds).map T.sh) δ2 := bL h1 h2 hs
theorem fM (h : XM X CL b es δ (ds.map T.sh) δ1) (hl : ds.length <= sizeLine) : dH X CL b (.List es pos) δ (.lst (ds.map T.sh)) δ1 := cS h (by simpa using hl)
theorem pD (l : Q.h) : D.cV (l.map L3.D.str) = true := bS (fun _ => rfl) _
theorem Lw (h : dH X CL b e δ (.lst (ds.map T.sh)) δ1) : dH X CL b e δ (.sh (.lst ds)) δ1 := by
 have := RH h
 rwa [T.iX, rJ] at this
theorem ad4 (h : Q.Q) (q : t.iX = d) : dH X CL b e δ (.sh d) δ1 := q ▸ RH h
theorem Bw {d2 : L3.D} (h : eF X CL b e δ d δ1) (q : d = d2) : eF X CL b e δ d2 δ1 := q ▸ h
theorem aK {t2 : T} (h : Q.Q) (q : t = t2) : dH X CL b e δ t2 δ1 := q ▸ h
structure Lx (Z H Z' H' : Hp) : Prop where
 z : aR Z Z'
 h : aR H H'
 zh : aR Z' H'
 new : ∀ a o, Z' a = some o -> Z a = none -> H a = none
 tp : ∀ a o, H' a = some o -> pB o = true -> Z' a = some o
theorem Lx.refl (zh : aR Z H) (tp : ∀ a o, H a = some o -> pB o = true -> Z a = some o) : Lx Z H Z H := ⟨.refl _, .refl _, zh, fun a o q z => (by rw [q] at z; cases z), tp⟩
theorem Lx.tup {p : Addr} (zh : aR Z H) (tp : ∀ a o, H a = some o -> pB o = true -> Z a = some o) (hp : H p = none) : Lx Z H (upd Z p (.tup xs)) (upd H p (.tup xs)) := by
 have zp : Z p = none := zh.free hp
 refine ⟨aR.upd zp, aR.upd hp, fun a o q => ?_, fun a o q z => ?_, fun a o q i => ?_⟩
 . by_cases e : a = p
   . subst e; rw [bR] at q ⊢; exact q
   . rw [aP e] at q ⊢; exact zh a o q
 . by_cases e : a = p
   . subst e; exact hp
   . rw [aP e, z] at q; cases q
 . by_cases e : a = p
   . subst e; rw [bR] at q ⊢; exact q
   . rw [aP e] at q ⊢; exact tp a o q i
theorem bY.grow (S : Q.K) (g : Lx Z H Z' H') : bY K CL b H' Z' δ σ ts vs := by
 obtain ⟨fp, gp, e, r, nd, k⟩ := S.rep
 have old : ∀ a ∈ fp ++ gp, ∃ o, H a = some o := fun a ha => (asQ.mp ha).elim (e.there a) (r.there a)
 have keep : ∀ a ∈ fp ++ gp, H' a = H a := fun a ha => by
   obtain ⟨o, q⟩ := old a ha
   rw [q]; exact g.h a o q
 refine ⟨⟨fp, gp, e.mono g.z (fun a ha => keep a (asL _ ha)), r.mono g.z (fun a ha => keep a (asJ _ ha)), nd, fun a ha => ⟨?_, (k a ha).2⟩⟩, S.bh.trans g.h, S.zz.trans g.z, g.zh, fun a o q z => ?_, g.tp, S.tab⟩
 . cases q : Z' a with
   | none => rfl
   | some o =>
     obtain ⟨u, hu⟩ := old a ha
     rw [g.new a o q (k a ha).1] at hu; cases hu
 . cases e2 : Z a with
   | none => exact S.bh.free (g.new a o q e2)
   | some u =>
     have := g.z a u e2
     rw [q] at this; cases this
     exact S.new a o e2 z
def V4 (δ : Q.n) : List Nat -> List D -> List (Option T)
 | i :: is, d :: ds => V4 (δ.set i (some (.sh d))) is ds
 | _, _ => δ
def HB (σ : L2.St) : List Nat -> List V -> L2.St
 | i :: is, v :: vs => HB (σ.set i (some v)) is vs
 | _, _ => σ
theorem bY.sets {ps : List D} {ys : List V} : ∀ {is : List Nat} {δ : Q.n} {σ : L2.St}, bY K CL b H Z δ σ ts vs -> aX K CL Z ps ys -> (∀ i ∈ is, i < δ.length) -> bY K CL b H Z (V4 δ is ps) (HB σ is ys) ts vs := by
 intro is
 induction is generalizing ps ys with
 | nil =>
   intro δ σ S r _
   cases ps <;> cases ys <;> exact S
 | cons i is ih =>
   intro δ σ S r hl
   cases r with
   | nil => exact S
   | cons r rr => exact ih ((S.push r).set (hl i asT)) rr (fun j hj => by rw [atc]; exact hl j (asV _ hj))
section
variable {tg : Expr} {ds : List D}
structure Ly (X : Cx) (CL : Q.g) (b : Bx) (δ1 : Q.n) (σ : L2.St) (ts : List T) (vs : List V) (Z H : Hp) (ds : List D) (J : It) (H1 : Hp) : Prop where
 ex : ∃ Z1, aR Z Z1 /\ aR H H1 /\ bY X.K CL b H1 Z1 δ1 σ ts vs /\ (∀ i H2, aR Z1 H2 -> i < ds.length -> J.go i H2) ∧
   (∀ i Z2 H2 x H', aR Z1 Z2 -> aR Z2 H2 -> (∀ a o, H2 a = some o -> pB o = true -> Z2 a = some o) -> i < ds.length -> J.yld i H2 x H' -> ∃ Z3 d, ds[i]? = some d /\ Lx Z2 H2 Z3 H' /\ cC X.K CL Z3 d x) /\ (∀ H2, aR Z1 H2 -> J.stop ds.length H2)
def GIt (X : Cx) (CL : Q.g) (b : Bx) (tg e : Expr) (δ : Q.n) (ds : List D) (δ1 : Q.n) : Prop :=
 ∃ wi, PI X tg e wi /\ ∀ (H Z : Hp) (σ : L2.St) (ts : List T) (vs : List V) (R : It -> Hp -> Prop), bY X.K CL b H Z δ σ ts vs -> (∀ J H1, Ly X CL b δ1 σ ts vs Z H ds J H1 -> R J H1) -> wi σ H R
theorem agK (h : TIt X CL b tg iter δ ds δ1) : GIt X CL b tg iter δ ds δ1 := by
 obtain ⟨wi, pi, hw⟩ := h
 refine ⟨wi, pi, fun H Z σ ts vs R S k => hw H Z σ ts vs R S fun J H1 zz => ?_⟩
 obtain ⟨Z1, us, z1, k1, S1, rr, go, yl, st⟩ := zz
 refine k J H1 ⟨Z1, z1, k1, S1, go, fun i Z2 H2 x H' s1 s2 tp hi hy => ?_, st⟩
 obtain ⟨e, hu⟩ := yl i H2 x H' (s1.trans s2) hi hy
 subst e
 obtain ⟨d, hd, rd⟩ := rr.adM hu
 exact ⟨Z2, d, hd, .refl s2 tp, rd.mono s1⟩
def Tgt (X : Cx) (CL : Q.g) (tg : Expr) (is : List Nat) (parts : D -> Option (List D)) : Prop :=
 ∃ t : TG, PG X tg t /\ ∀ (Z H : Hp) (d : D) (ps : List D) (x : V) (σ : L2.St) (Q : L2.St -> Hp -> Prop), aR Z H -> cC X.K CL Z d x -> parts d = some ps -> (∀ ys, aX X.K CL Z ps ys -> Q (HB σ is ys) H) -> t x σ H Q
def part1 (d : D) : Option (List D) := some [d]
def part2 : D -> Option (List D)
 | .tup [a, c] => some [a, c]
 | _ => none
theorem XS {d : D} {ps : List D} (h : part2 d = some ps) : ∃ d1 d2, d = .tup [d1, d2] /\ ps = [d1, d2] := by
 unfold part2 at h
 split at h
 . cases h; exact ⟨_, _, rfl, rfl⟩
 . cases h
theorem RN {d : D} {ps : List D} {x : V} {Q : L2.St -> Hp -> Prop} (zh : aR Z H) (r : cC K CL Z d x) (e : part2 d = some ps) (k : ∀ ys, aX K CL Z ps ys -> Q (HB σ [i, j] ys) H) : ahu K 2 (Ox (Fq i) (Ox (Fq j) aht)) x σ H Q := by
 obtain ⟨d1, d2, rfl, rfl⟩ := XS e
 cases r with
 | tup hq rr =>
   cases rr with
   | cons r1 rr =>
     cases rr with
     | cons r2 rr =>
       cases rr
       exact ⟨_, _, rfl, aR.sqT zh hq, rfl, _, _, rfl, _, _, rfl, rfl, k _ (.cons r1 (.cons r2 .nil))⟩
theorem aaZ {px : Pos} (hN : X.N.Nodup) (n : Ln X i x) : Tgt X CL (.Name x px) [i] part1 :=
 ⟨Fq i, Bf hN n.hi n.loc n.hf, fun Z H d ps x σ Q zh r e k => by
   cases e
   exact k [x] (.cons r .nil)⟩
theorem V5 {y : Str} {px py pt : Pos} (hN : X.N.Nodup) (hc : X.calm = true) (n : Ln X i x) (m : Ln X j y) (hs : (assignEach [.Name x px, .Name y py] X.env).map (·.2) = assign (.Name x px) X.env :: (assignEach [.Name y py] X.env).map (·.2) := by rfl) (Om : (assignEach [.Name y py] X.env).map (·.2) = assign (.Name y py) X.env :: (assignEach [] X.env).map (·.2) := by rfl)
   (hn : (assignEach [.Name x px, .Name y py] X.env).length = 2 := by rfl) (vW : (assignEach [.Name x px, .Name y py] X.env).findIdx? (·.1) = none := by rfl) : Tgt X CL (.Tuple [.Name x px, .Name y py] k pt) [i, j] part2 :=
 ⟨ahu X.K 2 (Ox (Fq i) (Ox (Fq j) aht)), ahv hc (Oz (Bf hN n.hi n.loc n.hf) (Oz (Bf hN m.hi m.loc m.hf) adw Om) hs) hn vW, fun Z H d ps x σ Q zh r e k => RN zh r e k⟩
theorem ad5 {D : gX} (is : List Nat) (parts : L3.D -> Option (List L3.D)) (P : Nat -> List (Option T) -> Prop) (h : GIt X CL b tg iter δ ds δ1) (ht : Tgt X CL tg is parts) (h0 : P 0 δ1) (hl : ∀ j δ, P j δ -> ∀ i ∈ is, i < δ.length)
   (hs : ∀ j d δ, ds[j]? = some d -> P j δ -> ∃ ps, parts d = some ps /\ dY X CL b fP (V4 δ is ps) { nx := P (j + 1), rt := D.rt, bk := D.nx, ct := P (j + 1) }) (hd : ∀ δ, P ds.length δ -> D.nx δ)
   (hp : PassesOwn Q.k X.A X.env X.xe) (hc : X.calm = true) (hq : Q.al := by intro _; rfl) :
   TSv X CL b (.For tg iter fP [] pos) δ D := fun H Z σ ts vs E S M => by
 obtain ⟨wi, pi, hw⟩ := h
 obtain ⟨t, pg, ht⟩ := ht
 refine v7 (aai hp hc pi pg XI hq) (hw H Z σ ts vs _ S fun J H1 zz => ?_)
 obtain ⟨Z1, z1, k1, S1, go, yl, st⟩ := zz
 refine ⟨fun j m σ H2 => m = ds.length - j /\ j <= ds.length /\ ∃ Z2 δ2, aR Z1 Z2 /\ bY X.K CL b H2 Z2 δ2 σ ts vs /\ P j δ2, ⟨_, rfl, ata _, Z1, δ1, .refl _, S1, h0⟩, ?_⟩
 rintro j m σ H2 ⟨rfl, hj, Z2, δ2, s, S2, p2⟩
 by_cases Lk : j < ds.length
 . refine .inr ⟨go j H2 (s.trans S2.zh) Lk, fun σ' H' => ∃ Z2 δ2, aR Z1 Z2 /\ bY X.K CL b H' Z2 δ2 σ' ts vs /\ P (j + 1) δ2, fun σ' H' h => ⟨ds.length - (j + 1), by omega, rfl, Lk, h⟩, fun y H' hy => ?_⟩
   obtain ⟨Z3, d, hd', gr, rd⟩ := yl j Z2 H2 y H' s S2.zh S2.tp Lk hy
   obtain ⟨ps, hps, hb⟩ := hs j d δ2 hd' p2
   have S3 := S2.grow gr
   refine ht Z3 H' d ps y σ _ S3.zh rd hps fun ys rys => ?_
   have S4 := S3.sets (is := is) rys (hl j δ2 p2)
   have s3 := s.trans gr.z
   exact hb _ Z3 _ ts vs _ S4 ⟨fun δ' σ' H' Z' s' S' k => ⟨Z', δ', s3.trans s', S', k⟩, fun t v H' Z' δ' σ' s' S' k => M.rt t v H' Z' δ' σ' (z1.trans (s3.trans s')) S' k, fun δ' σ' H' Z' s' S' k => M.nx δ' σ' H' Z' (z1.trans (s3.trans s')) S' k, fun δ' σ' H' Z' s' S' k => ⟨Z', δ', s3.trans s', S', k⟩⟩
 . have e : j = ds.length := by omega
   subst e
   exact .inl ⟨st H2 (s.trans S2.zh), M.nx δ2 σ H2 Z2 (z1.trans s) S2 (hd δ2 p2)⟩
theorem aa0 {D : gX} {is : List Nat} {parts : L3.D -> Option (List L3.D)} (g : Gx X) (ht : Tgt X CL tg is parts) (P : Nat -> List (Option T) -> Prop) (h : GIt X CL b tg iter δ ds δ1) (h0 : P 0 δ1) (hl : ∀ j δ, P j δ -> ∀ i ∈ is, i < δ.length)
   (hs : ∀ j d δ, ds[j]? = some d -> P j δ -> ∃ ps, parts d = some ps /\ dY X CL b body (V4 δ is ps) { nx := P (j + 1), rt := D.rt, bk := fun δ2 => dY X CL b fP δ2 D, ct := P (j + 1) }) (hd : ∀ δ, P ds.length δ -> dY X CL b fP δ D) (hq : Q.al := by intro _; rfl) :
   dY X CL b (.For tg iter body [] pos :: fP) δ D :=
 c9 (ad5 (D := { D with nx := fun δ1 => dY X CL b fP δ1 D }) is parts P h ht h0 hl hs hd g.xe g.calm hq)
end
structure wj (X : Cx) (scope : Scope) (xs : Q.h) (Nc : Q.h) (ix : List Nat) : Prop where
 kind : scope.kind = .function
 Lj : ∀ y ∈ scope.names, y.2 ≠ .cell
 nd : Nc.Nodup
 names : ∀ y ∈ scope.names, y.2 = .local -> scope.names.lookup y.1 = some .local
 own : ∀ x ∈ xs, scope.names.lookup x = some .local
 frees : ∀ y ∈ scope.names, y.2 = .free -> scope.names.lookup y.1 = some .free /\ (X.env.kindOf y.1 = some .cell \/ X.env.kindOf y.1 = some .free)
 hd : Nc = xs ++ ix.filterMap (X.N[·]?)
 ixs : ∀ i ∈ ix, ∃ y, X.N[i]? = some y /\ scope.names.lookup y = some .free
def XT (σ : L2.St) (ix : List Nat) (os : List (Option V)) : L2.St := os ++ ix.map fun i => (σ[i]?).getD none
variable {xs : Q.h}
theorem O9 (sc : wj X scope xs Nc ix) (I : Q.m) (v8 : ∀ b ∈ fp, F2 X pins H b /\ b < s.heap.objs.size) {h' : Heap} {m : Q.A} {tk : Nat}
   (hn : h'.Ns s.heap.objs.size m) (hk : ∀ b o, s.heap.get? b = some o -> h'.get? b = some o) :
   Inv (fQ X scope Nc s.heap.objs.size s H fp) [] (XT σ ix (List.replicate xs.length none)) H { s with heap := h', toks := tk } := by
 have frees : ∀ y ∈ scope.names, y.2 = .free -> ∃ c, X.env.cells.lookup y.1 = some c := fun y hy e => I.ok.has y.1 (sc.frees y hy e).2
 have sub : ∀ {y : Str} {c : Addr}, (mD X.env scope.names []).lookup y = some c -> X.env.cells.lookup y = some c := fun {y c} e => zm frees (fun _ _ z => by cases z) e
 have hlen : (XT σ ix (List.replicate xs.length none)).length = Nc.length := by
   have all : ∀ l : List Nat, (∀ i ∈ l, ∃ y, X.N[i]? = some y /\ scope.names.lookup y = some .free) -> (l.filterMap (X.N[·]?)).length = l.length := by
     intro l
     induction l with
     | nil => intro _; rfl
     | cons i r ih =>
       intro h
       obtain ⟨y, e, _⟩ := h i asT
       rw [atR, e]
       show _ + 1 = _ + 1
       rw [ih fun j hj => h j (asV _ hj)]
   unfold XT
   rw [sc.hd, as5, as5, asG, at9, all ix sc.ixs]
 have C0 : s.heap.get? s.heap.objs.size = none := Heap.get?_none_of_le (as3 _)
 refine ⟨⟨I.ok.mod, sc.kind, I.ok.glob, I.ok.blt, as3 _, fun y z c h1 h2 => I.ok.inj y z c (sub h1) (sub h2), fun y hy => ?_, fun y c hf _ => (by cases (show false = true from hf)), I.ok.hd, I.ok.frames, .inl rfl, fun b hb => ⟨aty (v8 b hb).2, fun y c e => (v8 b hb).1.2.2.2.2.1 y c (sub e)⟩, I.bs, asS I.ok.Z9 I.sz, fun b o e hb => ?_, fun b hb hf => ?_, I.stack, I.K5⟩,
   rfl, I.bare, Un.kept hk, ⟨m, hn, fun i y v h1 h2 h3 => ?_⟩, fun y c e => ?_, I.gQ.fresh (as3 _), fun y c e => I.pY y c (sub e), fun p hp => absurd (show p ∈ ([] : List (Addr × Obj)) from hp) Q.r, I.gQ.kept hk, hlen⟩
 . 
   have hy' : (relabel scope X.env).names.lookup y = some .cell \/ (relabel scope X.env).names.lookup y = some .free := hy
   cases e : scope.names.lookup y with
   | none => 
     have := pZ (env := X.env) e
     rcases hy' with q | q <;> (rw [show (relabel scope X.env).names.lookup y = none from this] at q; cases q)
   | some k =>
     have q := jE (env := X.env) e
     have hk : k = .free := by
       by_cases hk : k = .free
       . exact hk
       . have hb : (k == NameKind.free) = false := by simpa using hk
         rw [asH (by rw [hb]; simp)] at q
         have nc : k ≠ .cell := fun z => by
           subst z
           exact sc.Lj _ (at3 e) rfl
         rcases hy' with z | z
         . rw [show (relabel scope X.env).names.lookup y = some k from q] at z
           exact absurd (atv z) nc
         . rw [show (relabel scope X.env).names.lookup y = some k from q] at z
           exact absurd (atv z) hk
     subst hk
     exact zo e
 . 
   rcases (v8 b hb).1.2.2.2.1 with z | z
   . exact I.ok.Rm b o e z
   . exact absurd (atx (atd e) (asS I.ok.Z9 z)) (auL _)
 . rcases asX.mp (I.K4 b hf) with z | z
   . exact (v8 b hb).1.2.1 z
   . exact (v8 b hb).1.2.2.1 z
 . 
   unfold XT at h2
   by_cases hi : i < xs.length
   . rw [auP (by rw [at9]; exact hi), List.getElem?_replicate, asM hi] at h2
     cases h2
   . obtain ⟨n, rfl⟩ : ∃ n, i = xs.length + n := ⟨i - xs.length, by omega⟩
     rw [at7 (by rw [at9]; omega), at9, Nat.add_sub_cancel_left, atf] at h2
     cases ei : ix[n]? with
     | none => rw [ei] at h2; cases h2
     | some j =>
       rw [ei] at h2
       have h2' : (σ[j]?).getD none = some v := atv h2
       have hj : σ[j]? = some (some v) := by
         cases q : σ[j]? with
         | none => rw [q] at h2'; cases h2'
         | some o => rw [q] at h2'; exact congrArg some h2'
       obtain ⟨y', hy1, hy2⟩ := sc.ixs j (atB ei)
       have hNc : Nc[xs.length + n]? = some y' := by
         have all : ∀ (l : List Nat) (i : Nat), (∀ j ∈ l, ∃ y, X.N[j]? = some y /\ scope.names.lookup y = some .free) -> l[i]? = some j -> (l.filterMap (X.N[·]?))[i]? = some y' := by
           intro l
           induction l with
           | nil => intro i _ h; simp at h
           | cons a r ih =>
             intro i h hi
             obtain ⟨ya, ea, _⟩ := h a asT
             rw [atR, ea]
             cases i with
             | zero =>
               simp at hi
               subst hi
               rw [hy1] at ea
               cases ea
               rfl
             | succ i => exact ih i (fun j hj => h j (List.mem_cons_of_mem _ hj)) (by simpa using hi)
         rw [sc.hd, at7 Q.a, Nat.add_sub_cancel_left]
         exact all ix n sc.ixs ei
       have ey : y' = y := by
         have h1' : Nc[xs.length + n]? = some y := h1
         rw [hNc] at h1'
         exact atv h1'
       subst ey
       have VF := (sc.frees (y', .free) (at3 hy2) rfl).2
       have aoq : Vis X.env.scope y' := VF.elim (fun z => .inr (.inl z)) (fun z => .inr (.inr z))
       obtain ⟨m0, hn0, hl0⟩ := I.loc
       obtain ⟨u, ru, lk⟩ := hl0 j y' v hy1 hj aoq
       refine ⟨u, ru, ?_⟩
       rcases lk with ⟨kk, _⟩ | ⟨_, c, hc, Kf⟩
       . rcases VF with z | z
         . rw [kk] at z; cases z
         . rw [kk] at z; cases z
       . obtain ⟨c', hc'⟩ := zo (env := X.env) (cs := []) hy2
         have : c' = c := by
           have := sub hc'
           rw [hc] at this
           exact (atv this).symm
         subst this
         obtain ⟨o, ho, hd⟩ := Kf
         refine .inr ⟨?_, c', hc', o, hk _ _ ho, hd⟩
         have q := jE (env := X.env) hy2
         show (relabel scope X.env).names.lookup y' = some .cell \/ (relabel scope X.env).names.lookup y' = some .free
         rw [show (relabel scope X.env).names.lookup y' = _ from q]
         split
         . exact .inl rfl
         . exact .inr rfl
 . obtain ⟨v, o, ho, hd⟩ := I.cell y c (sub e)
   exact ⟨v, o, hk _ _ ho, hd⟩
def aa1 (X : Cx) (tg elt : Expr) (ifs : List Expr) (n : Nat) (σ : L2.St) (ix : List Nat) (D : Addr) (N : Hp -> Prop) (xv : V) (os : List (Option V)) (H3 : Hp) : Prop :=
 ∃ t : TG, PG X tg t /\ t xv (XT σ ix os) H3 fun σ8 H4 => ∃ os', os'.length = n /\ σ8 = XT σ ix os' /\ ah7 X ifs σ8 H4 fun ok H5 =>
   if ok = true then Le X elt σ8 H5 fun y H6 => ∃ acc, H6 D = some (.lst acc) /\ acc.length < sizeLine /\ N (upd H6 D (.lst (acc ++ [y]))) else N H5
variable {tg : Expr}
theorem RP {J : It} {it : Addr} {tn : Nat -> Heap -> Prop} {G : Addr -> Hp -> Prop} {RR : Value -> Addr -> Result -> Shared -> Prop} {E : Q.v}
   (sc : wj X scope xs Nc ix) (hc : X.calm = true) (I : Q.m) (Tn : Turn X.prog X.w X.K tg J fp it tn) (st : tn 0 s.heap) (hf : ∀ b ∈ fp, F2 X pins H b)
   (loop : ∀ D, H D = none -> ∃ W : Nat -> Nat -> Hp -> Prop, (∃ m, W 0 m (upd H D (.lst []))) /\ ∀ i m H2, W i m H2 -> (J.stop i H2 /\ G D H2) ∨
     (J.go i H2 /\ ∃ N : Hp -> Prop, (∀ H', N H' -> ∃ m', m' < m /\ W (i + 1) m' H') /\ ∀ xv H3, J.yld i H2 xv H3 -> ∀ C s0 H0 f0 os, os.length = xs.length -> aa1 (fQ X scope Nc C s0 H0 f0) tg elt ifs xs.length σ ix D N xv os H3))
   (hRR : ∀ D C s' H', (∃ m, s'.heap.Ns C m) -> (∃ o, s'.heap.get? C = some o /\ ∀ v, o.data ≠ .cell v) -> H' C = none -> (C ≠ X.env.locals /\ C ∉ X.fs /\ X.s₀.heap.objs.size <= C /\ (∀ y c, X.env.cells.lookup y = some c -> c ≠ C) /\ ∀ q ∈ X.pn ++ pins, q.1 ≠ C) -> (∀ h', Heap.SameBut C s'.heap h' -> Inv X pins σ H' { s' with heap := h' }) -> G D H' -> RR (.ref D) C (.ok .next) s') :
   wpAny Q.k X.A (newList []) (fun acc s₃ => wpAny Q.k X.A (newFunctionEnv scope X.env.globals (mD X.env scope.names []) [] X.env.qual none .none (some X.env)) (fun aa2 s₄ =>
     codeAny Q.k X.A (.compStart Q.at 0 (.ref it) acc { aa2 with scope := relabel scope X.env }) (RR acc aa2.locals) s₄) E s₃) E s := by
 refine wpAny_newObj_type ?_
 have I3 : Inv X pins σ (upd H s.heap.objs.size (.lst [])) { s with heap := s.heap.push { cls := .type "list", dict := none, data := .seq ([] : List Value).toArray } } :=
   I.laid (t' := s.toks) (fun b u e => as6 _ e) (as3 _) ⟨by show 0 <= sizeLine; exact ata _, [], 0, .nil, atz _ rfl⟩
 have hD : H s.heap.objs.size = none := I.gQ.fresh (as3 _)
 obtain ⟨W, ⟨m0, w0⟩, turn⟩ := loop _ hD
 have aa3 : ∀ b ∈ fp, F2 X pins (upd H s.heap.objs.size (.lst [])) b /\ b < (s.heap.push { cls := .type "list", dict := none, data := .seq ([] : List Value).toArray }).objs.size := fun b hb => by
   obtain ⟨f0, f1⟩ := hf b hb
   obtain ⟨o, ho, _⟩ := Tn.obj 0 _ st b hb
   have Lk := atd ho
   refine ⟨⟨by rw [aP (aty Lk)]; exact f0, f1⟩, ?_⟩
   rw [Heap.size_push]; exact Nat.lt_succ_of_lt Lk
 have st3 : tn 0 (s.heap.push { cls := .type "list", dict := none, data := .seq ([] : List Value).toArray }) := Tn.keep 0 _ _ st fun b _ o e => as6 _ e
 generalize hs3 : ({ s with heap := s.heap.push { cls := .type "list", dict := none, data := .seq ([] : List Value).toArray } } : Shared) = s3 at I3 ⊢
 have hh3 : s3.heap = s.heap.push { cls := .type "list", dict := none, data := .seq ([] : List Value).toArray } := by rw [← hs3]
 rw [← hh3] at aa3 st3
 refine wpAny_newFunctionEnv sc.Lj (by intro y hy; simp at hy) (fun h₁ ain aio => ?_) sc.kind
 have old : ∀ b o, s3.heap.get? b = some o -> h₁.get? b = some o := fun b o e => (aio.2 b (aty (atd e))).trans (as6 _ e)
 have J0 := O9 (tk := s3.toks + ([] : List (Str × Value)).length) sc I3 aa3 ain old
 have st4 : tn 0 h₁ := Tn.keep 0 _ _ st3 fun b _ o e => old b o e
 have agL : ∀ s4 : Shared, s4 = { s3 with heap := h₁, toks := s3.toks + ([] : List (Str × Value)).length } -> codeAny Q.k X.A (.compLoop Q.at 0 (.ref it) (.ref s.heap.objs.size) (compEnvC scope (mD X.env scope.names []) s3.heap.objs.size X.env)) (RR (.ref s.heap.objs.size) s3.heap.objs.size) s4 := by
   rintro s4 rfl
   have stat : ∀ {H' : Hp}, (∀ b ∈ fp, H' b = none) -> ∀ b ∈ fp, F2 Q.av [] H' b := fun {H'} hn b hb => by
     obtain ⟨⟨f0, f1, f2, f3, f4, f5⟩, Lk⟩ := aa3 b hb
     refine ⟨hn b hb, aty Lk, fun z => ?_, .inl hb, fun y c e => f4 y c (zm (fun y hy e => I.ok.has y.1 (sc.frees y hy e).2) (fun _ _ z => by cases z) e), fun p hp => absurd (show p ∈ ([] : List (Addr × Obj)) from hp) Q.r⟩
     rcases asX.mp (I3.K4 b z) with q | q
     . exact f1 q
     . exact f2 q
   refine Li (fun n s' => ∃ i o H', o.length = xs.length /\ Inv Q.av [] (XT σ ix o) H' s' /\ tn i s'.heap /\ (∀ b ∈ fp, H' b = none) /\ W i n H') ?_ m0 ⟨0, _, _, at9, J0, st4, fun b hb => (aa3 b hb).1.1, w0⟩
   rintro n s5 ⟨i, o5, H5, ol5, I5, st5, fr5, w5⟩
   rcases turn i n H5 w5 with ⟨stop, g⟩ | ⟨go, N, hN, step⟩
   . refine gK (Tn.done Q.av rfl rfl rfl hc i [] s5 _ H5 _ I5 (stat fr5) st5 stop) fun r s6 zz => ?_
     obtain ⟨hr, I6⟩ := zz
     subst hr
     obtain ⟨m6, hn6, _⟩ := I6.loc
     obtain ⟨oc, esc, epc, hoc, hdc, _⟩ := id hn6
     have fpC := I3.K6 (as3 s3.heap.objs.size) (H' := fun _ => none) rfl
     refine hRR _ _ s6 H5 ⟨m6, hn6⟩ ⟨oc, hoc, fun v z => by rw [hdc] at z; cases z⟩ I6.free ⟨fpC.2.1, fpC.2.2.1, ?_, fpC.2.2.2.2.1, fpC.2.2.2.2.2⟩ (fun h' hs' => XQ I3 (fun b hb => (aa3 b hb).1) I6 hs') g
     exact I3.sz
   . refine gK (Tn.item Q.av rfl rfl rfl hc i [] s5 _ H5 _ I5 (stat fr5) st5 go) fun r s6 zz => ?_
     obtain ⟨u, hr, h6⟩ := zz
     subst hr
     refine gK h6 fun _ s7 zz => ?_
     obtain ⟨xv, H7, I7, r7, y7, st7, fr7⟩ := zz
     have I7' := I7.pinned (stat fr7) (Tn.obj _ _ st7)
     obtain ⟨t, hg, ht⟩ := step xv _ y7 s3.heap.objs.size s3 (upd H s.heap.objs.size (.lst [])) fp o5 ol5
     refine gK (hg _ s7 _ H7 xv u _ I7' r7 ht) fun _ s8 zz => ?_
     obtain ⟨σ8, H8, I8, os8, ol8, e8, h8⟩ := zz
     subst e8
     refine gK (aaR I8 h8 rfl) fun ok s9 zz => ?_
     obtain ⟨H9, I9, q9⟩ := zz
     have again : ∀ {Ha : Hp} {sa : Shared}, Inv Q.av ([] ++ Hs fp s7.heap) (XT σ ix os8) Ha sa -> N Ha -> ∃ m, m < n /\ ∃ i o H', o.length = xs.length /\ Inv Q.av [] (XT σ ix o) H' sa /\ tn i sa.heap /\ (∀ b ∈ fp, H' b = none) /\ W i m H' := fun {Ha sa} Ia na => by
       obtain ⟨m', hm, wa⟩ := hN Ha na
       refine ⟨m', hm, i + 1, os8, Ha, ol8, Ia.Bg, Tn.keep _ _ _ st7 fun b hb o e => (Ia.pin (b, o) (asJ _ (asJ _ (tX hb e)))).1, fun b hb => ?_, wa⟩
       obtain ⟨o, e, d⟩ := Tn.obj _ _ st7 b hb
       exact (Ia.pin (b, o) (asJ _ (asJ _ (tX hb e)))).2.1
     cases ok with
     | false =>
       rw [asH as7] at q9 ⊢
       exact again I9 q9
     | true =>
       rw [asM rfl] at q9 ⊢
       refine gK (q9 _ s9 I9) fun v sa zz => ?_
       obtain ⟨y, Ha, Ia, ra, acc, aot, hlen, na⟩ := zz
       refine gK (DQ (X := fQ X scope Nc s3.heap.objs.size s3 (upd H s.heap.objs.size (.lst [])) fp) _ sa _ Ha (.ref s.heap.objs.size) [y] (.ref s.heap.objs.size) [v] (fun _ Hb => Hb = upd Ha s.heap.objs.size (.lst (acc ++ [y]))) Ia rfl (.cons ra .nil) ⟨_, acc, y, rfl, rfl, aot, hlen, rfl⟩) fun _ sb zz => ?_
       obtain ⟨_, Hb, Ib, _, eb⟩ := zz
       subst eb
       exact again Ib na
 exact codeAny_compStart_list (agL _ rfl) (Tn.self _ 0 _ _ _ st4 (agL _ rfl))
def XU (ps : List D) : List (Option T) := ps.map fun p => some (.sh p)
theorem Ks : ∀ {ys : List V} {os : List (Option V)} {pre r : L2.St}, os.length = ys.length -> HB (pre ++ (os ++ r)) (List.range' pre.length ys.length) ys = pre ++ (ys.map some ++ r)
 | [], os, pre, r, h => by
   have : os = [] := List.length_eq_zero_iff.mp h
   subst this
   rfl
 | y :: ys, os, pre, r, h => by
   match os, h with
   | o :: os, h =>
     show HB ((pre ++ (o :: (os ++ r))).set pre.length (some y)) (List.range' (pre.length + 1) ys.length) ys = _
     rw [List.set_append_right _ _ (as3 _), Nat.sub_self, List.set_cons_zero]
     have := Ks (ys := ys) (os := os) (pre := pre ++ [some y]) (r := r) (by simpa using h)
     simp only [as5, atE, List.length_nil, asO, List.singleton_append] at this
     rw [this]
     simp
theorem ad6 : ∀ {ps : List D} {ys : List V} {δc : Q.n} {σc : L2.St}, aX K CL Z ps ys -> fO K CL H Z δc σc [] -> fO K CL H Z (XU ps ++ δc) (ys.map some ++ σc) [] := fun {ps ys δc σc} h e =>
 aX.ind (P := fun ps ys => fO K CL H Z (XU ps ++ δc) (ys.map some ++ σc) []) e (fun r _ i => .cons (fp := []) (gp := []) (.sh r) i) h
section
variable {W1 : Hp} {δc : Q.n} {J : It} {ds : List D} {p : D -> Bool} {g : D -> T} {parts : D -> Option (List D)}
def DU (X : Cx) (CL : Q.g) (scope : Scope) (Nc : Q.h) (n : Nat) (tg : Expr) (parts : D -> Option (List D)) (ifs : List Expr) (elt : Expr) (δc : Q.n) (ds : List D) (p : D -> Bool) (g : D -> T) : Prop :=
 ∀ C s0 H0 f0 b', Tgt (fQ X scope Nc C s0 H0 f0) CL tg (List.range' 0 n) parts /\ ∀ d, d ∈ ds -> ∃ ps, parts d = some ps /\ ps.length = n /\ TIv (fQ X scope Nc C s0 H0 f0) CL b' ifs (XU ps ++ δc) (p d) /\ (p d = true -> dH (fQ X scope Nc C s0 H0 f0) CL b' elt (XU ps ++ δc) (g d) (XU ps ++ δc))
structure GW (K : Q.l) (CL : Q.g) (H W1 : Hp) (D : Addr) (l : List T) (k : Nat) (H2 Z2 : Hp) (Ri : List V) (fp : Q.p) : Prop where
 a1 : aR H H2
 a2 : aR W1 Z2
 a3 : aR Z2 H2
 a4 : Z2 D = none
 a5 : ∀ a o, Z2 a = some o -> W1 a = none -> H a = none
 a6 : ∀ a o, H2 a = some o -> pB o = true -> Z2 a = some o
 a7 : H2 D = some (.lst Ri)
 a8 : bJ K CL H2 Z2 l Ri fp
 a9 : fp.Nodup
 b1 : D ∉ fp
 b2 : ∀ a ∈ fp, Z2 a = none /\ H a = none
 b3 : Ri.length <= k
theorem HC (S : bY X.K CL b H Z δ σ ts vs) (zw : aR Z W1) (wh : aR W1 H) (tp : ∀ a o, H a = some o -> pB o = true -> W1 a = some o)
   (cap : ∀ H', fO X.K CL H' W1 δc (ix.map fun i => (σ[i]?).getD none) []) (inner : DU X CL scope Nc n tg parts ifs elt δc ds p g)
   (hgo : ∀ i H2, aR W1 H2 -> i < ds.length -> J.go i H2)
   (hy : ∀ i Z2 H2 x H', aR W1 Z2 -> aR Z2 H2 -> (∀ a o, H2 a = some o -> pB o = true -> Z2 a = some o) -> i < ds.length -> J.yld i H2 x H' -> ∃ Z3 d, ds[i]? = some d /\ Lx Z2 H2 Z3 H' /\ cC X.K CL Z3 d x)
   (vW : ∀ H2, aR W1 H2 -> J.stop ds.length H2) (hlen : ds.length <= sizeLine) (c : W1 = Z \/ ∀ d ∈ ds, (g d).clean = true) :
   ∀ D, H D = none -> ∃ W : Nat -> Nat -> Hp -> Prop, (∃ m, W 0 m (upd H D (.lst []))) /\ ∀ i m H2, W i m H2 -> (J.stop i H2 /\ ∃ Z2, aR Z Z2 /\ aR H H2 /\ bY X.K CL b H2 Z2 δ σ (.lst ((ds.filter p).map g) :: ts) (.ref D :: vs)) ∨
     (J.go i H2 /\ ∃ N : Hp -> Prop, (∀ H', N H' -> ∃ m', m' < m /\ W (i + 1) m' H') /\ ∀ xv H3, J.yld i H2 xv H3 -> ∀ C s0 H0 f0 os, os.length = n -> aa1 (fQ X scope Nc C s0 H0 f0) tg elt ifs n σ ix D N xv os H3) := by
 intro D hD
 have wD : W1 D = none := wh.free hD
 refine ⟨fun i m H2 => m = ds.length - i /\ i <= ds.length /\ ∃ Z2 Ri fp, GW X.K CL H W1 D (((ds.take i).filter p).map g) i H2 Z2 Ri fp, ⟨ds.length, rfl, ata _, W1, [], [], aR.upd hD, .refl _, wh.trans (aR.upd hD), wD, fun a o q z => ?_, fun a o q i => ?_, bR, .nil, aua, by simp, by simp, by simp⟩, ?_⟩
 . rw [q] at z; cases z
 . by_cases ha : a = D
   . subst ha; rw [bR] at q; cases q; cases i
   . rw [aP ha] at q; exact tp a o q i
 . rintro i m H2 ⟨rfl, hi, Z2, Ri, fp, hh, wz, zh, zD, nw, tp2, hD2, ra, nd, nD, own, hav⟩
   by_cases Lk : i < ds.length
   . refine .inr ⟨hgo i H2 (wz.trans zh) Lk, fun H' => ∃ Z2 Ri fp, GW X.K CL H W1 D (((ds.take (i + 1)).filter p).map g) (i + 1) H' Z2 Ri fp, fun H' h => ⟨ds.length - (i + 1), by omega, rfl, Lk, h⟩, fun xv H3 y C s0 H0 f0 os hos => ?_⟩
     obtain ⟨Z3, d, hd, gr, rd⟩ := hy i Z2 H2 xv H3 wz zh tp2 Lk y
     have aiq : ∀ a, Z2 a = none -> (∃ o, H2 a = some o) -> Z3 a = none := fun a e ⟨o, e2⟩ => by
       cases q : Z3 a with
       | none => rfl
       | some u => rw [gr.new a u q e] at e2; cases e2
     have nw3 : ∀ a o, Z3 a = some o -> W1 a = none -> H a = none := fun a o q z => by
       cases e : Z2 a with
       | none => exact hh.free (gr.new a o q e)
       | some u =>
         have := gr.z a u e
         rw [q] at this; cases this
         exact nw a o e z
     have ra3 : bJ X.K CL H3 Z3 (((ds.take i).filter p).map g) Ri fp := ra.mono gr.z fun a ha => by
       obtain ⟨o, e⟩ := ra.there a ha
       rw [e]; exact gr.h a o e
     have ow3 : ∀ a ∈ fp, Z3 a = none /\ H a = none := fun a ha => ⟨aiq a (own a ha).1 (ra.there a ha), (own a ha).2⟩
     have zD3 : Z3 D = none := aiq D zD ⟨_, hD2⟩
     have hD3 : H3 D = some (.lst Ri) := gr.h D _ hD2
     have hh3 := hh.trans gr.h
     have wz3 := wz.trans gr.z
     have zh3 := gr.zh
     have tp3 := gr.tp
     clear own nw ra zD hD2 hh wz zh tp2 gr aiq
     have aow : d ∈ ds := atB hd
     have htk : ds.take (i + 1) = ds.take i ++ [d] := by rw [auC, hd]; rfl
     obtain ⟨tgt, inn⟩ := inner C s0 H0 f0 ⟨H3, Z3⟩
     obtain ⟨ps, hps, hpl, it, ie⟩ := inn d aow
     obtain ⟨t, pg, ht⟩ := tgt
     refine ⟨t, pg, ht Z3 H3 d ps xv _ _ zh3 rd hps fun ys rys => ?_⟩
     have hyl : ys.length = n := by rw [← rys.length]; exact hpl
     have es : HB (XT σ ix os) (List.range' 0 n) ys = XT σ ix (ys.map some) := by
       have := Ks (ys := ys) (os := os) (pre := []) (r := ix.map fun i => (σ[i]?).getD none) (by rw [hos, hyl])
       rw [hyl] at this
       exact this
     refine ⟨ys.map some, by rw [asG]; exact hyl, es, ?_⟩
     rw [es]
     have S0 : bY X.K CL ⟨H3, Z3⟩ H3 Z3 (XU ps ++ δc) (XT σ ix (ys.map some)) [] [] :=
       ⟨⟨[], [], ad6 rys ((cap H3).mono wz3 fun a ha => by cases ha), .nil, aua, fun a ha => by cases ha⟩, .refl _, .refl _, zh3, fun a o q z => (by have z' : Z3 a = none := z; rw [show Z3 a = some o from q] at z'; cases z'), tp3, (S.ahZ.mono zw).mono wz3⟩
     refine it.sem S0 fun H4 Z4 z4 k4 S4 => ?_
     have aoy : ∀ a ∈ fp, H4 a = H3 a := fun a ha => by
       obtain ⟨o, e⟩ := ra3.there a ha
       rw [e]; exact k4 a o e
     have aa4 : ∀ a, Z3 a = none -> (∃ o, H3 a = some o) -> Z4 a = none := fun a e ⟨o, e2⟩ => by
       cases q : Z4 a with
       | none => rfl
       | some u =>
         have := S4.new a u q e
         rw [show H3 a = none from this] at e2; cases e2
     cases hp : p d with
     | false =>
       refine XF ⟨Z4, Ri, fp, hh3.trans k4, wz3.trans z4, S4.zh, aa4 D zD3 ⟨_, hD3⟩, fun a o q z => ?_, S4.tp, k4 D _ hD3, ?_, nd, nD, fun a ha => ⟨aa4 a (ow3 a ha).1 (ra3.there a ha), (ow3 a ha).2⟩, by omega⟩
       . cases e : Z3 a with
         | none => exact hh3.free (S4.new a o q e)
         | some u => 
           have := z4 a u e
           rw [q] at this; cases this
           exact nw3 a o e z
       . rw [htk, List.filter_append, List.filter_cons_of_neg (by simp [hp]), List.filter_nil, atw]
         exact ra3.mono z4 aoy
     | true =>
       refine XG ((ie hp) H4 Z4 (XT σ ix (ys.map some)) [] [] _ S4 fun yv H5 Z5 z5 k5 S5 => ⟨Ri, k5 D _ (k4 D _ hD3), by omega, ?_⟩)
       obtain ⟨f1, g1, e1, r1, nd1, alx⟩ := S5.rep
       cases r1 with
       | @cons _ _ _ _ fy fn ry rn =>
         cases rn
         rw [atw] at nd1 alx
         have ndy : fy.Nodup := (atr.mp nd1).2.1
         have ad7 : ∀ a ∈ fy, Z5 a = none /\ H3 a = none := fun a ha => alx a (asJ _ ha)
         have RQ : ∀ a, Z3 a = none -> (∃ o, H3 a = some o) -> Z5 a = none := fun a e ⟨o, e2⟩ => by
           cases q : Z5 a with
           | none => rfl
           | some u =>
             have := S5.new a u q e
             rw [show H3 a = none from this] at e2; cases e2
         have yD : ∀ a ∈ fy, a ≠ D := fun a ha e => by
           subst e
           rw [(ad7 a ha).2] at hD3; cases hD3
         have h5D : H5 D = some (.lst Ri) := k5 D _ (k4 D _ hD3)
         have sD : aR H (upd H5 D (.lst (Ri ++ [yv]))) := fun a o q => by
           rw [aP (cJ q hD)]
           exact k5 a o (k4 a o (hh3 a o q))
         refine ⟨Z5, Ri ++ [yv], fp ++ fy, sD, wz3.trans (z4.trans z5), fun a o q => ?_, RQ D zD3 ⟨_, hD3⟩, fun a o q z => ?_, fun a o q im => ?_, bR, ?_, ?_, ?_, fun a ha => ?_, ?_⟩
         . rw [aP (cJ q (RQ D zD3 ⟨_, hD3⟩))]; exact S5.zh a o q
         . cases e : Z3 a with
           | none => exact hh3.free (S5.new a o q e)
           | some u =>
             have := z5 a u (z4 a u e)
             rw [q] at this; cases this
             exact nw3 a o e z
         . by_cases ha : a = D
           . subst ha; rw [bR] at q; cases q; cases im
           . rw [aP ha] at q; exact S5.tp a o q im
         . rw [htk, List.filter_append, List.filter_cons_of_pos hp, List.filter_nil, aul]
           refine bJ.app (ra3.mono (z4.trans z5) fun a ha => ?_) (by
             have := bJ.cons (fp := fy) (gp := []) (ry.mono Q.j fun a ha => aP (yD a ha)) (bJ.nil (H := upd H5 D (.lst (Ri ++ [yv]))) (Z := Z5))
             rwa [atw] at this)
           have : a ≠ D := fun e => nD (e ▸ ha)
           rw [aP this]
           obtain ⟨o, e⟩ := ra3.there a ha
           rw [e]; exact k5 a o (k4 a o e)
         . refine atr.mpr ⟨nd, ndy, fun a ha a' XJ e => ?_⟩
           subst e
           obtain ⟨o, e⟩ := ra3.there a ha
           rw [(ad7 a XJ).2] at e; cases e
         . intro h
           rcases asQ.mp h with h | h
           . exact nD h
           . exact yD D h rfl
         . rcases asQ.mp ha with h | h
           . exact ⟨RQ a (ow3 a h).1 (ra3.there a h), (ow3 a h).2⟩
           . exact ⟨(ad7 a h).1, hh3.free (ad7 a h).2⟩
         . rw [as5, List.length_singleton]; omega
   . have e : i = ds.length := by omega
     subst e
     refine .inl ⟨vW H2 (wz.trans zh), ?_⟩
     rw [List.take_length] at ra
     obtain ⟨Z', z', S'⟩ := S.back (H' := H2) (W := W1) (W' := Z2) (t := .lst ((ds.filter p).map g)) (v := .ref D) (fp := D :: fp) hh zw wz zh nw tp2 (.lst hD2 ra) (atL.mpr ⟨nD, nd⟩) (fun a ha => by
       rcases asX.mp ha with h | h
       . subst h; exact ⟨zD, hD⟩
       . exact own a h) (c.imp id fun c => by
         rw [sZ]
         exact Hu fun d hd => c d (auw.mp hd).1)
     exact ⟨Z', z', hh, S'⟩
end
variable {δc : Q.n} {ds : List D} {p : D -> Bool} {g : D -> T} {parts : D -> Option (List D)}
theorem Ku {J : It} {it : Addr} {tn : Nat -> Heap -> Prop} {H1 : Hp} {RR : Value -> Addr -> Result -> Shared -> Prop} {E : Q.v}
   (sc : wj X scope xs Nc ix) (hc : X.calm = true) (C : Ly X CL b δ1 σ ts vs Z H ds J H1) (I : L2.Inv X pins σ H1 s) (Tn : Turn X.prog X.w X.K tg J fp it tn) (st : tn 0 s.heap) (hf : ∀ b ∈ fp, F2 X pins H1 b)
   (hb : Q.aJ) (inner : DU X CL scope Nc xs.length tg parts ifs elt δc ds p g) (hlen : ds.length <= sizeLine)
   (hRR : ∀ D C s' H' Z', (∃ m, s'.heap.Ns C m) -> (∃ o, s'.heap.get? C = some o /\ ∀ v, o.data ≠ .cell v) -> H' C = none -> (C ≠ X.env.locals /\ C ∉ X.fs /\ X.s₀.heap.objs.size <= C /\ (∀ y c, X.env.cells.lookup y = some c -> c ≠ C) /\ ∀ q ∈ X.pn ++ pins, q.1 ≠ C) -> (∀ h', Heap.SameBut C s'.heap h' -> L2.Inv X pins σ H' { s' with heap := h' }) -> aR Z Z' -> aR H H' -> bY X.K CL b H' Z' δ1 σ (.lst ((ds.filter p).map g) :: ts) (.ref D :: vs) -> RR (.ref D) C (.ok .next) s') :
   wpAny Q.k X.A (newList []) (fun acc s₃ => wpAny Q.k X.A (newFunctionEnv scope X.env.globals (mD X.env scope.names []) [] X.env.qual none .none (some X.env)) (fun aa2 s₄ =>
     codeAny Q.k X.A (.compStart Q.at 0 (.ref it) acc { aa2 with scope := relabel scope X.env }) (RR acc aa2.locals) s₄) E s₃) E s := by
 obtain ⟨Z1, z1, k1, S1, go, yl, stp⟩ := C.ex
 have lp : ∀ D, H1 D = none -> ∃ W : Nat -> Nat -> Hp -> Prop, (∃ m, W 0 m (upd H1 D (.lst []))) /\ ∀ i m H2, W i m H2 -> (J.stop i H2 /\ ∃ Z2, aR Z1 Z2 /\ aR H1 H2 /\ bY X.K CL b H2 Z2 δ1 σ (.lst ((ds.filter p).map g) :: ts) (.ref D :: vs)) ∨
     (J.go i H2 /\ ∃ N : Hp -> Prop, (∀ H', N H' -> ∃ m', m' < m /\ W (i + 1) m' H') /\ ∀ xv H3, J.yld i H2 xv H3 -> ∀ C s0 H0 f0 os, os.length = xs.length -> aa1 (fQ X scope Nc C s0 H0 f0) tg elt ifs xs.length σ ix D N xv os H3) := by
   rcases hb with ⟨e, cl⟩ | e
   . subst e
     exact HC (W1 := H1) S1 S1.zh Q.j (fun _ _ q _ => q) (OZ S1 ix) inner (fun i H2 s => go i H2 (S1.zh.trans s)) (fun i Z2 H2 y H' s => yl i Z2 H2 y H' (S1.zh.trans s)) (fun H2 s => stp H2 (S1.zh.trans s)) hlen (.inr cl)
   . subst e
     exact HC (W1 := Z1) S1 Q.j S1.zh S1.tp (O1 S1 ix) inner go yl stp hlen (.inl rfl)
 exact RP sc hc I Tn st hf lp fun D C s' H' m io nC ch ci ⟨Z', z', k', S'⟩ => hRR D C s' H' Z' m io nC ch ci (z1.trans z') (k1.trans k') S'
theorem FG (sc : wj X scope xs Nc ix) (I : L2.Inv X pins σ H s) : closureFor scope X.env = pure (mD X.env scope.names []) :=
 J3 fun y hy e => I.ok.has y.1 (sc.frees y hy e).2
theorem Pa (sc : wj X scope xs Nc ix) (hc : X.calm = true) (h : GIt X CL b tg iter δ ds δ1) (hb : Q.aJ) (inner : DU X CL scope Nc xs.length tg parts ifs elt δc ds p g) (hlen : ds.length <= sizeLine)
   (hs : Q.al := by intro _; rfl) : dH X CL b Q.at δ (.lst ((ds.filter p).map g)) δ1 := fun H Z σ ts vs Q S k pins s I => by
 obtain ⟨wi, pi, hw⟩ := h
 rw [eval_ListComp]
 refine wpAny_comprehension_free (use := none) rfl hs (FG sc I) sc.kind sc.names ?_
 refine gK (pi pins s σ H _ I (hw H Z σ ts vs (fun J H1 => Ly X CL b δ1 σ ts vs Z H ds J H1) S fun J H1 C => C)) fun v s1 h1 => gK h1 fun itv s2 zz => ?_
 obtain ⟨it, fp, tn, J, H1, e, I1, Tn, st, hf, C⟩ := zz
 subst e
 refine Ku (RR := fun acc C => compPost Q.k X.A X.xe none (EP X pins σ Q) acc C) sc hc C I1 Tn st hf hb inner hlen fun D C' s' H' Z' m io nC ch ci z' k' S' => ?_
 obtain ⟨m, hn⟩ := m
 exact ⟨m, hn, fun h' hs' => ⟨.ref D, H', ci h' hs', rfl, k _ H' Z' z' k' S'⟩⟩
variable {y : Str}
theorem ad8 {D : gX} {py aly : Pos} (i : Nat) (sc : wj X scope xs Nc ix) (hc : X.calm = true) (h : GIt X CL b tg iter δ ds δ1) (hb : Q.aJ) (inner : DU X CL scope Nc xs.length tg parts ifs elt δc ds p g) (hlen : ds.length <= sizeLine)
   (k : D.nx (δ1.set i (some (.lst ((ds.filter p).map g))))) (hl : i < δ1.length) (hN : X.N.Nodup) (hi : X.N[i]? = some y) (hx : Loc X.env.scope y) (hf' : X.fn y = true \/ X.env.scope.names.lookup y = some .local)
   (OW : swapsWith Q.at (some (.Name y py)) aly.line X.env = pure true)
   (hs : Q.al := by intro _; rfl) : TSv X CL b (.Assign [.Name y py] Q.at aly) δ D := fun H Z σ ts vs E S M pins s I => by
 obtain ⟨wi, pi, hw⟩ := h
 rw [exec_Assign_Name_used _ _ _ _ OW]
 refine atb (wpAny_standAt (atb ?_))
 show wpAny _ X.A (do let _ ← comprehension Q.at scope X.env _ (newList []) false (eval iter X.env) (some (assign (.Name y py) X.env))) _ _ s
 refine atb (atN (wpAny_comprehension_free (use := some (assign (.Name y py) X.env)) (Q := fun _ s' => SP X pins E .next s') rfl hs (FG sc I) sc.kind sc.names ?_) (fun _ s' hq => atA (atA hq)) fun _ _ e => e)
 refine gK (pi pins s σ H _ I (hw H Z σ ts vs (fun J H1 => Ly X CL b δ1 σ ts vs Z H ds J H1) S fun J H1 C => C)) fun v s1 h1 => gK h1 fun itv s2 zz => ?_
 obtain ⟨it, fp, tn, J, H1, e, I1, Tn, st, hf, C⟩ := zz
 subst e
 refine Ku (RR := fun acc C => compPost Q.k X.A X.xe (some (assign (.Name y py) X.env)) (fun _ s' => SP X pins E .next s') acc C) sc hc C I1 Tn st hf hb inner hlen fun D' C' s' H' Z' m io nC ch ci z' k' S' => ?_
 obtain ⟨m, hn⟩ := m
 obtain ⟨o, ho, Kf⟩ := io
 have I' : L2.Inv X pins σ H' s' := ci s'.heap (.refl ..)
 have I2 : L2.Inv X (pins ++ [(C', o)]) σ H' s' := I'.GB fun q hq => by
   rcases asQ.mp hq with z | z
   . exact I'.pin q (asJ _ z)
   . have e : q = (C', o) := by simpa using z
     subst e
     exact ⟨ho, nC, ch.1, ch.2.1, Kf⟩
 show wpAny _ X.A (assign (.Name y py) X.env (.ref D')) _ _ s'
 have hg : PG X (.Name y py) (Fq i) := Bf hN hi hx hf'
 refine gK (hg _ s' σ H' (.ref D') (.ref D') (fun σ8 H8 => σ8 = σ.set i (some (.ref D')) /\ H8 = H') I2 rfl ⟨rfl, rfl⟩) fun _ s8 zz => ?_
 obtain ⟨σ8, H8, I8, e8, e8'⟩ := zz
 subst e8
 subst e8'
 obtain ⟨hC8, nC8, _⟩ := I8.pin (C', o) (asJ _ (asJ _ Q.r))
 refine ⟨m, hn.at' fun o' e' => by rw [ho] at e'; cases e'; exact hC8, fun h' hs' => ?_⟩
 have I9 : L2.Inv X pins (σ.set i (some (.ref D'))) _ s8 := I8.GB fun q hq => I8.pin q (asJ _ (asL _ hq))
 have I10 := I9.turned (it := C') (h' := h') (t' := s8.toks) (fun b o hb e => (hs'.2 b hb).trans e) nC8 ch.1.symm.symm (.inr ch.2.2.1) ch.2.2.2.1 ch.2.2.2.2
 exact ⟨_, _, I10, M.nx _ _ _ Z' z' (S'.set hl) k⟩
variable {pos' : Pos}
theorem ais {D : gX} (gx : Gx X) (n : Ln X i x) (sc : wj X scope xs Nc ix) (h : GIt X CL b tg iter δ ds δ1)
   (hb : Q.aJ) (inner : DU X CL scope Nc xs.length tg parts ifs elt δc ds p g) (hlen : ds.length <= sizeLine) (k : dY X CL b fP (δ1.set i (some (.lst ((ds.filter p).map g)))) D) (hl : i < δ1.length)
   (OW : swapsWith (.ListComp elt [⟨tg, iter, ifs, 0⟩] scope pc) (some (.Name x pos')) pos.line X.env = pure true \/ swapsWith (.ListComp elt [⟨tg, iter, ifs, 0⟩] scope pc) (some (.Name x pos')) pos.line X.env = pure false) (hs : Q.al := by intro _; rfl) :
   dY X CL b (.Assign [.Name x pos'] (.ListComp elt [⟨tg, iter, ifs, 0⟩] scope pc) pos :: fP) δ D := by
 rcases OW with OW | OW
 . exact c9 (ad8 i sc gx.calm h hb inner hlen k hl gx.nd n.hi n.loc n.hf OW hs)
 . exact c9 (RK i (Pa sc gx.calm h hb inner hlen hs) k hl gx.nd n.hi n.loc OW n.hf)
variable {C : Addr}
theorem ait (h1 : Nc[i]? = some x) (h2 : scope.names.lookup x = some .local) (hd : Q.s := by decide) (rE : Q.ah := by decide) : Ln (fQ X scope Nc C s H fp) i x :=
 ⟨kF h1 h2 hd rE, .inl (lookup_relabel_local h2), .inr (lookup_relabel_local h2)⟩
def Ite (K : Q.l) (a : Addr) : It :=
 ⟨fun i H => ∃ xs x, vJ K H a xs /\ xs[i]? = some x, fun i H x H' => ∃ T y, H T = none /\ x = .ref T /\ (∀ xs, vJ K H a xs -> xs[i]? = some y) /\ H' = upd H T (.tup [.int i, y]), fun i H => ∃ xs, vJ K H a xs /\ xs.length <= i⟩
variable {elts : List Expr} {kk : Nat} {pt : Pos}
theorem XW (a e it : Addr) (ZR : e ≠ it) : Turn P w K (.Tuple elts kk pt) (Ite K a) [e, it] e (fun i h => (∃ old, PySem.IsEnum h e it i old) /\ h.IsListIter it a i) where
 mem := by simp
 obj := fun i h st b hb => by
   obtain ⟨⟨old, he⟩, hit⟩ := st
   rcases asX.mp hb with z | z
   . subst z
     exact ⟨_, he, fun v z => by
       have z' : Data.fields _ = Data.cell v := z
       cases z'⟩
   . have z : b = it := by simpa using z
     subst z
     obtain ⟨o, e, c, d⟩ := hit
     exact ⟨o, e, fun v z => by rw [d] at z; cases z⟩
 keep := fun i h h' st k => by
   obtain ⟨⟨old, he⟩, hit⟩ := st
   exact ⟨⟨old, k e Q.r _ he⟩, hit.at fun o q => k it Q.r o q⟩
 item := by
   intro X hP hw hK hc i pins s σ H E I hf st hg
   subst hP hw hK
   obtain ⟨xs, x, hq, hx⟩ := hg
   obtain ⟨its, rv, p, hz⟩ := I.list hq
   obtain ⟨u, hu, ru⟩ := rv.get hx
   obtain ⟨⟨old, he⟩, hit⟩ := st
   have fe := hf e Q.r
   have fi := hf it Q.r
   have hT0 : H s.heap.objs.size = none := I.gQ.fresh (as3 _)
   have fT := I.K6 (as3 s.heap.objs.size) hT0
   refine PySem.wpAny_pyNext_enum_item he hit p.isList (x := u) (by simpa using hu) ZR fun h' ho aoA hT hsz hk => ⟨_, rfl, ?_⟩
   refine PySem.wpAny_letOwnedTupleGo_enum ho fun h2 he2 Om => ?_
   replace Om : Heap.SameBut e h' h2 := Om
   have eT : e < s.heap.objs.size := atd he
   have keep : ∀ b o, b ≠ e -> b ≠ it -> s.heap.get? b = some o -> h2.get? b = some o := fun b o h1 h3 q => (Om.2 b h1).trans (hk b o h1 h3 q)
   have hT2 : h2.get? s.heap.objs.size = some { cls := .type "tuple", data := .seq #[.int i s.toks, u] } := (Om.2 _ (Nat.ne_of_gt eT)).trans hT
   have nH : ∀ b o, H b = some o -> b ≠ e /\ b ≠ it /\ b ≠ s.heap.objs.size := fun b o q => ⟨fun z => (by rw [z, fe.1] at q; cases q), fun z => (by rw [z, fi.1] at q; cases q), fun z => (by rw [z, hT0] at q; cases q)⟩
   have I' : L2.Inv X pins σ (upd H s.heap.objs.size (.tup [.int i, x])) { s with heap := h2, toks := s.toks + 1 } := by
     refine I.step (g' := s.gens) (d' := s.drawn) (ch := [e, it, s.heap.objs.size]) (fun b hb => ?_) (fun b o _ _ hc q _ => ?_) (fun b o _ _ hc q _ => ⟨o.slots, ?_⟩) (fun b o hc q n => ?_) (fun b o hc q => ⟨o, ?_⟩) (fun b ys q => ?_) (fun b o u q => ?_) (fun b ps q => ⟨#[], ?_⟩) (fun m hm => ?_) (fun b o q => ?_) I.bare
     . rcases asX.mp hb with z | hb
       . subst z; exact ⟨fe.2.2.2.1, fe.2.1, fe.2.2.2.2.1, fe.2.2.2.2.2⟩
       . rcases asX.mp hb with z | hb
         . subst z; exact ⟨fi.2.2.2.1, fi.2.1, fi.2.2.2.2.1, fi.2.2.2.2.2⟩
         . have z : b = s.heap.objs.size := by simpa using hb
           subst z; exact ⟨fT.2.2.2.1, fT.2.1, fT.2.2.2.2.1, fT.2.2.2.2.2⟩
     . exact keep b o Q.aj Q.aj q
     . exact keep b o Q.aj Q.aj q
     . rw [aP Q.aj]; exact n
     . exact keep b o Q.aj Q.aj q
     . rw [aP (nH b _ q).2.2]; exact q
     . rw [aP (nH b _ q).2.2]; exact q
     . rw [aP (nH b _ q).2.2, q]; simp
     . obtain ⟨o, es, ep, ho, r⟩ := hm
       exact ⟨o, es, ep, keep _ o (aui fe.2.1) (aui fi.2.1) ho, r⟩
     . by_cases hb : b = s.heap.objs.size
       . subst hb
         rw [bR] at q
         cases q
         exact ⟨atJ (cR (asR rfl)), [.int i s.toks, u], .cons ⟨s.toks, rfl⟩ (.cons ru .nil), ⟨_, hT2, rfl, _, rfl⟩⟩
       . rw [aP hb] at q
         refine (I.gQ b o q).JW (fun c v hc z => keep c v ?_ ?_ z) (fun c z => by rw [aP (nH c _ z).2.2]; exact z) (fun c ys z => by rw [aP (nH c _ z).2.2]; exact z) fun c ys z => by rw [aP (nH c _ z).2.2]; exact z
         . rcases hc with z | z
           . rw [z]; exact (nH b _ q).1
           . exact (nH c _ z).1
         . rcases hc with z | z
           . rw [z]; exact (nH b _ q).2.1
           . exact (nH c _ z).2.1
   have ei : ((i + 1 : Nat) : Int) = (i : Int) + 1 := by omega
   refine ⟨.ref s.heap.objs.size, _, I', rfl, ⟨_, x, hT0, rfl, fun ys hy => by rw [I.Ow hy hq]; exact hx, rfl⟩, ⟨⟨u, by rw [ei]; exact he2⟩, aoA.at fun o q => (Om.2 it (aui ZR)).trans q⟩, fun b hb => ?_⟩
   have hb' := hf b hb
   obtain ⟨o, JX, _⟩ : ∃ o, s.heap.get? b = some o /\ True := by
     rcases asX.mp hb with z | z
     . subst z; exact ⟨_, he, trivial⟩
     . have z : b = it := by simpa using z
       subst z
       obtain ⟨o, q, _⟩ := hit
       exact ⟨o, q, trivial⟩
   rw [aP (aty (atd JX))]
   exact hb'.1
 done := by
   intro X hP hw hK hc i pins s σ H E I hf st hg
   subst hP hw hK
   obtain ⟨xs, hq, hx⟩ := hg
   obtain ⟨its, rv, p, hz⟩ := I.list hq
   obtain ⟨⟨old, he⟩, hit⟩ := st
   obtain ⟨f0, f1, f2, f3, f4, f5⟩ := hf it Q.r
   have hl := rv.length
   exact PySem.wpAny_pyNext_enum_end (I.ok.hd hc) he hit p.isList (by simp; omega) fun h' eb => ⟨rfl, I.turned (t' := s.toks) (fun b o hb e => eb b o hb e) f0 f1 f3 f4 f5⟩
 self := fun _ _ _ _ _ st h => by
   obtain ⟨⟨old, he⟩, _⟩ := st
   exact PySem.wpAny_pyIter_enum he h
def alz (K : Q.l) (ta : TA) : TI := fun σ H R => ta σ H fun vs H1 => ∃ a xs, vs = [.ref a] /\ vJ K H1 a xs /\ R (Ite K a) H1
theorem ad9 {a : Expr} {ta : TA} {p : Pos} (hg : Gl X "enumerate") (hm : X.mg "enumerate" = none) (ha : PA X [a] ta) (hs : starEach [a] X.env = (false, eval a X.env) :: starEach [] X.env) : PI X (.Tuple elts kk pt) (.Call (.Name "enumerate" p) [a] [] pos) (alz X.K ta) := by
 intro pins s σ H R I h
 refine Call_ (DJ I hg hm boot_enumerate (auf (gK (ha pos pins s σ H _ I h) fun us s1 zz => ?_) hs rfl))
 obtain ⟨vs, H1, I1, r1, q1⟩ := zz
 obtain ⟨l, xs, e, hq, q⟩ := q1
 subst e
 cases r1 with
 | cons r rr =>
   cases rr
   cases r
   obtain ⟨its, rv, p, hz⟩ := I1.list hq
   refine PySem.call_enumerate_list p.isList fun h' he hit hsz hk => ?_
   have I2 : L2.Inv X pins σ H1 { s1 with heap := h' } := I1.kept (t' := s1.toks) fun b o e => hk b o e
   refine PySem.wpAny_pyIter_enum he ?_
   refine ⟨s1.heap.objs.size + 1, [s1.heap.objs.size + 1, s1.heap.objs.size], _, _, H1, rfl, I2, XW l _ _ (Nat.succ_ne_self _), ⟨⟨_, he⟩, hit⟩, fun b hb => ?_, q⟩
   rcases asX.mp hb with z | z
   . subst z
     exact I1.K6 (Nat.le_succ _) (I1.gQ.fresh (Nat.le_succ _))
   . have z : b = s1.heap.objs.size := by simpa using z
     subst z
     exact I1.K6 (as3 _) (I1.gQ.fresh (as3 _))
def HD (ds : List D) : List D := (List.range ds.length).map fun (i : Nat) => .tup [.int i, ds.getD i .non]
theorem DV (ds : List D) : (HD ds).length = ds.length := by simp [HD]
theorem XY {ds : List D} {d : D} (h : ds[i]? = some d) : (HD ds)[i]? = some (.tup [.int i, d]) := by
 have hi : i < ds.length := (atl.mp h).1
 unfold HD
 rw [atf, aud hi]
 show some (D.tup [.int i, ds.getD i .non]) = _
 rw [asU, h]
 rfl
variable {pr : Pos} {ds : List D}
theorem aea (hm : X.mg "enumerate" = none) (h : dH X CL b e δ (.sh (.lst ds)) δ1) (hg : Gl X "enumerate") (hs : Q.V := by exact cE rfl) : GIt X CL b (.Tuple elts kk pt) (.Call (.Name "enumerate" pr) [e] [] pc) δ (HD ds) δ1 := by
 refine ⟨_, ad9 hg hm (dh fh iy hs) hs, fun H Z σ ts vs R S k => h H Z σ ts vs _ S fun v H1 Z1 z1 k1 S1 => ?_⟩
 obtain ⟨fp, gp, _, r, _, _⟩ := S1.rep
 cases r with
 | cons r _ =>
   cases r with
   | sh r =>
     cases r with
     | @lst a us _ hq rr =>
       have hl := rr.length
       refine ⟨a, us, rfl, S1.zh.seq hq, k _ _ ⟨Z1, z1, k1, S1.pop, fun i H2 s hi => ?_, fun i Z2 H2 x H' s1 s2 tp hi hy => ?_, fun H2 s => ?_⟩⟩
       . rw [DV] at hi
         have hi' : i < us.length := by rw [← hl]; exact hi
         exact ⟨us, us[i], s.seq hq, as2 hi'⟩
       . rw [DV] at hi
         obtain ⟨T, y, hT, rfl, hx, rfl⟩ := hy
         obtain ⟨d, hd, rd⟩ := rr.adM (hx us ((s1.trans s2).seq hq))
         have gr : Lx Z2 H2 _ _ := Lx.tup (xs := [.int i, y]) s2 tp hT
         exact ⟨_, _, XY hd, gr, .tup (Fp.of bR) (.cons (.int _) (.cons ((rd.mono s1).mono gr.z) .nil))⟩
       . rw [DV]
         exact ⟨us, s.seq hq, by rw [← hl]; exact as3 _⟩
def insI (x : Int) : List Int -> List Int
 | [] => [x]
 | y :: l => if x <= y then x :: y :: l else y :: insI x l
def sortI : List Int -> List Int
 | [] => []
 | x :: l => insI x (sortI l)
theorem insI_perm (x : Int) : ∀ l, (insI x l).Perm (x :: l)
 | [] => .refl _
 | y :: l => by
   rw [insI]
   split
   . exact .refl _
   . exact ((insI_perm x l).cons y).trans (.swap x y l)
theorem sortI_perm : ∀ l, (sortI l).Perm l
 | [] => .refl _
 | x :: l => (insI_perm x (sortI l)).trans ((sortI_perm l).cons x)
theorem Kv {l : Q.e} {x : Int} : x ∈ sortI l ↔ x ∈ l := (sortI_perm l).mem_iff
theorem xQ (l : Q.e) : (sortI l).length = l.length := (sortI_perm l).length_eq
theorem FH (x : Int) : ∀ {l : Q.e}, l.Pairwise (· <= ·) -> (insI x l).Pairwise (· <= ·)
 | [], _ => List.pairwise_singleton _ _
 | y :: l, h => by
   rw [insI]
   obtain ⟨h1, h2⟩ := auA.mp h
   split
   . rename_i e
     refine auA.mpr ⟨fun z hz => ?_, h⟩
     rcases asX.mp hz with rfl | hz
     . exact e
     . exact Int.le_trans e (h1 z hz)
   . rename_i e
     refine auA.mpr ⟨fun z hz => ?_, FH x h2⟩
     rcases asX.mp ((insI_perm x l).mem_iff.mp hz) with rfl | hz
     . omega
     . exact h1 z hz
theorem ud : ∀ l, (sortI l).Pairwise (· <= ·)
 | [] => .nil
 | x :: l => FH x (ud l)
theorem FI : ∀ {a b : Q.e}, a.Perm b -> a.Pairwise (· <= ·) -> b.Pairwise (· <= ·) -> a = b
 | [], b, p, _, _ => (List.nil_perm.mp p).symm
 | x :: a, [], p, _, _ => absurd p.length_eq Q.r
 | x :: a, y :: b, p, ha, hb => by
   obtain ⟨a1, a2⟩ := auA.mp ha
   obtain ⟨b1, b2⟩ := auA.mp hb
   have e : x = y := by
     have h1 : x ∈ y :: b := p.mem_iff.mp asT
     have h2 : y ∈ x :: a := p.mem_iff.mpr asT
     rcases asX.mp h1 with e | h1
     . exact e
     . rcases asX.mp h2 with e | h2
       . exact e.symm
       . exact Int.le_antisymm (a1 y h2) (b1 x h1)
   subst e
   rw [FI (List.Perm.cons_inv p) a2 b2]
theorem aa5 {l z : Q.e} (p : z.Perm l) (s : z.Pairwise (· <= ·)) : z = sortI l := FI (p.trans (sortI_perm l).symm) s (ud l)
theorem By : ∀ {us : Q.q} {ns : Q.e}, IntsAre us ns -> Vals (ns.map V.int) us
 | _, _, .nil => .nil
 | _, _, .cons n t r => .cons ⟨t, rfl⟩ (By r)
theorem Lz : vq X (.builtin "sorted") (fun xs H Q => ∃ p ns, xs = [.ref p] /\ vJ X.K H p (ns.map .int) /\ ns.length < 64 /\ ∀ l, H l = none -> Q (.ref l) (upd H l (.lst ((sortI ns).map .int)))) := by
 intro pins s σ H xs us Q I r h
 obtain ⟨p, ns, rfl, hq, hl, q⟩ := h
 obtain ⟨u, rfl, rx⟩ := vals1 r
 cases rx
 obtain ⟨its, r', pl, hz⟩ := I.list hq
 have hlen := r'.length
 rw [asG] at hlen
 refine sorted_ints pl.isList (intsAre_of r') Q.a fun out ns' a1 a2 a3 => ?_
 obtain ⟨e, he⟩ := sortedAll_at s.heap its out
 have e2 : ns' = sortI ns := aa5 a2 a3
 subst e2
 refine ⟨.ref Q.U, _, I.laid (t' := s.toks) (fun _ _ => sortedAll_old) (Nat.le_succ _) (show iP X.prog X.w _ _ _ (.lst ((sortI ns).map .int)) from ⟨?_, out.toList, e, By a1, ?_⟩), rfl, q _ (I.gQ.fresh (Nat.le_succ _))⟩
 . rw [asG, xQ]
   rw [asG] at hz
   exact hz
 . simpa using he
theorem LC : bootBuiltins "sorted" = some (.builtin "sorted") := Q.f
theorem XZ {l : Q.e} (h : aX K CL Z (l.map D.int) us) : us = l.map V.int := by
 refine aX.ind (P := fun ds us => ∀ l : List Int, ds = l.map D.int -> us = l.map V.int) ?_ ?_ h l rfl
 . intro l e
   cases l with
   | nil => rfl
   | cons => cases e
 . intro d v ds vs r _ i l e
   cases l with
   | nil => cases e
   | cons a l =>
     injection e with e1 e2
     subst e1
     rw [i l e2]
     cases r
     rfl
theorem ints_rep {K : Q.l} {Z : Hp} : ∀ (l : Q.e), aX K CL Z (l.map D.int) (l.map V.int)
 | [] => .nil
 | _ :: l => .cons (.int _) (ints_rep l)
theorem RT {l : Q.e} (hm : X.mg "sorted" = none) (h : eF X CL b e δ (.lst (l.map .int)) δ1) (hl : l.length < 64) (hg : Gl X "sorted") (hs : Q.V := by exact cE rfl) : dH X CL b (.Call (.Name "sorted" pp) [e] [] pos) δ (.lst (((sortI l).map D.int).map T.sh)) δ1 := fun H Z σ ts vs Q S k =>
 dS (vY Lz hg hm LC (dh fh iy hs) (he := hs)) (h H Z σ ts vs _ S fun v H1 Z1 z1 k1 S1 r => by
   cases r with
   | @lst a us _ hq rr =>
     have := XZ rr
     subst this
     refine ⟨a, l, rfl, hq, hl, fun p hp => ?_⟩
     obtain ⟨c, S2⟩ := (bY.Fz (ints_rep (sortI l)) S1).zk (g0 := []) Q.r hp
     exact k _ _ _ z1 (k1.trans c) S2)
theorem aiu {β : Type} {f : α -> β} {l : List α} {d : β} (h : (l.map f)[j]? = some d) : ∃ x, d = f x /\ l[j]? = some x /\ x ∈ l /\ j < l.length /\ l.drop j = x :: l.drop (j + 1) /\ l.take (j + 1) = l.take j ++ [x] := by
 rw [atf] at h
 cases hx : l[j]? with
 | none => rw [hx] at h; cases h
 | some x =>
   rw [hx] at h
   cases h
   have hj : j < l.length := (atl.mp hx).1
   have e : l[j] = x := (atl.mp hx).2
   exact ⟨x, rfl, rfl, atB hx, hj, by rw [auQ hj, e], by rw [auC, hx]; rfl⟩
def D.at1 : L3.D -> L3.D
 | .tup (a :: _) => a
 | d => d
theorem X3 (f : α -> L3.D) (z : α) (l : List α) : HD (l.map f) = (List.range l.length).map fun (i : Nat) => L3.D.tup [.int i, f (l.getD i z)] := by
 unfold HD
 rw [asG]
 apply atU
 intro i hi
 have hi : i < l.length := atp.mp hi
 have : (l.map f).getD i .non = f (l.getD i z) := by
   rw [asU, asU, atf, as2 hi]
   rfl
 rw [this]
theorem Pb {f : α -> L3.D} {l : List α} (z : α) (hm : X.mg "enumerate" = none) (h : dH X CL b e δ (.sh (.lst (l.map f))) δ1) (hg : Gl X "enumerate") (hs : Q.V := by exact cE rfl) :
   GIt X CL b (.Tuple elts kk pt) (.Call (.Name "enumerate" pr) [e] [] pc) δ ((List.range l.length).map fun (i : Nat) => L3.D.tup [.int i, f (l.getD i z)]) δ1 := by
 have := aea (elts := elts) (kk := kk) (pt := pt) (pr := pr) (pc := pc) hm h hg hs
 rwa [X3 f z l] at this
variable {ds : List L3.D}
def alA (K : Q.l) : R2 := fun x y H Q => ∃ l k xs, x = .ref l /\ y = .int k /\ vJ K H l xs /\ -(2 ^ 63) <= k /\ k < 2 ^ 63 /\ xs.length * k.toNat <= sizeLine ∧
 ∀ p, H p = none -> Q (.ref p) (upd H p (.lst (List.replicate k.toNat xs).flatten))
theorem aeb : vX X (binaryOp .Mult) (alA X.K) := by
 intro pins s σ H x y v u Q I rx ry h
 obtain ⟨l, k, xs, rfl, rfl, hH, h1, h2, hz, q⟩ := h
 cases rx
 obtain ⟨t, rfl⟩ := ry
 obtain ⟨its, r, pl, _⟩ := I.list hH
 have hl := r.length
 obtain ⟨⟨c1, dd, da1, sl⟩, e, hc, n, hd⟩ := pl.isList
 cases hc; cases hd
 have hlen : its.toArray.size * k.toNat <= sizeLine := by rw [atm, ← hl]; exact hz
 have aoC : ¬ its.toArray.size * k.toNat > (2 ^ 63 - 1) / 8 := by
   have : (sizeLine : Nat) <= (2 ^ 63 - 1) / 8 := by decide
   omega
 have aec : ¬ (!Builtin.List.listFitsIndex k) = true := by
   rw [fitsIndex_both h1 h2]
   exact as7
 have alB : ¬ Builtin.List.listTooLong (its.toArray.size * k.toNat) = true := by
   rw [aaz hlen]
   exact as7
 have aoD : List.foldl (fun x1 x2 => x1 ++ x2) #[] (List.replicate (if its.toArray.isEmpty = true then 0 else k.toNat) its.toArray) = (List.replicate k.toNat its).flatten.toArray := by
   have f0 : ∀ m : Nat, List.foldl (fun x1 x2 => x1 ++ x2) #[] (List.replicate m its.toArray) = (List.replicate m its).flatten.toArray := fun m => by
     have := foldl_rep its m []
     rw [aub] at this
     exact this
   rw [f0]
   cases its with
   | nil => simp
   | cons a r' => rw [asH Q.r]
 refine wpAny_binaryOp_repeat_ref (T := "list") (U := "int") Q.c ⟨_, e, rfl⟩ (fun s' => typeIs_int s' k t) noFill_list_mul F.fills_int_mul F.slot_int_rmul repeat_list F.slot_int_index.lookup
   (call_meets F.slot_int_rmul (typeIs_int s k t) F.entry_int_rmul (F.args_int_rmul_2 _ _) (lm_int_rmul_list_any k t l its.toArray n dd sl)
     ⟨e, rfl, ⟨_, e, rfl⟩, call_meets F.slot_list_mul ⟨_, e, rfl⟩ F.entry_list_mul (F.args_list_mul_2 _ _) (lm_list_mul_any l its.toArray n dd sl k t aec aoC alB) ⟨e, ?_⟩⟩)
 rw [aoD]
 exact ⟨.ref _, _, I.ak6 (t' := s.toks) (r.rep k.toNat) (by rw [len_rep, Nat.mul_comm]; exact hz), rfl, q _ I.fresh⟩
theorem aX.rep {K : Q.l} {Z : Hp} {ds : List L3.D} {vs : List V} (r : aX K CL Z ds vs) : ∀ k : Nat, aX K CL Z (List.replicate k ds).flatten (List.replicate k vs).flatten
 | 0 => .nil
 | k + 1 => by
   rw [at4, at4, auo, auo]
   exact aX.app r (aX.rep r k)
theorem aed {k : Int} (h1 : eF X CL b e1 δ (.lst ds) δ1) (h2 : eF X CL b e2 δ1 (.int k) δ2) (i1 : D.cV ds = true) (k1 : -(2 ^ 63) <= k) (k2 : k < 2 ^ 63) (hz : ds.length * k.toNat <= sizeLine) :
   dH X CL b (.BinOp e1 .Mult e2 pos) δ (.lst ((List.replicate k.toNat ds).flatten.map T.sh)) δ2 := fun H Z σ ts vs Q S kk =>
 dS (aaj aeb fh fh) (h1 H Z σ ts vs _ S fun v1 H1 Z1 z1 q1 S1 r1 => h2 H1 Z1 σ ts vs _ S1 fun v2 H2 Z2 z2 q2 S2 r2 => by
   have r1' := r1.mono q2
   cases r1' with
   | lst hq1 rr1 =>
     cases r2 with
     | int =>
       refine ⟨_, _, _, rfl, rfl, hq1, k1, k2, by rw [← rr1.length]; exact hz, fun p hp => ?_⟩
       have rc := aX.rep (aX.qa S2.tp i1 rr1) k.toNat
       obtain ⟨c, S4⟩ := (bY.Fz rc S2).zk (g0 := []) (by rw [asG, rc.length]) hp
       exact kk _ _ _ Q.w (q1.trans (q2.trans c)) S4)
theorem Pg {k : Str} (hm : ∃ u, X.mg x = some (.str k u)) (hg : Gl X x) (hd : Q.s := by decide) : dH X CL b Q.B δ (.sh (.str k)) δ := fun H Z σ ts vs Q S kk => by
 obtain ⟨u, hm⟩ := hm
 exact dS (GC (v := .str k) hg hm ⟨u, rfl⟩ hd) (kk _ H Z Q.j Q.j (S.push (.str k)))
theorem aX.agO {K : Q.l} {Z : Hp} : ∀ l : List Str, aX K CL Z (l.map .str) (l.map V.str)
 | [] => .nil
 | x :: l => .cons (.str x) (aX.agO l)
def GT (X : Cx) (x : Str) (l : Q.h) : Prop := ∃ a, X.mg x = some (.ref a) /\ ∀ H : Hp, Fp X.K H a (l.map V.str)
theorem BD (hm : GT X x l) (hg : Gl X x) (hd : Q.s := by decide) : dH X CL b Q.B δ (.sh (.tup (l.map .str))) δ := fun H Z σ ts vs Q S kk => by
 obtain ⟨a, hm, hs⟩ := hm
 exact dS (GC (v := .ref a) hg hm rfl hd) (kk _ H Z Q.j Q.j (S.push (.tup (hs Z) (aX.agO l))))
theorem V6 {od : Option Addr} {its : Array Value} {sl : Array (Option Value)} (h1 : X.mg x = some (.ref a)) (h2 : X.K.lookup a = some ⟨.type "tuple", od, .seq its n, sl⟩) (h3 : its.size <= sizeLine) (h4 : Vals (l.map V.str) its.toList) : GT X x l :=
 ⟨a, h1, fun H => .inr ⟨_, its, n, h2, rfl, rfl, h3, h4⟩⟩
def Kw (x y : Str) : Bool := !(Builtin.Str.occurrences y x 0 y.length 1).isEmpty
theorem FJ {i j : Str} (h1 : eF X CL b e1 δ (.str i) δ1) (h2 : eF X CL b e2 δ1 (.str j) δ2) (hm : behindInMarks .NotIn e2 = false) : xP X CL b (.Compare e1 [.NotIn] [e2] pos) δ (!Kw i j) δ2 /\ dH X CL b (.Compare e1 [.NotIn] [e2] pos) δ (.sh (.bl (!Kw i j))) δ2 :=
 Fy K7 h1 h2 rfl rfl (fun _ _ q => ⟨i, j, rfl, rfl, q⟩) hm
def Its (x : Str) : It := ⟨fun i _ => i < x.cps.size, fun i H v H' => H' = H /\ ∃ c, x.cps[i]? = some c /\ v = .str ⟨#[c]⟩, fun i _ => x.cps.size <= i⟩
theorem X4 (x : Str) (t : Tok) (it : Addr) : Turn P w K tg (Its x) [it] it (fun i h => h.IsStrIter it "str_ascii_iterator" x t i) where
 mem := by simp
 obj := fun i h st b hb => by
   have e : b = it := by simpa using hb
   subst e
   obtain ⟨o, e, c, d⟩ := st
   exact ⟨o, e, fun v z => by rw [d] at z; cases z⟩
 keep := fun i h h' st k => by
   obtain ⟨o, e, r⟩ := st
   exact ⟨o, k it Q.r o e, r⟩
 item := by
   intro X hP hw hK hc i pins s σ H E I hf st hg
   subst hP hw hK
   have hg : i < x.cps.size := hg
   obtain ⟨f0, f1, f2, f3, f4, f5⟩ := hf it Q.r
   refine wpAny_pyNext_ascii_item st (c := x.cps[i]) (by simp [hg]) fun h' Vw sb => ?_
   have I1 : Inv X pins σ H { s with heap := h', toks := s.toks + 1 } := I.turned (fun b o hb e => (sb.2 b hb).trans e) f0 f1 f3 f4 f5
   obtain ⟨o, e, c, d⟩ := id Vw
   exact ⟨_, rfl, OB (s := { s with heap := h', toks := s.toks + 1 }) e c d Q.c ⟨.str ⟨#[x.cps[i]]⟩, H, I1, ⟨_, rfl⟩, ⟨rfl, _, by simp [hg], rfl⟩, Vw, fun b hb => (hf b hb).1⟩⟩
 done := by
   intro X hP hw hK hc i pins s σ H E I hf st hg
   subst hP hw hK
   have hg : x.cps.size <= i := hg
   obtain ⟨f0, f1, f2, f3, f4, f5⟩ := hf it Q.r
   exact wpAny_pyNext_ascii_end (I.ok.hd hc) st (by simp [hg]) fun h' eb => ⟨rfl, I.turned (t' := s.toks) (fun b o hb e => eb b o hb e) f0 f1 f3 f4 f5⟩
 self := fun _ _ _ _ _ st h => wpAny_pyIter_striter_ascii st h
theorem X5 (x : Str) (t : Tok) (it : Addr) : Turn P w K tg (Its x) [it] it (fun i h => h.IsStrIter it "str_iterator" x t i) where
 mem := by simp
 obj := fun i h st b hb => by
   have e : b = it := by simpa using hb
   subst e
   obtain ⟨o, e, c, d⟩ := st
   exact ⟨o, e, fun v z => by rw [d] at z; cases z⟩
 keep := fun i h h' st k => by
   obtain ⟨o, e, r⟩ := st
   exact ⟨o, k it Q.r o e, r⟩
 item := by
   intro X hP hw hK hc i pins s σ H E I hf st hg
   subst hP hw hK
   have hg : i < x.cps.size := hg
   obtain ⟨f0, f1, f2, f3, f4, f5⟩ := hf it Q.r
   refine wpAny_pyNext_wide_item st (c := x.cps[i]) (by simp [hg]) fun h' Vw sb => ?_
   have I1 : Inv X pins σ H { s with heap := h', toks := s.toks + 1 } := I.turned (fun b o hb e => (sb.2 b hb).trans e) f0 f1 f3 f4 f5
   obtain ⟨o, e, c, d⟩ := id Vw
   exact ⟨_, rfl, OB (s := { s with heap := h', toks := s.toks + 1 }) e c d Q.c ⟨.str ⟨#[x.cps[i]]⟩, H, I1, ⟨_, rfl⟩, ⟨rfl, _, by simp [hg], rfl⟩, Vw, fun b hb => (hf b hb).1⟩⟩
 done := by
   intro X hP hw hK hc i pins s σ H E I hf st hg
   subst hP hw hK
   have hg : x.cps.size <= i := hg
   obtain ⟨f0, f1, f2, f3, f4, f5⟩ := hf it Q.r
   exact wpAny_pyNext_wide_end (I.ok.hd hc) st (by simp [hg]) fun h' eb => ⟨rfl, I.turned (t' := s.toks) (fun b o hb e => eb b o hb e) f0 f1 f3 f4 f5⟩
 self := fun _ _ _ _ _ st h => wpAny_pyIter_striter_wide st h
def aoF (tl : TE) : TI := fun σ H R => tl σ H fun v H1 => ∃ x, v = .str x /\ R (Its x) H1
theorem aiv {l : Expr} {tl : TE} (hl : PE X l tl) : PI X tg l (aoF tl) := by
 intro pins s σ H R I h
 refine gK (hl pins s σ H _ I h) fun v s1 zz => ?_
 obtain ⟨y, H1, I1, r1, q1⟩ := zz
 obtain ⟨x, e, q⟩ := q1
 subst e
 obtain ⟨t, rfl⟩ := r1
 cases ha : x.cps.all (· < 128) with
 | true =>
   refine wpAny_pyIter_ascii ha ?_
   refine ⟨s1.heap.objs.size, [s1.heap.objs.size], _, _, H1, rfl, I1.kept (t' := s1.toks) fun b o e => as6 _ e, X4 x t _, ⟨_, atz _ rfl, rfl, rfl⟩, fun b hb => ?_, q⟩
   have e : b = s1.heap.objs.size := by simpa using hb
   subst e
   exact I1.K6 (as3 _) (I1.gQ.fresh (as3 _))
 | false =>
   refine wpAny_pyIter_wide ha ?_
   refine ⟨s1.heap.objs.size, [s1.heap.objs.size], _, _, H1, rfl, I1.kept (t' := s1.toks) fun b o e => as6 _ e, X5 x t _, ⟨_, atz _ rfl, rfl, rfl⟩, fun b hb => ?_, q⟩
   have e : b = s1.heap.objs.size := by simpa using hb
   subst e
   exact I1.K6 (as3 _) (I1.gQ.fresh (as3 _))
def pF (x : Str) : List L3.D := x.cps.toList.map fun c => .str ⟨#[c]⟩
theorem Ph (l : List Nat) : aX K CL Z (l.map fun c => L3.D.str ⟨#[c]⟩) (l.map fun c => V.str ⟨#[c]⟩) := by
 induction l with
 | nil => exact .nil
 | cons c l ih => exact .cons (.str _) ih
theorem aiw (h : dH X CL b iter δ (.sh (.str x)) δ1) : TIt X CL b tg iter δ (pF x) δ1 := by
 refine ⟨_, aiv fh, fun H Z σ ts vs R S k => h H Z σ ts vs _ S fun v H1 Z1 z1 k1 S1 => ?_⟩
 obtain ⟨fp, gp, _, r, _, _⟩ := S1.rep
 cases r with
 | cons r _ =>
   cases r with
   | sh r =>
     cases r with
     | str =>
       refine ⟨x, rfl, k _ _ ⟨Z1, _, z1, k1, S1.pop, Ph _, fun i H2 s hi => ?_, fun i H2 y H' s hi hy => ⟨hy.1, ?_⟩, fun H2 s => ?_⟩⟩
       . show i < x.cps.size
         simpa [pF] using hi
       . obtain ⟨c, hc, rfl⟩ := hy.2
         simp [hc]
       . show x.cps.size <= (pF x).length
         simp [pF]
def aoG : V -> Option Int -> Option Int -> Hp -> VK -> Prop := fun x lo hi H Q => ∃ z, x = .str z /\ z.length <= sizeLine /\ Q (.str (Txt.slice z lo hi)) H
theorem aix : SlR X aoG := by
 intro pins s σ H x v vl vu lo hi sl Q I rx hs pl pu h
 obtain ⟨z, rfl, hz, q⟩ := h
 obtain ⟨t, rfl⟩ := rx
 obtain ⟨o, ho, hc, hd⟩ := hs
 have fin : ∀ t' k, EP X pins σ Q (.str (Txt.slice z lo hi) t') { s with toks := k } := fun t' k => ⟨.str _, H, I.tok k, ⟨t', rfl⟩, q⟩
 refine ⟨"str", _, F.slot_str_getitem.lookup, typeIs_str _ _ _, ?_⟩
 cases pl with
 | none =>
   cases pu with
   | none => exact auv (l := none) (u := none) (st := none) ⟨o, ho, hc, hd⟩ rfl (post_val_or_str ⟨asS (auG z _ _) hz, fin⟩)
   | int j uj => exact auv (l := none) (u := some (j, uj)) (st := none) ⟨o, ho, hc, hd⟩ rfl (post_val_or_str ⟨asS (auG z _ _) hz, fin⟩)
 | int i ui =>
   cases pu with
   | none => exact auv (l := some (i, ui)) (u := none) (st := none) ⟨o, ho, hc, hd⟩ rfl (post_val_or_str ⟨asS (auG z _ _) hz, fin⟩)
   | int j uj => exact auv (l := some (i, ui)) (u := some (j, uj)) (st := none) ⟨o, ho, hc, hd⟩ rfl (post_val_or_str ⟨asS (auG z _ _) hz, fin⟩)
theorem DW {lo hi : Option Expr} {l h : Option Int} {z : Str} (h1 : eF X CL b e δ (.str z) δ1) (hz : z.length <= sizeLine) (h2 : TOv X CL b lo δ1 l δ2) (h3 : TOv X CL b hi δ2 h δ3) : dH X CL b (.Subscript e (.Slice lo hi none p2) pos) δ (.sh (.str (Txt.slice z l h))) δ3 := fun H Z σ ts vs Q S k => by
 obtain ⟨t2, po2, w2⟩ := h2
 obtain ⟨t3, po3, w3⟩ := h3
 refine dS (OJ aix fh po2 po3) (h1 H Z σ ts vs _ S fun v H1 Z1 z1 k1 S1 r => w2 H1 Z1 σ ts vs _ S1 fun H2 Z2 z2 k2 S2 => w3 H2 Z2 σ ts vs _ S2 fun H3 Z3 z3 k3 S3 => ?_)
 exact ⟨z, r.sc rfl, hz, k _ H3 Z3 (z1.trans (z2.trans z3)) (k1.trans (k2.trans k3)) (S3.push (.str _))⟩
theorem c0 {arg : A -> List L3.D} {Pre : A -> Prop} {res : A -> T} (a : A) (F : Fc X CL x k n arg Pre res) (hg : Gl X x) (ha : arg a = []) (hp : Pre a) (hc : (res a).clean = true) (hn : (arg a).length = n := by rfl)
   (Bh : Q.s := by decide) : dH X CL b (.Call (.Name x pp) [] [] pos) δ (res a) δ := by
 obtain ⟨f, fd, ps, F1, m, kk, bb⟩ := F.ex
 intro H Z σ ts vs Q S k
 refine dS (aas F1 F.room hg m kk bb .nil OS Bh) ?_
 refine ⟨H, a, .refl _, fun _ _ q _ => q, by rw [ha]; exact .nil, hn, hp, S.aaI, fun v H' W' fp hh ww wh nw tp rt nd own => ?_⟩
 obtain ⟨Z', z', S'⟩ := S.back hh S.zh ww wh nw tp rt nd own (.inr hc)
 exact k v H' Z' z' hh S'
def aiy : Key -> D
 | .inl i => .int i
 | .inr x => .str x
def LD (b8 : List (Key × D)) (k : Key) : Option D := (b8.find? fun kv => decide (kv.1 = k)).map (·.2)
def HF (b8 : List (Key × D)) (k : Key) (d : D) : List (Key × D) :=
 if (b8.any fun kv => decide (kv.1 = k)) = true then b8.map (fun kv => if kv.1 = k then (kv.1, d) else kv) else b8 ++ [(k, d)]
variable {d : D} {b8 : List (Key × D)}
theorem cO.length {b8 : List (Key × D)} (h : cO K CL Z b8 gs) : b8.length = gs.length :=
 cO.ind (P := fun b8 gs => b8.length = gs.length) rfl (fun _ _ i => congrArg (· + 1) i) h
theorem cO.val {k : Key} : ∀ {b8 : List (Key × D)} {gs : List (Key × V)}, cO K CL Z b8 gs -> (LD b8 k = none /\ zj gs k = none) \/ ∃ d v, LD b8 k = some d /\ zj gs k = some v /\ cC K CL Z d v
 | _, _, .nil => .inl ⟨rfl, rfl⟩
 | _, _, .cons (x := x) (d := d) (v := v) h r => by
   by_cases e : x = k
   . exact .inr ⟨d, v, by simp [LD, e], Bq e, h⟩
   . rcases cO.val (k := k) r with ⟨h1, h2⟩ | ⟨d', v', h1, h2, h3⟩
     . exact .inl ⟨by simpa [LD, e] using h1, by rw [v5 e]; exact h2⟩
     . exact .inr ⟨d', v', by simpa [LD, e] using h1, by rw [v5 e]; exact h2, h3⟩
theorem cO.any {k : Key} : ∀ {b8 : List (Key × D)} {gs : List (Key × V)}, cO K CL Z b8 gs -> (b8.any fun kv => decide (kv.1 = k)) = (gs.any fun kv => decide (kv.1 = k))
 | _, _, .nil => rfl
 | _, _, .cons _ r => by rw [atW, atW, cO.any r]
theorem cO.repl {k : Key} (q : cC K CL Z d v) : ∀ {b8 : List (Key × D)} {gs : List (Key × V)}, cO K CL Z b8 gs -> cO K CL Z (b8.map (fun kv => if kv.1 = k then (kv.1, d) else kv)) (gs.map (fun kv => if kv.1 = k then (kv.1, v) else kv))
 | _, _, .nil => .nil
 | _, _, .cons (x := x) h r => by
   rw [atg, atg]
   by_cases e : x = k
   . rw [asM e, asM e]; exact .cons q (cO.repl q r)
   . rw [asH e, asH e]; exact .cons h (cO.repl q r)
theorem cO.snoc {k : Key} (q : cC K CL Z d v) : ∀ {b8 : List (Key × D)} {gs : List (Key × V)}, cO K CL Z b8 gs -> cO K CL Z (b8 ++ [(k, d)]) (gs ++ [(k, v)])
 | _, _, .nil => .cons q .nil
 | _, _, .cons h r => .cons h (cO.snoc q r)
theorem cO.put {k : Key} (q : cC K CL Z d v) (r : cO K CL Z b8 gs) : cO K CL Z (HF b8 k d) (putK gs k v) := by
 unfold HF putK
 rw [r.any]
 split
 . exact r.repl q
 . exact r.snoc q
theorem cC.key {k : Key} (r : cC K CL Z (aiy k) v) : v = kV k := by
 cases k with
 | inl i => exact r.sc rfl
 | inr x => exact r.sc rfl
theorem bY.aiz {p : Addr} (S : Q.K) (hp : H p = none) : aR H (upd H p (.dK [])) /\ bY K CL b (upd H p (.dK [])) Z δ σ (.vt [] :: ts) (.ref p :: vs) := by
 obtain ⟨fp, gp, e, r, nd, k⟩ := S.rep
 have zp : Z p = none := S.zh.free hp
 have sh : aR H (upd H p (.dK [])) := aR.upd hp
 have keep : ∀ a ∈ fp ++ gp, a ≠ p := fun a ha => by
   have : ∃ o, H a = some o := by
     rcases asQ.mp ha with h | h
     . exact e.there a h
     . exact r.there a h
   obtain ⟨o, q⟩ := this
   exact cJ q hp
 refine ⟨sh, ⟨⟨fp, [p] ++ gp, e.mono Q.j (fun a ha => aP (keep a (asL _ ha))), .cons (.vt bR .nil) (r.mono Q.j fun a ha => aP (keep a (by simp [ha]))), ?_, fun a ha => ?_⟩, S.bh.trans sh, S.zz, S.zh.trans sh, S.new, fun a o q i => ?_, S.tab⟩⟩
 . refine (aue (l₁ := fp) (l₂ := gp) (a := p)).nodup_iff.mpr (atL.mpr ⟨fun h => keep p h rfl, nd⟩)
 . rcases asX.mp ((aue (l₁ := fp) (l₂ := gp) (a := p)).mem_iff.mp ha) with h | h
   . subst h; exact ⟨zp, S.bh.free hp⟩
   . exact k a h
 . by_cases ha : a = p
   . subst ha; rw [bR] at q; cases q; cases i
   . rw [aP ha] at q; exact S.tp a o q i
theorem bY.aiA (k : Key) (S : bY K CL b H Z δ σ (.sh d :: ts) (v :: vs)) (hi : δ[i]? = some (some (.vt b8))) :
   ∃ a gs, σ[i]? = some (some (.ref a)) /\ H a = some (.dK gs) /\ gs.length = b8.length /\ bY K CL b (upd H a (.dK (putK gs k v))) Z (δ.set i (some (.vt (HF b8 k d)))) σ ts vs := by
 obtain ⟨fp, gp, e, r, nd, kk⟩ := S.rep
 obtain ⟨v0, f1, f2, f3, hv, v8, rt, put, _⟩ := e.get hi
 subst v8
 cases rt with
 | @vt a gs _ ha rs =>
   cases r with
   | @cons _ _ _ _ ft gr q1 q2 =>
     cases q1 with
     | sh q1 =>
       have ne : ∀ c ∈ (f1 ++ f3) ++ gr, c ≠ a := fun c hc e => by
         subst e
         have hp : ((f1 ++ ([c] ++ f3)) ++ ([] ++ gr)).Perm (c :: ((f1 ++ f3) ++ gr)) := by
           rw [aub, List.singleton_append]
           exact (aue.append_right _)
         exact (atL.mp (hp.nodup_iff.mp nd)).1 hc
       refine ⟨a, gs, hv, ha, rs.length.symm, ?_⟩
       have r1 : cL K CL (upd H a (.dK (putK gs k v))) Z (.vt (HF b8 k d)) (.ref a) [a] := .vt bR (rs.put q1)
       have e2 := put (H' := upd H a (.dK (putK gs k v))) Q.j (fun c hc => aP (ne c (by
         rcases asQ.mp hc with h | h
         . simp [h]
         . simp [h]))) r1
       rw [iQ hv] at e2
       exact S.RM rfl kk Q.r e2 (q2.mono Q.j fun c hc => aP Q.T) nd fun c hc => hc
section
variable {d : L3.D} {D : gX} {ps : Pos} {b8 : List (Key × L3.D)} {k : Key}
theorem aee : dH X CL b (.Dict [] [] pos) δ (.vt []) δ := fun H Z σ ts vs Q S kk => dS aaF fun p hp => by
 obtain ⟨c, S1⟩ := S.aiz hp
 exact kk _ _ Z Q.j c S1
theorem aiB (k : Key) (hu : X.A.units + 64 < cLine) (n : Vn X i x) (h : dH X CL b e δ (.sh d) δ1) (h2 : eF X CL b e2 δ1 (aiy k) δ1) (h1 : δ1[i]? = some (some (.vt b8))) (hl : b8.length <= 1000000) (kk : dY X CL b fP (δ1.set i (some (.vt (HF b8 k d)))) D)
   (hs : swapsWith e (some (.Subscript (.Name x pp) e2 ps)) pos.line X.env = pure false := by rfl) :
   dY X CL b (.Assign [.Subscript (.Name x pp) e2 ps] e pos :: fP) δ D := c9 fun H Z σ ts vs E S M =>
 v7 (adL Q.a (ow n.hi n.hv n.hd n.rE) fh fh hs) (h H Z σ ts vs _ S fun v H1 Z1 z1 k1 S1 => by
   obtain ⟨v0, e0, _⟩ := S1.look h1
   refine ⟨v0, e0, h2 H1 Z1 σ _ _ _ S1 fun v2 H2 Z2 z2 k2 S2 r2 => ?_⟩
   obtain ⟨a, gs, ea, ha, hg, S3⟩ := S2.aiA k h1
   rw [e0] at ea
   cases ea
   exact ⟨a, _, rfl, by rw [r2.key]; exact aaD.k ha (by rw [hg]; exact auz hl (by rw [atP]; decide)), M.nx _ σ _ Z2 Q.w S3 kk⟩)
theorem aa6 (rr : cO K CL Z b8 gs) : (zj gs k).isSome = (LD b8 k).isSome := by
 rcases rr.val (k := k) with ⟨h0, h1⟩ | ⟨d', v', h0, h1, _⟩
 . rw [h0, h1]; rfl
 . rw [h0, h1]; rfl
end
variable {w : V} {f : Str} {ZS : List (Str × T)}
theorem eO.aef {ft : Q.p} (rt : cL K CL H Z t v ft) : ∀ {Pj : List (Str × T)} {gs : List (Str × V)} {fp : Q.p}, eO K CL H Z (Pj ++ (f, .sh (.val v)) :: ZS) gs fp -> ∃ VY, eO K CL H Z (Pj ++ (f, t) :: ZS) gs VY /\ VY.Perm (fp ++ ft)
 | [], _, _, r => by
   cases r with
   | @cons _ _ v' _ _ f1 gp h r =>
     cases h with
     | sh h =>
       cases h
       exact ⟨ft ++ gp, .cons rt r, atj⟩
 | (y, u) :: Pj, _, _, r => by
   cases r with
   | @cons _ _ v' _ _ f1 gp h r =>
     obtain ⟨VY, r', p⟩ := eO.aef rt (Pj := Pj) r
     refine ⟨f1 ++ VY, .cons h r', ?_⟩
     rw [asO]
     exact p.append_left f1
theorem bY.aef {Pj : List (Str × T)} (S : bY K CL b H Z δ σ (.ins c (Pj ++ (f, .sh (.val v)) :: ZS) :: t :: ts) (w :: v :: vs)) : bY K CL b H Z δ σ (.ins c (Pj ++ (f, t) :: ZS) :: ts) (w :: vs) := by
 obtain ⟨fp, gp, e, r, nd, k⟩ := S.rep
 cases r with
 | @cons _ _ _ _ g1 g2 r1 r2 =>
   cases r2 with
   | @cons _ _ _ _ g3 g4 r3 r4 =>
     cases r1 with
     | @ins a dx _ gs _ fp1 ha rf =>
       obtain ⟨VY, rf', p⟩ := eO.aef r3 rf
       have pm : (fp ++ ((a :: VY) ++ g4)).Perm (fp ++ ((a :: fp1) ++ (g3 ++ g4))) := by
         refine atD fp ?_
         rw [← asO]
         refine List.Perm.append_right g4 ?_
         rw [att]
         exact List.Perm.cons a p
       exact ⟨⟨fp, (a :: VY) ++ g4, e, .cons (.ins ha rf') r4, pm.nodup_iff.mpr nd, fun c hc => k c (pm.mem_iff.mp hc)⟩, S.bh, S.zz, S.zh, S.new, S.tp, S.tab⟩
def PAv (X : Cx) (CL : Q.g) (b : Bx) (es : List Expr) (δ : Q.n) (dv : V -> List D) (t : T) (δ' : Q.n) : Prop :=
 ∀ (H Z : Hp) (σ : L2.St) (ts : List T) (vs : List V) (Q : List V -> Hp -> Prop), bY X.K CL b H Z δ σ ts vs →
   (∀ us H' Z' v, aR Z Z' -> aR H H' -> bY X.K CL b H' Z' δ' σ (t :: ts) (v :: vs) -> aX X.K CL H' (dv v) us -> Q us H') -> Lf X es σ H Q
theorem T.HG {f : Str} {v : V} {ZS : List (Str × T)} (h2 : T.cM ZS = true) : ∀ {Pj : List (Str × T)}, T.cM Pj = true -> T.cM (Pj ++ (f, .sh (.val v)) :: ZS) = true
 | [], _ => by rw [aub, T.cM, h2]; rfl
 | (x, t) :: Pj, h => by
   rw [T.cM, asZ] at h
   rw [att, T.cM, h.1, T.HG h2 h.2]; rfl
variable {ds : List D} {d : D} {dv : V -> List D}
theorem aa7 (h : Q.Q) (r : BAv X CL b es δ1 ds δ2) (hs : notStar e = true := by rfl) : PAv X CL b (e :: es) δ (fun v => .val v :: ds) t δ2 := fun H Z σ ts vs Q S k =>
 J2 (dh fh VL (cE hs)) (h H Z σ ts vs _ S fun v H1 Z1 z1 k1 S1 => r H1 Z1 σ _ _ _ S1 fun us H2 Z2 z2 k2 S2 r2 => k (v :: us) H2 Z2 v Q.w Q.D S2 (.cons (.val v) r2))
theorem Pk (h : eF X CL b e δ d δ1) (r : PAv X CL b es δ1 dv t δ2) (hs : notStar e = true := by rfl) : PAv X CL b (e :: es) δ (fun v => d :: dv v) t δ2 := fun H Z σ ts vs Q S k =>
 J2 (dh fh VL (cE hs)) (h H Z σ ts vs _ S fun v H1 Z1 z1 k1 S1 r1 => r H1 Z1 σ ts vs _ S1 fun us H2 Z2 v2 z2 k2 S2 r2 => k (v :: us) H2 Z2 v2 Q.w Q.D S2 (.cons (r1.mono k2) r2))
variable {arg : A -> List D} {Pre : A -> Prop}
theorem mkP {res : A -> List (Str × T)} (a : V -> A) {Pj : List (Str × T)} (F : Fm X CL x k n arg Pre res) (hg : Gl X x) (h : PAv X CL b (e :: es) δ dv t δ1) (ha : ∀ v, arg (a v) = dv v) (hp : ∀ v, Pre (a v)) (hr : ∀ v, res (a v) = Pj ++ (f, .sh (.val v)) :: ZS) (hc : T.cM Pj = true) (hc2 : T.cM ZS = true) (hn : ∀ v, (arg (a v)).length + 1 = n := by exact fun _ => rfl)
   (Bh : Q.s := by decide) (he : Q.O := by exact cE rfl) (hpl : Q.W := by rfl) :
   dH X CL b Q.an δ (.ins x (Pj ++ (f, t) :: ZS)) δ1 := fun H Z σ ts vs Q S kk => by
 obtain ⟨f', fd, ps, M, F1, hm, hb⟩ := F.ex
 exact dS (VD M F1 F.room hg hm hb .nil OS VL Bh he hpl) (h H Z σ ts vs _ S fun us H1 Z1 v z1 k1 S1 r y dx hx hdx ne => by
   rw [atw]
   refine ⟨H1, H1, a v, y, dx, us, rfl, hx, hdx, ne, rfl, .refl _, fun _ _ q _ => q, by rw [ha]; exact r, hn v, hp v, S1.aaI, fun H' W' fp hh ww wh nw tp rt nd own => ⟨rfl, ?_⟩⟩
   obtain ⟨Z', z', S'⟩ := S1.back hh S1.zh ww wh nw tp rt nd own (.inr (by rw [T.clean, hr]; exact T.HG hc2 hc))
   rw [hr] at S'
   exact kk _ H' Z' (z1.trans z') (k1.trans hh) S'.aef)
namespace Rv
theorem X6 : PySem.Slot "reversed" "__init__" "object.__init__" :=
 .of (owner := "object") (n := "__init__") (by rw [typeLookup_type, builtinLookup_eq_fast]; kernel_rfl) Q.d Q.d Q.d
   (by first | exact .inl Q.d | exact .inr Q.d) (by rw [isSubtype_type]; kernel_rfl)
theorem called : TypeCalled "reversed" "reversed.__new__" "object.__init__" :=
 ⟨by decide +kernel, by decide +kernel, ⟨_, _, PySem.F.mro_reversed⟩, PySem.F.made_reversed, by decide +kernel, PySem.F.sub_reversed_self, X6⟩
def obj (t : Addr) (i : Int) : Obj := { cls := .type "reversed", data := .fields #[.ref t, rawInt i] }
def Is (h : Heap) (a t : Addr) (i : Int) : Prop := ∃ o, h.get? a = some o /\ o.cls = .type "reversed" /\ o.data = .fields #[.ref t, rawInt i]
end Rv
variable {ι : Nat -> Nat}
def turned (ι : Nat -> Nat) (i j : Nat) : Nat -> Nat := fun k => if i <= k /\ k < j then ι (i + j - 1 - k) else ι k
theorem mkL (hi : X.N[i]? = some x) (h : X.env.scope.names.lookup x = some .local) (hf : X.fn x = true) (hd : Q.s := by decide) (hc : Q.ah := by decide) : Ln X i x := ⟨⟨hi, .inl h, hd, hc⟩, .inl h, .inl hf⟩
theorem mkC (hi : X.N[i]? = some x) (h : X.env.scope.names.lookup x = some .cell) (hf : X.fn x = true) (hd : Q.s := by decide) (hc : Q.ah := by decide) : Ln X i x := ⟨⟨hi, .inr (.inl h), hd, hc⟩, .inr h, .inl hf⟩
theorem alC {w : World} {f : Addr} {sp : Sp} (G : ic P w K mg base xO k f fd ps sp) (m : mg x = some (.ref f)) (q : PySem.W.keepIn K (.ref f) = true) (b : Binds K fd ps []) :
   ∃ f fd ps, ic P w K mg base xO k f fd ps sp /\ mg x = some (.ref f) /\ PySem.W.keepIn K (.ref f) = true /\ Binds K fd ps [] := ⟨_, _, _, G, m, q, b⟩
variable {px : Pos} {p : L3.D -> Bool} {g : L3.D -> T} {ds : List L3.D}
theorem alD (sc : sY X scope y Nc ix) : wj X scope [y] Nc ix := ⟨sc.kind, sc.Lj, sc.nd, sc.names, (fun x hx => by rw [ati] at hx; subst hx; exact sc.own), sc.frees, sc.hd, sc.ixs⟩
theorem alE (sc : sY X scope y Nc ix) (h : Block X CL scope Nc ifs elt δc ds p g) (h1 : (y == ("__debug__" : Str)) = false) (h2 : (y == ("__classdict__" : Str)) = false) : DU X CL scope Nc [y].length (.Name y px) part1 ifs elt δc ds p g := fun C s0 H0 f0 b' =>
 ⟨aaZ (i := 0) sc.nd (ait (by rw [sc.hd]; rfl) sc.own h1 h2), fun d hd => ⟨[d], rfl, rfl, (h C s0 H0 f0 b' d hd).1, (h C s0 H0 f0 b' d hd).2⟩⟩
theorem rK (sc : sY X scope y Nc ix) (hc : X.calm = true) (h : TIt X CL b (.Name y px) iter δ ds δ1) (hb : Q.aJ) (inner : Block X CL scope Nc ifs elt δc ds p g) (hlen : ds.length <= sizeLine)
   (hs : Q.al := by intro _; rfl) (h1 : (y == ("__debug__" : Str)) = false := by decide) (h2 : (y == ("__classdict__" : Str)) = false := by decide) : dH X CL b (.ListComp elt [⟨.Name y px, iter, ifs, 0⟩] scope pos) δ (.lst ((ds.filter p).map g)) δ1 :=
 Pa (xs := [y]) (alD sc) hc (agK h) hb (alE sc inner h1 h2) hlen hs
theorem LJ {D : gX} {gg : L3.D -> T} (g : Gx X) (n : Ln X i x) (sc : sY X scope y Nc ix) (h : TIt X CL b (.Name y px) iter δ ds δ1) (hb : (δc = OX δ1 ix /\ ∀ d ∈ ds, (gg d).clean = true) \/ δc = OY δ1 ix) (inner : Block X CL scope Nc ifs elt δc ds p gg)
   (hlen : ds.length <= sizeLine) (k : dY X CL b fP (δ1.set i (some (.lst ((ds.filter p).map gg)))) D) (hl : i < δ1.length)
   (OW : swapsWith (.ListComp elt [⟨.Name y px, iter, ifs, 0⟩] scope pc) (some (.Name x pos')) pos.line X.env = pure true \/ swapsWith (.ListComp elt [⟨.Name y px, iter, ifs, 0⟩] scope pc) (some (.Name x pos')) pos.line X.env = pure false) (hs : Q.al := by intro _; rfl)
   (h1 : (y == ("__debug__" : Str)) = false := by decide) (h2 : (y == ("__classdict__" : Str)) = false := by decide) : dY X CL b (.Assign [.Name x pos'] (.ListComp elt [⟨.Name y px, iter, ifs, 0⟩] scope pc) pos :: fP) δ D :=
 ais (xs := [y]) g n (alD sc) (agK h) hb (alE sc inner h1 h2) hlen k hl OW hs
variable {d : L3.D}
theorem aL (n : Ln X i x) (h : δ[i]? = some (some (.sh d)) := by rfl) : eF X CL b Q.B δ d δ := ai (v_ n.1 h)
structure cN (X : Cx) : Prop where
 g : Gx X
 u : X.A.units + 64 < cLine
abbrev aN (X : Cx) (CL : Q.g) (b : Bx) (st : Stmt) (N : Q.h) (l : List L3.D) (r : T) : Prop := dY X CL b (dW st) (entry N l) { nx := fun _ => r = .sh .non, rt := fun LK _ => LK = r }
abbrev aE : NameKind := .globalImplicit
abbrev aF : NameKind := .local
theorem bz {P : Q.h} {sc : Scope} (h1 : sc.kind = .function := by rfl) (h2 : sc.isCoroutine = false := by rfl) (h3 : sc.isGenerator = false := by rfl) (h4 : N.Nodup := by decide +kernel) (h5 : N.take P.length = P := by rfl) (h6 : ∀ x ∈ P, sc.names.lookup x = some .local \/ sc.names.lookup x = some .cell := by decide +kernel) (h7 : ∀ y ∈ sc.names, y.2 ≠ .free := by decide +kernel) : aY N P sc := ⟨h1, h2, h3, h4, h5, h6, h7⟩
variable {tb : List (Str × NameKind)}
theorem b4 (c : pM X.env.scope tb = true) (j : Nat) (hj : tb[j]? = some (x, .local) := by rfl) (hi : X.N[i]? = some x := by rfl) (hf : X.fn x = true := by rfl) (hd : Q.s := by decide) (hc : Q.ah := by decide) : Ln X i x := mkL hi (jk c j hj) hf hd hc
theorem frC (c : pM X.env.scope tb = true) (j : Nat) (hj : tb[j]? = some (x, .cell) := by rfl) (hi : X.N[i]? = some x := by rfl) (hf : X.fn x = true := by rfl) (hd : Q.s := by decide) (hc : Q.ah := by decide) : Ln X i x := mkC hi (jk c j hj) hf hd hc
theorem cG (c : pM X.env.scope tb = true) (j : Nat) (hj : tb[j]? = some (x, .globalImplicit) := by rfl) : Gl X x := jk c j hj
theorem cX {m : Nat} {arg : A -> List D} {Pre : A -> Prop} {res : A -> T} (F : ∃ f fd ps, ic X.prog X.w X.K X.mg X.base xO k f fd ps (XO X.K CL n arg Pre res) /\ X.mg x = some (.ref f) /\ PySem.W.keepIn X.K (.ref f) = true /\ Binds X.K fd ps []) (r : jD m X.A) (h : k <= m := by decide) : Fc X CL x k n arg Pre res := ⟨F, r.mono h⟩
variable {δ' : Q.n} {σ' : L2.St} {y : Addr}
theorem bY.alF (S : Q.K) (hi : δ[i]? = some (some (.pin y t))) : σ[i]? = some (some (.ref y)) /\ bY K CL b H Z (δ.set i (some t)) σ ts vs := by
 obtain ⟨fp, gp, e, r, nd, k⟩ := S.rep
 obtain ⟨v0, f1, f2, f3, hv, v8, rt, put, _⟩ := e.get hi
 subst v8
 cases rt with
 | pin rt =>
   have e2 := put Q.j (fun _ _ => rfl) rt
   rw [iQ hv] at e2
   exact ⟨hv, ⟨⟨_, gp, e2, r, nd, k⟩, S.bh, S.zz, S.zh, S.new, S.tp, S.tab⟩⟩
def HJ (H : Hp) (gp : Q.p) : Hp := fun c => if c ∈ gp then none else H c
theorem qO {c : Addr} (h : c ∉ gp) : HJ H gp c = H c := asH h
theorem GF {c : Addr} (h : c ∈ gp) : HJ H gp c = none := asM h
theorem xR {c : Addr} {o : HO} (h : HJ H gp c = some o) : c ∉ gp /\ H c = some o := by
 by_cases hc : c ∈ gp
 . rw [GF hc] at h; cases h
 . rw [qO hc] at h; exact ⟨hc, h⟩
theorem bY.cut (S : bY K CL b H Z δ σ (tl ++ ts) (us ++ vs)) (hl : tl.length = us.length) : ∃ gp, bJ K CL H Z tl us gp /\ gp.Nodup /\ bY K CL b (HJ H gp) Z δ σ ts vs := by
 obtain ⟨fp, g, e, r, nd, k⟩ := S.rep
 obtain ⟨g1, g2, rfl, r1, r2⟩ := bJ.split hl r
 have hp : (fp ++ (g1 ++ g2)).Perm (g1 ++ (fp ++ g2)) := by
   rw [← asO, ← asO]
   exact atj.append_right g2
 have V7 := atr.mp (hp.nodup_iff.mp nd)
 have ne : ∀ c ∈ fp ++ g2, c ∉ g1 := fun c hc h => V7.2.2 c h c hc rfl
 have own : ∀ c ∈ g1, Z c = none /\ b.B c = none := fun c hc => k c (asJ _ (asL _ hc))
 refine ⟨g1, r1, V7.1, ⟨⟨fp, g2, e.mono Q.j (fun c hc => qO (ne c (asL _ hc))), r2.mono Q.j (fun c hc => qO (ne c (asJ _ hc))), V7.2.1, fun c hc => k c (hp.mem_iff.mpr (asJ _ hc))⟩, fun c o q => ?_, S.zz, fun c o q => ?_, S.new, fun c o q im => S.tp c o (xR q).2 im, S.tab⟩⟩
 . rw [qO (fun h => by rw [(own c h).2] at q; cases q)]; exact S.bh c o q
 . rw [qO (fun h => by rw [(own c h).1] at q; cases q)]; exact S.zh c o q
theorem bY.alG {W' : Hp} (S : Q.K) (hh : aR H H') (ww : aR Z W') (wh : aR W' H') (new : ∀ a o, W' a = some o -> Z a = none -> H a = none)
   (tp : ∀ a o, H' a = some o -> pB o = true -> W' a = some o) (r : bJ K CL H' W' tl us fp) (nd : fp.Nodup) (own : ∀ a ∈ fp, W' a = none /\ H a = none) : bY K CL b H' W' δ σ (tl ++ ts) (us ++ vs) := by
 obtain ⟨f0, g0, e0, r0, nd0, k0⟩ := S.rep
 have old : ∀ a ∈ f0 ++ g0, ∃ o, H a = some o := fun a ha => (asQ.mp ha).elim (e0.there a) (r0.there a)
 have keep : ∀ a ∈ f0 ++ g0, H' a = H a := fun a ha => by
   obtain ⟨o, e⟩ := old a ha
   rw [e]; exact hh a o e
 have hp : (f0 ++ (fp ++ g0)).Perm (fp ++ (f0 ++ g0)) := by
   rw [← asO, ← asO]
   exact atj.append_right g0
 have wn : ∀ a ∈ f0 ++ g0, W' a = none := fun a ha => by
   cases q : W' a with
   | none => rfl
   | some o =>
     obtain ⟨u, e⟩ := old a ha
     rw [new a o q (k0 a ha).1] at e; cases e
 refine ⟨⟨f0, fp ++ g0, e0.mono ww (fun a ha => keep a (asL _ ha)), bJ.app r (r0.mono ww fun a ha => keep a (asJ _ ha)), ?_, fun a ha => ?_⟩, S.bh.trans hh, S.zz.trans ww, wh, fun a o q z => ?_, tp, S.tab⟩
 . refine hp.nodup_iff.mpr (atr.mpr ⟨nd, nd0, fun a ha c hc e => ?_⟩)
   subst e
   obtain ⟨o, q⟩ := old a hc
   rw [(own a ha).2] at q; cases q
 . rcases asQ.mp (hp.mem_iff.mp ha) with h | h
   . exact ⟨(own a h).1, RG S.bh (own a h).2⟩
   . exact ⟨wn a h, (k0 a h).2⟩
 . cases q2 : Z a with
   | none => exact RG S.bh (new a o q q2)
   | some u =>
     exact S.new a u q2 z
def aeg : List T -> List T -> Prop
 | [], [] => True
 | .sh d :: l, .sh e :: m => d = e /\ aeg l m
 | .pin x _ :: l, .pin z _ :: m => x = z /\ aeg l m
 | _, _ => False
def Keeps (δ : Q.n) (ol : List T) : Prop := ∀ (j : Nat) (y : Addr) (t : T), ol[j]? = some (T.pin y t) -> δ[j]? = some (some (T.pin y t))
theorem Keeps.tail {o : Option T} {d : T} {ol : List T} (k : Keeps (o :: δ) (d :: ol)) : Keeps δ ol := fun j y t h => k (j + 1) y t h
theorem fO.outs {W W' : Hp} (ww : aR W W') : ∀ {al ol : List T} {vs : List V} {g0 : Q.p} {δ : Q.n} {σ : L2.St} {fp : Q.p}, aeg al ol -> bJ K CL H W al vs g0 -> fO K CL H' W' δ σ fp -> Keeps δ ol -> ∃ g, bJ K CL H' W' ol vs g /\ g.Sublist fp
 | [], [], _, _, _, _, fp, _, .nil, _, _ => ⟨[], .nil, List.nil_sublist _⟩
 | .sh d :: al, .sh e :: ol, _, _, δ, σ, fp, ho, .cons (.sh r) rs, re, k => by
   obtain ⟨h1, h2⟩ := ho
   subst h1
   cases re with
   | nil =>
     obtain ⟨g, q, s⟩ := fO.outs ww h2 rs (.nil (H := H') (Z := W')) (fun j y t h => by have := k (j + 1) y t h; simp at this)
     exact ⟨[] ++ g, .cons (.sh (r.mono ww)) q, s⟩
   | skip re =>
     obtain ⟨g, q, s⟩ := fO.outs ww h2 rs re k.tail
     exact ⟨[] ++ g, .cons (.sh (r.mono ww)) q, s⟩
   | cons rt re =>
     obtain ⟨g, q, s⟩ := fO.outs ww h2 rs re k.tail
     exact ⟨[] ++ g, .cons (.sh (r.mono ww)) q, s.trans (atO _ _)⟩
 | .pin x t0 :: al, .pin z t :: ol, _, _, δ, σ, fp, ho, .cons (.pin r) rs, re, k => by
   obtain ⟨h1, h2⟩ := ho
   subst h1
   have h0 := k 0 x t rfl
   cases re with
   | nil => simp at h0
   | skip re => simp at h0
   | cons rt re =>
     simp at h0
     subst h0
     obtain ⟨g, q, s⟩ := fO.outs ww h2 rs re k.tail
     cases rt with
     | pin rt => exact ⟨_, .cons (.pin rt) q, atn (atq _) s⟩
def wk (N : Q.h) (al : List T) : List (Option T) := al.map some ++ List.replicate (N.length - al.length) none
theorem FL : ∀ {al : List T} {vs : List V} {gp : Q.p} (n : Nat), bJ K CL H Z al vs gp -> fO K CL H Z (al.map some ++ List.replicate n none) (vs.map some ++ List.replicate n none) gp
 | _, _, _, n, .nil => oz (ds := []) (vs := []) n .nil
 | _, _, _, n, .cons r t => .cons r (FL n t)
def spM (K : Q.l) (CL : Q.g) (n : Nat) (arg : A -> List T) (Pre : A -> Prop) (res : A -> T) (out : A -> List T) : Sp := fun vs H Q _ =>
 ∃ (W : Hp) (a : A) (gp : Q.p), aR W (HJ H gp) /\ (∀ c o, H c = some o -> pB o = true -> W c = some o) /\ bJ K CL H W (arg a) vs gp /\ gp.Nodup /\ (arg a).length = n /\ Pre a /\ pO CL W ∧
   ∀ v H' W' fp, aR (HJ H gp) H' -> aR W W' -> aR W' H' -> (∀ c o, W' c = some o -> W c = none -> HJ H gp c = none) -> (∀ c o, H' c = some o -> pB o = true -> W' c = some o) →
     bJ K CL H' W' (res a :: out a) (v :: vs) fp -> fp.Nodup -> (∀ c ∈ fp, W' c = none /\ HJ H gp c = none) -> Q v H'
theorem DX {w : World} {qual : Str} {f : Addr} {arg : A -> List T} {Pre : A -> Prop} {res : A -> T} {out : A -> List T} (F : oj K x qual st f fd) (S : aY N ps (az st)) (ho : ∀ a, Pre a -> aeg (arg a) (out a))
   (hb : ∀ (lu : Value) (Ar : Around) (outer : List Env) (s : Shared) (H : Hp) (E : XK) (b : Bx) (a : A), jD k Q.aL -> Pre a →
     dY (DN xO P w K mg base N qual (az st) f lu Ar outer s H E).nox CL b (dW st) (wk N (arg a)) { nx := fun δ => res a = .sh .non /\ Keeps δ (out a), rt := fun t δ => t = res a /\ Keeps δ (out a) }) :
   ic P w K mg base xO (k + 1) f fd ps (spM K CL ps.length arg Pre res out) := by
 refine F.ok S (fun vs H Q E h => ?_) (fun lu Ar outer s H vs Q E hr h => ?_)
 . obtain ⟨W, a, gp, _, _, r, _, hl, _⟩ := h
   rw [← r.length]; exact hl
 . obtain ⟨W, a, gp, wh, tp, r, nd, hl, hp, tb, kk⟩ := h
   have wn : ∀ c ∈ gp, W c = none := fun c hc => by
     cases q : W c with
     | none => rfl
     | some o => exact absurd hc (xR (wh c o q)).1
   refine ⟨_, XI, hb lu Ar outer s H E ⟨HJ H gp, W⟩ a hr hp H W _ [] [] _ ⟨⟨gp, [], ?_, .nil, by rw [atw]; exact nd, fun c hc => ?_⟩, fun c o q => (xR q).2, .refl _, fun c o q => (xR (wh c o q)).2, fun c o q z => ?_, tp, tb⟩ ⟨fun δ' σ' H' Z' s' S' e => ?_, fun t v H' Z' δ' σ' s' S' e => ?_, fun _ _ _ _ _ _ e => e.elim, fun _ _ _ _ _ _ e => e.elim⟩⟩
   . unfold wk L2.start
     rw [← r.length]
     exact FL _ r
   . rw [atw] at hc
     exact ⟨wn c hc, GF hc⟩
   . have q' : W c = some o := q
     have z' : W c = none := z
     rw [q'] at z'; cases z'
   . obtain ⟨e1, e2⟩ := e
     obtain ⟨fp, gq, re, r', V7, own⟩ := S'.rep
     obtain ⟨g, q, sb⟩ := fO.outs S'.zz (ho a hp) r re e2
     have nf := (atr.mp V7).1
     exact kk .non H' Z' ([] ++ g) S'.bh S'.zz S'.zh S'.new S'.tp (.cons (by rw [e1]; exact .sh .non) q) (nf.sublist sb) fun c hc => own c (asL _ (sb.subset hc))
   . obtain ⟨e1, e2⟩ := e
     subst e1
     obtain ⟨fp, gq, re, r', V7, own⟩ := S'.rep
     obtain ⟨g, q, sb⟩ := fO.outs S'.zz (ho a hp) r re e2
     cases r' with
     | @cons _ _ _ _ f1 f2 r1 r2 =>
       have sub : (g ++ f1).Sublist (fp ++ (f1 ++ f2)) := atn sb (List.sublist_append_left _ _)
       have pm : (f1 ++ g).Perm (g ++ f1) := atj
       exact kk v H' Z' (f1 ++ g) S'.bh S'.zz S'.zh S'.new S'.tp (.cons r1 q) (pm.nodup_iff.mpr (V7.sublist sub)) fun c hc => own c (sub.subset (pm.mem_iff.mp hc))
def AtS (σ : L2.St) : List Nat -> List Addr -> Prop
 | [], [] => True
 | i :: is, y :: ys => σ[i]? = some (some (.ref y)) /\ AtS σ is ys
 | _, _ => False
def yV : List T -> List Addr -> List T -> Prop
 | [], [], [] => True
 | .sh _ :: ol, ys, ns => yV ol ys ns
 | .pin y t :: ol, z :: ys, n :: ns => y = z /\ (n = t \/ n = .pin y t) /\ yV ol ys ns
 | _, _, _ => False
def aei : List (Option T) -> List Nat -> List T -> List (Option T)
 | δ, i :: is, n :: ns => aei (δ.set i (some n)) is ns
 | δ, _, _ => δ
theorem bY.aiC : ∀ {ol : List T} {us : List V} {is : List Nat} {ys : Q.p} {ns : List T} {δ : Q.n}, bY K CL b H Z δ σ (ol ++ ts) (us ++ vs) -> ol.length = us.length -> AtS σ is ys -> yV ol ys ns -> (∀ i ∈ is, i < δ.length) -> bY K CL b H Z (aei δ is ns) σ ts vs
 | [], [], [], [], [], δ, S, _, _, _, _ => S
 | [], [], _ :: _, [], _, δ, S, _, ha, _, _ => ha.elim
 | [], [], _ :: _, _ :: _, _, δ, S, _, _, hp, _ => by simp [yV] at hp
 | .pin _ _ :: _, _ :: _, [], _ :: _, _, δ, S, _, ha, _, _ => ha.elim
 | .pin _ _ :: _, _ :: _, [], [], _, δ, S, _, _, hp, _ => by simp [yV] at hp
 | .sh d :: ol, u :: us, is, ys, ns, δ, S, hl, ha, hp, hi => bY.aiC (ol := ol) (us := us) (ys := ys) S.pop (by simpa using hl) ha (by rw [yV] at hp; exact hp) hi
 | .pin y t :: ol, u :: us, i :: is, z :: ys, n :: ns, δ, S, hl, ha, hp, hi => by
   rw [yV] at hp
   obtain ⟨rfl, hn, hp⟩ := hp
   obtain ⟨ha0, ha⟩ := ha
   have hu : u = .ref y := by
     obtain ⟨_, _, _, r, _, _⟩ := S.rep
     cases r with
     | cons r _ => cases r; rfl
   subst hu
   have hi0 := hi i asT
   have S1 := S.set hi0
   rw [iQ ha0] at S1
   have S2 : bY K CL b H Z (δ.set i (some n)) σ (ol ++ ts) (us ++ vs) := by
     rcases hn with rfl | rfl
     . have := (S1.alF (at5 hi0)).2
       rwa [List.set_set] at this
     . exact S1
   rw [aei]
   exact bY.aiC S2 (by simpa using hl) ha hp fun j hj => by rw [List.length_set]; exact hi j (List.mem_cons_of_mem _ hj)
section
variable {D : gX} {is : List Nat} {fx : List Addr -> Prop} {al : List Addr -> List T}
def TEm (X : Cx) (CL : Q.g) (b : Bx) (e : Expr) (δ : Q.n) (t : T) (δ' : Q.n) : Prop :=
 ∀ (H Z : Hp) (σ : L2.St) (ts : List T) (vs : List V) (Q : VK), bY X.K CL b H Z δ σ ts vs -> (∀ v H' Z', aR Z Z' -> bY X.K CL b H' Z' δ' σ (t :: ts) (v :: vs) -> Q v H') -> Le X e σ H Q
theorem aa9 (h : TEm X CL b e δ t δ1) (k : D.nx δ1) (hs : swapsWith e none pos.line X.env = pure false := by rfl) : TSv X CL b (.Expr e pos) δ D := fun H Z σ ts vs E S M => v7 (Be fh hs) (h H Z σ ts vs _ S fun v H1 Z1 z1 S1 => M.nx δ1 σ H1 Z1 z1 S1.pop k)
def TMv (X : Cx) (CL : Q.g) (b : Bx) (es : List Expr) (δ : Q.n) (is : List Nat) (fx : List Addr -> Prop) (al : List Addr -> List T) (δ' : Q.n) : Prop :=
 ∀ (H Z : Hp) (σ : L2.St) (ts : List T) (vs : List V) (Q : List V -> Hp -> Prop), bY X.K CL b H Z δ σ ts vs →
   (∀ ys us H' Z', ys.length = is.length -> AtS σ is ys -> fx ys -> us.length = (al ys).length -> aR Z Z' -> aR H H' -> bY X.K CL b H' Z' δ' σ ((al ys).reverse ++ ts) (us.reverse ++ vs) -> Q us H') -> Lf X es σ H Q
theorem DY : TMv X CL b [] δ [] (fun _ => True) (fun _ => []) δ := fun H Z σ ts vs Q S k => J2 iy (k [] [] H Z rfl trivial trivial rfl Q.j Q.j S)
theorem HK (h1 : dH X CL b e δ (.sh d) δ1) (h2 : TMv X CL b es δ1 is fx al δ2) (hs : Q.O := by exact cE rfl) : TMv X CL b (e :: es) δ is fx (fun ys => .sh d :: al ys) δ2 := fun H Z σ ts vs Q S k =>
 J2 (dh fh VL hs) (h1 H Z σ ts vs _ S fun v H1 Z1 z1 k1 S1 => h2 H1 Z1 σ _ _ _ S1 fun ys us H2 Z2 hy ha hf hl z2 k2 S2 => k ys (v :: us) H2 Z2 hy ha hf (by simp [hl]) Q.w Q.D (by
   rw [atM, atM, asO, asO]
   exact S2))
def T.isRef : T -> Bool
 | .lst _ => true
 | .ins _ _ => true
 | .vt _ => true
 | .dct _ => true
 | _ => false
theorem bY.aiD (S : Q.af) (h : t.isRef = true) : ∃ y, v = .ref y /\ bY K CL b H Z δ σ (.pin y t :: ts) (.ref y :: vs) := by
 obtain ⟨fp, gp, e, r, nd, k⟩ := S.rep
 cases r with
 | cons r rs =>
   cases r with
   | sh r => cases h
   | tup r _ => cases h
   | pin r => cases h
   | lst r q => exact ⟨_, rfl, ⟨⟨fp, _, e, .cons (.pin (.lst r q)) rs, nd, k⟩, S.bh, S.zz, S.zh, S.new, S.tp, S.tab⟩⟩
   | ins r q => exact ⟨_, rfl, ⟨⟨fp, _, e, .cons (.pin (.ins r q)) rs, nd, k⟩, S.bh, S.zz, S.zh, S.new, S.tp, S.tab⟩⟩
   | vt r q => exact ⟨_, rfl, ⟨⟨fp, _, e, .cons (.pin (.vt r q)) rs, nd, k⟩, S.bh, S.zz, S.zh, S.new, S.tp, S.tab⟩⟩
   | dct r q => exact ⟨_, rfl, ⟨⟨fp, _, e, .cons (.pin (.dct r q)) rs, nd, k⟩, S.bh, S.zz, S.zh, S.new, S.tp, S.tab⟩⟩
theorem alI (n : Vn X i x) (h : δ[i]? = some (some t)) (ho : t.isRef = true) (h2 : TMv X CL b es (δ.set i none) is fx al δ2) (hs : starEach (.Name x pos :: es) X.env = (false, eval Q.B X.env) :: starEach es X.env := by exact cE rfl) :
   TMv X CL b (.Name x pos :: es) δ (i :: is) (fun ys => fx ys.tail) (fun ys => .pin (ys.headD 0) t :: al ys.tail) δ2 := fun H Z σ ts vs Q S k => by
 obtain ⟨v, e, S1⟩ := S.move h
 obtain ⟨y, rfl, S0⟩ := S1.aiD ho
 exact J2 (dh (ow n.hi n.hv n.hd n.rE) VL hs) ⟨_, e, h2 H Z σ _ _ _ S0 fun ys us H2 Z2 hy ha hf hl z2 k2 S2 => k (y :: ys) (.ref y :: us) H2 Z2 (by simp [hy]) ⟨e, ha⟩ hf (by simp [hl]) z2 k2 (by
   show bY _ _ _ _ _ _ _ ((T.pin y t :: al ys).reverse ++ ts) _
   rw [atM, atM, asO, asO]
   exact S2)⟩
theorem Pn (n : Vn X i x) (h : δ[i]? = some (some (.pin y t))) (h2 : TMv X CL b es (δ.set i none) is fx al δ2) (hs : starEach (.Name x pos :: es) X.env = (false, eval Q.B X.env) :: starEach es X.env := by exact cE rfl) :
   TMv X CL b (.Name x pos :: es) δ (i :: is) (fun ys => ys.headD 0 = y /\ fx ys.tail) (fun ys => .pin y t :: al ys.tail) δ2 := fun H Z σ ts vs Q S k => by
 obtain ⟨v, e, S1⟩ := S.move h
 have hv : v = .ref y := by
   obtain ⟨_, _, _, r, _, _⟩ := S1.rep
   cases r with
   | cons r _ => cases r; rfl
 subst hv
 exact J2 (dh (ow n.hi n.hv n.hd n.rE) VL hs) ⟨_, e, h2 H Z σ _ _ _ S1 fun ys us H2 Z2 hy ha hf hl z2 k2 S2 => k (y :: ys) (.ref y :: us) H2 Z2 (by simp [hy]) ⟨e, ha⟩ ⟨rfl, hf⟩ (by simp [hl]) z2 k2 (by
   show bY _ _ _ _ _ _ _ ((T.pin y t :: al ys).reverse ++ ts) _
   rw [atM, atM, asO, asO]
   exact S2)⟩
theorem abb {f : Addr} {arg : A -> List T} {Pre : A -> Prop} {res : A -> T} {out : A -> List T} (a : List Addr -> A) (ns : List T) (F : ic X.prog X.w X.K X.mg X.base xO k f fd ps (spM X.K CL n arg Pre res out)) (hr : jD k X.A) (hm : X.mg x = some (.ref f)) (hk : PySem.W.keepIn X.K (.ref f) = true) (hb : Binds X.K fd ps [])
   (h : TMv X CL b (e :: es) δ is fx al δ1) (ha : ∀ ys, ys.length = is.length -> fx ys -> arg (a ys) = al ys /\ (arg (a ys)).length = n /\ Pre (a ys) /\ res (a ys) = t /\ yV (out (a ys)) ys ns) (hil : ∀ i ∈ is, i < δ1.length) (hg : Gl X x)
   (Bh : Q.s := by decide) (he : Q.O := by exact cE rfl) (hpl : Q.W := by rfl) :
   TEm X CL b Q.an δ t (aei δ1 is ns) := fun H Z σ ts vs Q S kk =>
 dS (VC F hr hg hm hk hb .nil OS VL Bh he hpl) (h H Z σ ts vs _ S fun ys us H1 Z1 hly hat hf hlu z1 k1 S1 => by
   rw [atw]
   obtain ⟨ha1, ha2, hp, hrs, hpu⟩ := ha ys hly hf
   obtain ⟨g, r, nd, S2⟩ := S1.cut (by simp [hlu])
   obtain ⟨g', r', pm⟩ := r.rev
   have ec : HJ H1 g = HJ H1 g' := funext fun c => by
     by_cases hc : c ∈ g
     . rw [GF hc, GF (pm.mem_iff.mpr hc)]
     . rw [qO hc, qO (fun z => hc (pm.mem_iff.mp z))]
   rw [ec] at S2
   rw [← ha1] at r'
   refine ⟨Z1, a ys, g', S2.zh, S1.tp, r', pm.nodup_iff.mpr nd, ha2, hp, S1.ahZ, fun v H' W' fp hh ww wh nw tp rt V7 own => ?_⟩
   cases rt with
   | @cons _ _ _ _ f1 f2 q1 q2 =>
     have pm2 : (f2 ++ (f1 ++ [])).Perm (f1 ++ f2) := by rw [atw]; exact atj
     have S3 := S2.alG hh ww wh nw tp (bJ.app q2 (.cons q1 .nil)) (pm2.nodup_iff.mpr V7) fun c hc => own c (pm2.mem_iff.mp hc)
     rw [asO, asO] at S3
     have S4 := S3.aiC q2.length hat hpu hil
     rw [hrs] at S4
     exact kk v H' W' (z1.trans ww) S4)
structure FcM (X : Cx) (CL : Q.g) (x : Str) (k n : Nat) {A : Type} (arg : A -> List T) (Pre : A -> Prop) (res : A -> T) (out : A -> List T) : Prop where
 ex : ∃ f fd ps, ic X.prog X.w X.K X.mg X.base xO k f fd ps (spM X.K CL n arg Pre res out) /\ X.mg x = some (.ref f) /\ PySem.W.keepIn X.K (.ref f) = true /\ Binds X.K fd ps []
 room : jD k X.A
theorem cM1 {arg : A -> List T} {Pre : A -> Prop} {res : A -> T} {out : A -> List T} (a : Addr -> A) (nt : T) (F : FcM X CL x k n arg Pre res out) (hg : Gl X x) (h : TMv X CL b (e :: es) δ [i] fx al δ1) (hp : ∀ y, fx [y] -> Pre (a y)) (aiF : ∀ y, fx [y] -> res (a y) = t) (aiG : ∀ y, fx [y] -> yV (out (a y)) [y] [nt])
   (aiH : ∀ y, fx [y] -> arg (a y) = al [y] := by intros; rfl) (hlen : ∀ y, (arg (a y)).length = n := by intros; rfl) (hil : i < δ1.length := by exact asR rfl)
   (Bh : Q.s := by decide) (he : Q.O := by exact cE rfl) (hpl : Q.W := by rfl) :
   TEm X CL b Q.an δ t (δ1.set i (some nt)) := by
 obtain ⟨⟨f, fd, ps, G, m, q, bd⟩, r⟩ := F
 exact abb (fun ys => a (ys.headD 0)) [nt] G r m q bd h (fun ys hl hf => match ys, hl, hf with | [y], _, hf => ⟨aiH y hf, hlen y, hp y hf, aiF y hf, aiG y hf⟩) (fun j hj => by cases ati.mp hj; exact hil) hg Bh he hpl
theorem xS (h : TEm X CL b e δ t δ1) (k : dY X CL b fP δ1 D) (hs : swapsWith e none pos.line X.env = pure false := by rfl) : dY X CL b (.Expr e pos :: fP) δ D := c9 (aa9 h k hs)
end
theorem X7 : bootBuiltins "set" = some (.type "set") := Q.f
variable {e3 : Expr}
theorem agR {op op' : CmpOp} {f g : Int -> Int -> Bool} {i j k : Int} (ho : vX X (compareOp op) (rI0 fun i j => .bl (f i j))) (JX : vX X (compareOp op') (rI0 fun i j => .bl (g i j))) (h1 : Q.Y) (h2 : Q.ab) (h3 : eF X CL b e3 δ2 (.int k) δ2) (hm : lastMarks [op, op'] [e2, e3] = false) :
   xP X CL b (.Compare e1 [op, op'] [e2, e3] pos) δ (f i j && g j k) δ2 /\ dH X CL b (.Compare e1 [op, op'] [e2, e3] pos) δ (.sh (.bl (f i j && g j k))) δ2 := by
 constructor
 . intro H Z σ ts vs Q S q
   refine J1 (aao ho JX fh fh fh hm) (h1 H Z σ ts vs _ S fun v1 H1 Z1 z1 k1 S1 r1 => h2 H1 Z1 σ ts vs _ S1 fun v2 H2 Z2 z2 k2 S2 r2 => ?_)
   rw [r1.sc rfl, r2.sc rfl]
   refine ⟨i, j, rfl, rfl, f i j, rfl, ?_⟩
   cases hf : f i j with
   | false => exact ite_ff ⟨false, rfl, by rw [hf] at q; exact q H2 Z2 Q.w Q.D S2⟩
   | true =>
     refine ite_tt (h3 H2 Z2 σ ts vs _ S2 fun v3 H3 Z3 z3 k3 S3 r3 => ?_)
     rw [r3.sc rfl]
     exact ⟨j, k, rfl, rfl, g j k, rfl, by rw [hf] at q; exact q H3 Z3 ((z1.trans z2).trans z3) ((k1.trans k2).trans k3) S3⟩
 . intro H Z σ ts vs Q S q
   refine dS (aan ho JX fh fh fh hm) (h1 H Z σ ts vs _ S fun v1 H1 Z1 z1 k1 S1 r1 => h2 H1 Z1 σ ts vs _ S1 fun v2 H2 Z2 z2 k2 S2 r2 => ?_)
   rw [r1.sc rfl, r2.sc rfl]
   refine ⟨i, j, rfl, rfl, f i j, rfl, ?_⟩
   cases hf : f i j with
   | false => exact ite_ff (by rw [hf] at q; exact q _ H2 Z2 Q.w Q.D (S2.push (.bl _)))
   | true =>
     refine ite_tt (h3 H2 Z2 σ ts vs _ S2 fun v3 H3 Z3 z3 k3 S3 r3 => ?_)
     rw [r3.sc rfl]
     exact ⟨j, k, rfl, rfl, by rw [hf] at q; exact q _ H3 Z3 ((z1.trans z2).trans z3) ((k1.trans k2).trans k3) (S3.push (.bl _))⟩
theorem aiI (h : eF X CL b e1 δ .non δ1) : xP X CL b (.Compare e1 [.Is] [.Constant .none kj p2] pos) δ true δ1 /\ dH X CL b (.Compare e1 [.Is] [.Constant .none kj p2] pos) δ (.sh (.bl true)) δ1 := by
 constructor
 . exact fun H Z σ ts vs Q S k => J1 (ahj (Rn fh)) (h H Z σ ts vs _ S fun v H1 Z1 z1 k1 S1 r => by
     cases r
     exact ⟨_, rfl, by simpa using k H1 Z1 z1 k1 S1⟩)
 . exact fun H Z σ ts vs Q S k => dS (Ro (Rn fh)) (h H Z σ ts vs _ S fun v H1 Z1 z1 k1 S1 r => by
     cases r
     exact by simpa using k _ H1 Z1 z1 k1 (S1.push (.bl true)))
def rL (ns : Q.h) (i : Nat) (q : Str) : Bool := decide (q ∈ ns.take i)
def abd (prog : Program) (w : World) (a : Addr) (n : Nat) (h : Heap) : Prop := ∃ S, h.SetOf (strKind prog w) a S n
theorem LN : vq X (.builtin "len") (fun xs H Q => ∃ (p : Addr) (n : Nat), xs = [.ref p] /\ H p = some (.ext (abd X.prog X.w p n)) /\ n <= 1000 /\ Q (.int n) H) := by
 intro pins s σ H xs us Q I r h
 obtain ⟨p, n, rfl, hp, hn, q⟩ := h
 obtain ⟨u, rfl, ru⟩ := vals1 r
 cases ru
 obtain ⟨⟨S, o, es, ep, t, e, ex, ed, _, _, _, hf, en⟩, _, _⟩ := I.gQ p _ hp
 exact call_len_set e ex ed hf (by rw [en]; omega) ⟨.int n, H, I.tok _, ⟨s.toks + 1, by rw [en]⟩, q⟩
theorem X8 (h : aX K CL Z (l.map D.str) us) : us = l.map V.str := by
 refine aX.ind (P := fun ds us => ∀ l : List Str, ds = l.map D.str -> us = l.map V.str) ?_ ?_ h l rfl
 . intro l e
   cases l with
   | nil => rfl
   | cons _ _ => cases e
 . intro d ds v vs r _ ih l e
   cases l with
   | nil => cases e
   | cons x l =>
     obtain ⟨e1, e2⟩ := List.cons.inj e
     subst e1
     cases r
     rw [ih l e2]
     rfl
variable {b8 : List (Key × D)}
theorem aiJ (k : Key) (hu : X.A.units + 64 < cLine) (h1 : eF X CL b e1 δ (aiy k) δ1) (h2 : eF X CL b e2 δ1 (.vt b8) δ2) (hm : behindInMarks .In e2 = false) :
   dH X CL b (.Compare e1 [.In] [e2] pos) δ (.sh (.bl (LD b8 k).isSome)) δ2 := fun H Z σ ts vs Q S kk =>
 dS (Ro (ahW Q.a fh fh) hm) (h1 H Z σ ts vs _ S fun v H1 Z1 z1 k1 S1 r1 => h2 H1 Z1 σ ts vs _ S1 fun v2 H2 Z2 z2 k2 S2 r2 => by
   cases r2 with
   | @vt a gs _ ha rr =>
     refine ⟨a, zj gs k, rfl, by rw [r1.key]; exact aaC.k ha, ?_⟩
     rw [aa6 rr]
     exact kk _ H2 Z2 Q.w Q.D (S2.push (.bl _)))
theorem abe : vX X (binaryOp .FloorDiv) (rI (fun _ j => 0 < j /\ j.natAbs.log2 < 9000) fun i j => .int (i / j)) := opI fun i j _ _ _ _ _ hc q => by
 have h1 : (0 : Int) < j := hc.1
 exact floordiv_int Q.a (by rw [Int.fdiv_eq_ediv_of_nonneg i Q.a]; exact q) (.inl (PyProof.noPylong_of_log2 hc.2))
theorem abf {i j : Int} (h1 : Q.Y) (h2 : Q.ab) (c : 0 < j /\ j.natAbs.log2 < 9000) : dH X CL b (.BinOp e1 .FloorDiv e2 pos) δ (.sh (.int (i / j))) δ2 := v9 abe h1 h2 rfl rfl rfl fun _ _ q => ⟨i, j, rfl, rfl, c, q⟩
end L3
namespace L2
open PySem PySem.Spec PyProof.Rows
abbrev uf : List Value := [.type "ValueError", .type "Exception", .type "BaseException", .type "object"]
def jl (fr : List Env) (h h' : Heap) : Prop := ∀ b ∈ vV fr, ∀ o, h.get? b = some o -> ∃ sl, h'.get? b = some { o with slots := sl }
def CX8 (P : Program) (w : World) : ZQ := fun outer H s E ev s' => ∃ (e C : Addr) (a0 : Value) (B : Heap) (H' : Hp), ev = .ref e /\ s'.os = s.os /\ AllBare s'.gens /\ Heap.FlyingW B outer e (.ref C) a0 s'.heap /\ xH P w H' B ∧
 (∀ h, B.StaysIn h -> jl outer s.heap h -> Un (vV outer) [] H H' s.heap h) /\ jl outer s.heap s'.heap /\ E (.ref C) none H'
def XE (X : Cx) (W : XK) : Value -> Shared -> Prop := fun ev s' => ∃ (e C : Addr) (pins : Q.o) (σ : St) (H : Hp) (s : Shared), ev = .ref e /\ Inv X pins σ H s /\ W (.ref C) none H /\ s'.os = s.os /\ AllBare s'.gens ∧
 (Heap.MadeExcOf s.heap s'.heap e (.ref C) [] \/ ∃ a0, Heap.HeldW (PySem.W.hideAll s.heap (vV X.stack)) X.stack e (.ref C) a0 X.env.locals s'.heap /\ jl X.stack s.heap s'.heap)
section
variable {X : Cx} {pins : Q.o} {σ : St} {H : Hp} {s : Shared}
theorem jl.up {fr : List Env} {h h1 h2 base : Heap} (a : jl fr h h1) (f : h1.FunFrames base fr) (u : h1.UpToSlots h2) : jl fr h h2 := fun b hb o ho => by
 obtain ⟨sl, e⟩ := a b hb o ho
 obtain ⟨_, o', JX, hd⟩ := f.mem hb
 rw [e] at JX
 cases JX
 obtain ⟨sl2, e2⟩ := u b _ e hd
 exact ⟨sl2, e2⟩
theorem Inv.abg (I : Q.m) : xH X.prog X.w H (PySem.W.hideAll s.heap (vV X.stack)) := fun a o e => by
 refine (I.gQ a o e).JW (fun b u hb q => auc _ q fun hm => ?_) (fun b q => q) (fun b xs q => q)
 have hn := I.K5 b hm
 rcases hb with rfl | hb
 . rw [e] at hn; cases hn
 . rw [hb] at hn; cases hn
theorem Inv.abh (I : Q.m) : s.heap.FunFrames (PySem.W.hideAll s.heap (vV X.stack)) X.stack := PySem.W.funFrames_hide I.stack fun env he a ha => List.mem_filterMap.mpr ⟨env, he, ha⟩
theorem Inv.abi (I : Q.m) (vW : X.stack = X.env :: X.outer) (Oo : X.env.frame = some X.env.locals) (hex : X.ex = []) (h : Heap) (st : (PySem.W.hideAll s.heap (vV X.stack)).StaysIn h) (fr : jl X.outer X.s₀.heap h) : Un (vV X.outer) [] X.H₀ H X.s₀.heap h := by
 have u := I.base
 rw [hex] at u
 have out : ∀ b o, X.s₀.heap.get? b = some o -> b ∉ vV X.outer -> b ∉ vV X.stack := fun b o hb hn hm => by
   rw [vW] at hm
   unfold vV at hm
   rw [atR, Oo] at hm
   rcases asX.mp hm with z | z
   . have h1 := atd hb
     have h2 := I.ok.above
     rw [← z] at h2
     exact absurd h1 (Nat.not_lt.mpr h2)
   . exact hn z
 refine ⟨fun b o hb hH hf hx => ?_, fun b o hb hH hf hx => fr b hf o hb, u.free, fun b o hb hx => ?_, u.FZ, u.lq, u.F0⟩
 . exact st b o (auc _ (u.keep b o hb hH hf hx) (out b o hb hf))
 . obtain ⟨o', JX⟩ := u.there b o hb hx
   by_cases hf : b ∈ vV X.outer
   . obtain ⟨sl, e⟩ := fr b hf o hb
     exact ⟨_, e⟩
   . exact ⟨o', st b o' (auc _ JX (out b o hb hf))⟩
theorem Inv.Pp (I : Q.m) (hex : X.ex = []) : jl X.outer X.s₀.heap s.heap := fun b hb o ho => I.base.slot b o ho (I.ok.frf b hb) hb (by rw [hex]; exact as8)
theorem aiK {W : XK} {ev : Value} {s' : Shared} {E' : Q.v} (vW : X.stack = X.env :: X.outer) (Oo : X.env.frame = some X.env.locals) (hex : X.ex = []) (h : XE X W ev s') :
   wpAny Q.k X.A (leaving X.env ev) (fun _ s'' => CX8 X.prog X.w X.outer X.H₀ X.s₀ W ev s'') E' s' := by
 obtain ⟨e, C, pins, σ, H, s, rfl, I, hw, ho, hg, hm⟩ := h
 have hfr : X.A.frames = some (X.env :: X.outer) := by rw [I.ok.frames, vW]
 have abj := I.abh
 have hos : s'.os = X.s₀.os := ho.trans I.os
 rw [vW] at abj
 have sub : ∀ b, b ∈ vV X.outer -> b ∈ vV X.stack := fun b hb => by
   rw [vW]
   unfold vV at hb ⊢
   rw [atR, Oo]
   exact asV _ hb
 rcases hm with hm | ⟨a0, hm, hs⟩
 . refine wpAny_leaves_madeW (base := PySem.W.hideAll s.heap (vV X.stack)) hfr Oo (fun b o q => auR _ q) (by rw [vW]; exact abj) hm fun h' t x1 x2 x3 x4 => ?_
   refine ⟨e, C, .ref t, _, H, rfl, hos, hg, x1, I.abg, I.abi vW Oo hex, ?_, hw⟩
   have f1 : jl X.outer X.s₀.heap s'.heap := fun b hb o hq => by
     obtain ⟨sl, q⟩ := I.Pp hex b hb o hq
     exact ⟨sl, hm.keeps _ _ q⟩
   have f2 : s'.heap.FunFrames X.base X.outer := (show s.heap.FunFrames X.base X.outer from I.zg).of_keeps fun b o hb _ => ⟨o, hm.keeps b o hb, rfl⟩
   exact f1.up f2 x4
 . rw [vW] at hm
   unfold leaving
   refine atb (wpAny_noteFrame_againW Oo hm.2.2.2 ?_)
   refine wpAny_landsW hm fun h' hfl hu => ?_
   obtain ⟨k1, k2, ⟨_, _, k3⟩, k4⟩ := hfl
   refine ⟨e, C, a0, _, H, rfl, hos, hg, ⟨k1, k2, k3, k4⟩, ?_, ?_, ?_, hw⟩
   . rw [← vW]; exact I.abg
   . intro h st fr
     rw [← vW] at st
     exact I.abi vW Oo hex h st fr
   . have f1 : jl X.outer X.s₀.heap s'.heap := fun b hb o hq => by
       obtain ⟨sl, q⟩ := I.Pp hex b hb o hq
       obtain ⟨sl2, q2⟩ := hs b (sub b hb) _ q
       exact ⟨sl2, q2⟩
     obtain ⟨_, _, f2⟩ := hm.2.2.1
     exact f1.up f2 hu
theorem abk {M : Model} {A : Around} {E : Q.v} {base : Heap} {l : List Env} {env : Env} {e L : Addr} {cls a0 fl : Value} {Q : Unit -> Shared -> Prop} (hf : env.frame = some L)
   (hkb : base.StaysIn s.heap) (hen : base.get? e = none) (hl : s.heap.FunFrames base l) (ht : s.heap.TracedAtW base e cls a0 fl)
   (h : ∀ h', Heap.HeldW base l e cls a0 L h' -> s.heap.UpToSlots h' -> Q () { s with heap := h' }) :
   wpAny M A (do
     if (← field (.ref e) 1) == .none then unsupported "frame.own-activation:exception-without-traceback"
     setFlight (.ref e) env.frame) Q E s := by
 obtain ⟨oe, vs, T, oT, ts, he, aac, hd, h1, hnT, hTe, hT, hdT, h3⟩ := ht
 have alK : 3 < ts.size := (Array.getElem?_eq_some_iff.mp h3).1
 have aej : ∀ b, b ≠ T -> (s.heap.update T (Obj.mapFields (·.setIfInBounds 3 (rawInt L)))).get? b = s.heap.get? b := fun b hb => Heap.get?_update_other _ _ (aui hb)
 have abl : ∀ b o, s.heap.get? b = some o -> (∀ vs, o.data ≠ .fields vs) -> b ≠ T := fun b o hb hnv q => by
   rw [q, hT] at hb; injection hb with hb; subst hb; exact hnv ts hdT
 refine atb (wpAny_field he hd h1 ?_)
 rw [asH (show ¬ ((Value.ref T == Value.none) = true) from by simp)]
 unfold setFlight
 refine atb (wpAny_field he hd h1 ?_)
 rw [asM (show (Value.ref T != Value.none) = true from by simp), hf]
 refine wpAny_setField hT hdT alK (h _ ⟨fun b o hbo => (aej b fun q => by rw [q, hnT] at hbo; cases hbo).trans (hkb b o hbo), hen, hl.of_keeps fun b o hb hnv => ⟨o, (aej b (abl b o hb hnv)).trans hb, rfl⟩, ?_⟩ fun b o hb hnv => ⟨o.slots, (aej b (abl b o hb hnv)).trans hb⟩)
 exact ⟨oe, vs, T, _, _, (aej e (aui hTe)).trans he, aac, hd, h1, hnT, hTe, Heap.get?_update_self _ hT (Obj.isFreed_of_fields (Obj.data_mapFields hdT _)), Obj.data_mapFields hdT _, by simp [alK]⟩
theorem aek {W : XK} (vW : X.stack = X.env :: X.outer) (Oo : X.env.frame = some X.env.locals) : PassesOwn Q.k X.A X.env (XE X W) := fun ev s' h => by
 obtain ⟨e, C, pins, σ, H, s, rfl, I, hw, ho, hg, hm⟩ := h
 have hfr : X.A.frames = some (X.env :: X.outer) := by rw [I.ok.frames, vW]
 have abj := I.abh
 rw [vW] at abj
 have back : ∀ {a0 : Value} {s2 : Shared}, s2.os = s'.os -> s2.gens = s'.gens -> Heap.HeldW (PySem.W.hideAll s.heap (vV X.stack)) X.stack e (.ref C) a0 X.env.locals s2.heap -> jl X.stack s.heap s2.heap -> cameBackBy Q.k X.A X.env (XE X W) (.ref e) s2 := fun {a0 s2} o2 g2 hh fs => by
   obtain ⟨k1, k2, k3, k4⟩ := hh
   refine abk Oo k1 k2 k3 k4 fun h' hh' hu => ?_
   exact ⟨e, C, pins, σ, H, s, rfl, I, hw, o2.trans ho, by show AllBare s2.gens; rw [g2]; exact hg, .inr ⟨a0, hh', fs.up k3 hu⟩⟩
 rcases hm with hm | ⟨a0, hm, hs⟩
 . obtain ⟨t, he, htn, ht⟩ := hm.there
   have fresh : ∀ b, s.heap.get? b = none -> (PySem.W.hideAll s.heap (vV X.stack)).get? b = none := fun b hb => by
     cases hq : (PySem.W.hideAll s.heap (vV X.stack)).get? b with
     | none => rfl
     | some o' => have := auR _ hq; rw [hb] at this; cases this
   have hf2 : s'.heap.FunFrames (PySem.W.hideAll s.heap (vV X.stack)) (X.env :: X.outer) := by
     rw [vW]
     exact abj.of_keeps fun b o hb _ => ⟨o, hm.keeps b o hb, rfl⟩
   unfold notedBy noteFrame
   simp only [Oo]
   refine atb (wpAny_field (x := .none) he rfl rfl ?_)
   rw [asH Q.c]
   refine wpAny_entryW (base := PySem.W.hideAll s.heap (vV X.stack)) hfr hf2 Oo he (fun b o hb => hm.keeps b o (auR _ hb)) (fresh e hm.new) rfl (show 1 < 6 by decide) rfl fun h' hN => ?_
   obtain ⟨k1, k2, k3, k4⟩ := hN
   rw [← vW] at k2
   refine back rfl rfl ⟨k1, fresh e hm.new, k2, k3⟩ ?_
   have f1 : jl X.stack s.heap s'.heap := fun b hb o hq => ⟨o.slots, hm.keeps _ _ hq⟩
   rw [← vW] at hf2
   exact f1.up hf2 k4
 . unfold notedBy
   exact wpAny_noteFrame_againW Oo hm.2.2.2 (back rfl rfl hm hs)
structure fU (K : Q.l) (C : Addr) : Prop where
 ex : ∃ nm q N bs bm hdct sn sub ab col dd k0 k1 k2 k3 k5, K.lookup C = some (excClassObj nm q C N bs bm hdct sn sub ab col dd k0 k1 k2 k3 k5 "ValueError.__new__") /\ PySem.W.nsOkIn K N = true /\ PySem.W.nsIn K N "__init__" = some none /\ PySem.W.tailIn K uf bm = true
theorem X9 {W : XK} {x : Str} {C : Addr} {np yI pos : Pos} {D : Ends} (alM : X.calm = true) (hg : Gl X x) (hm : X.mg x = some (.ref C)) (O : fU X.K C) (hw : W (.ref C) none H) (hd : Q.s := by decide) :
   L3.adO (X.wish (XE X W)) (.Raise (some (.Call (.Name x np) [] [] yI)) none pos) D σ H := fun pins s I => by
 have J : Inv X pins σ H s := I.pN
 obtain ⟨nm, q, N, bs, bm, hdct, sn, sub, ab, col, dd, k0, k1, k2, k3, k5, o1, o2, o3, o4⟩ := O.ex
 have tl := PySem.W.tail_of_in J.JS o4
 refine wpAny_Raise_call_subT (C := C) (nm := nm) (q := q) (N := N) (bs := bs) (bm := bm) (bmB := uf) (k0 := k0) (k1 := k1) (k2 := k2) (k3 := k3) (k5 := k5) (dd := dd) (col := col) (ab := ab) (sub := sub) (sn := sn) (hdct := hdct) PySem.F.excBase_ValueError (mN := s.heap.nsMap N) (tl.hasType (b := true) PySem.F.excBase_ValueError.hasBase) (J.ok.hd alM) rfl (PySem.W.nsMap_none_of_in J.JS o2 o3) (rH I hg hm ⟨rfl, ?_⟩ hd)
 exact evalArgs_empty ⟨rfl, ata _, J.JS _ _ o1, .of_isNs (PySem.W.isNs_of_in J.JS o2), tl, fun h' e hx => ⟨e, C, pins, σ, H, s, rfl, J, hw, rfl, J.bare, .inl hx⟩⟩
structure Lies (X : Cx) (pins : Q.o) (σ : St) (H : Hp) (s : Shared) (H' : Hp) (e C : Addr) (a0 : Value) (B : Heap) (s' : Shared) : Prop where
 inv : Inv X pins σ H s
 os : s'.os = s.os
 bare : AllBare s'.gens
 V8 : Heap.FlyingW B X.stack e (.ref C) a0 s'.heap
 gQ : xH X.prog X.w H' B
 un : ∀ h, B.StaysIn h -> jl X.stack s.heap h -> Un (vV X.stack) [] H H' s.heap h
 fr : jl X.stack s.heap s'.heap
variable {H' : Hp} {e C : Addr} {a0 : Value} {B : Heap} {s' : Shared}
theorem Lies.now (L : Lies X pins σ H s H' e C a0 B s') : Inv X pins σ H' s' := L.inv.akB L.os (L.un s'.heap L.V8.1 L.fr) (L.gQ.kept L.V8.1) L.bare fun b z => absurd z as8
theorem Lies.move (L : Lies X pins σ H s H' e C a0 B s') {h' : Heap} {t' : Nat} (hf : Heap.FlyingW B X.stack e (.ref C) a0 h') (u : s'.heap.UpToSlots h') : Lies X pins σ H s H' e C a0 B { s' with heap := h', toks := t' } :=
 ⟨L.inv, L.os, L.bare, hf, L.gQ, L.un, L.fr.up L.V8.2.2.1 u⟩
abbrev Cx.hand (X : Cx) (e : Addr) : Cx := { X with A := X.A.mark (some (.ref e)), calm := false }
theorem Inv.hand (I : Q.m) (e : Addr) : Inv (X.hand e) pins σ H s :=
 ⟨⟨I.ok.mod, I.ok.kind, I.ok.glob, I.ok.blt, I.ok.above, I.ok.inj, I.ok.has, I.ok.cab, (fun h => by cases h), I.ok.frames, I.ok.stk, I.ok.exf, I.ok.bs, I.ok.Z9, I.ok.Rm, I.ok.Xm, I.ok.zg, I.ok.frf⟩, I.os, I.bare, I.base, I.loc, I.cell, I.free, I.pY, I.pin, I.gQ, I.len⟩
theorem Inv.HL (ok : X.Ok) (I : Inv (X.hand e) pins σ H s) : Inv X pins σ H s := ⟨ok, I.os, I.bare, I.base, I.loc, I.cell, I.free, I.pY, I.pin, I.gQ, I.len⟩
theorem alN {Q : Flow -> Shared -> Prop} {E : Q.v} {hs : List ExceptHandler} (vW : X.stack = X.env :: X.outer) (Oo : X.env.frame = some X.env.locals) (L : Lies X pins σ H s H' e C a0 B s')
   (k : ∀ s3, Lies X pins σ H s H' e C a0 B s3 -> wpAny Q.k X.A (handleBy (.ref e) X.env hs) Q E s3) :
   wpAny Q.k X.A (noteFrame (.ref e) X.env) (fun _ s₂ => wpAny Q.k X.A (setFlight (.ref e) none) (fun _ s₃ => wpAny Q.k X.A (handleBy (.ref e) X.env hs) Q E s₃) E s₂) E s' := by
 have hfr : X.A.frames = some (X.env :: X.outer) := by rw [L.inv.ok.frames, vW]
 have hfl := L.V8
 rw [vW] at hfl
 refine wpAny_looks_onW hfr Oo hfl fun h4 hh4 u4 => wpAny_landsW hh4 fun h5 hf5 u5 => k _ ?_
 rw [← vW] at hf5
 exact L.move hf5 (u4.trans u5)
theorem agS {Q : Flow -> Shared -> Prop} {E : Q.v} {x : Str} {Dd : Addr} {np pos : Pos} {b₀ : Stmt} {suite : List Stmt} {rest : List ExceptHandler} {m : Bool} (L : Lies X pins σ H s H' e C a0 B s') (hg : Gl X x) (hm : X.mg x = some (.ref Dd))
   (hx : PySem.W.exmOne X.K (.ref C) (.ref Dd) = some m)
   (k : if m then ∀ s4, Lies X pins σ H s H' e C a0 B s4 -> wpAny Q.k (X.hand e).A (execs (b₀ :: suite) X.env) Q (fun _ _ => False) s4 else ∀ s4, Lies X pins σ H s H' e C a0 B s4 -> wpAny Q.k X.A (handleBy (.ref e) X.env rest) Q E s4)
   (hd : Q.s := by decide) :
   wpAny Q.k X.A (handleBy (.ref e) X.env (.ExceptHandler (some (.Name x np)) none (b₀ :: suite) pos :: rest)) Q E s' := by
 have I := L.now
 obtain ⟨ob, hob, hoc⟩ := L.V8.there
 have LT : PySem.W.Looks Q.k s'.heap (typeOf (.ref e)) (.ref C) := by
   rw [← hoc]
   exact (PySem.W.Looks.ld hob).andThen .now
 refine wpAny_handleBy_cons (codeAny_handlers_test (rH (X := X.hand e) (I.hand e) hg hm ?_ hd)) (fun q => by cases q)
 refine (PySem.W.exm_one I.JS LT hx).here ?_
 cases m with
 | false => exact k s' L
 | true =>
   refine codeAny_handlers_suite (lands_againW L.V8 fun h6 hf6 u6 => ?_)
   exact atN (k _ (L.move hf6 u6)) (fun _ _ z => z) fun _ _ z => z.elim
end
variable {X : Cx}
abbrev Cx.pinned (X : Cx) (p : Q.o) : Cx := { X with pn := X.pn ++ p }
theorem Cx.Ok.pinned (ok : X.Ok) (p : Q.o) : (X.pinned p).Ok := ⟨ok.mod, ok.kind, ok.glob, ok.blt, ok.above, ok.inj, ok.has, ok.cab, ok.hd, ok.frames, ok.stk, ok.exf, ok.bs, ok.Z9, ok.Rm, ok.Xm, ok.zg, ok.frf⟩
variable {s : Shared}
theorem Inv.abm {pins : Q.o} {σ : St} {H : Hp} (I : Q.m) : Inv (X.pinned pins) [] σ H s :=
 ⟨I.ok.pinned pins, I.os, I.bare, I.base, I.loc, I.cell, I.free, I.pY, (fun p hp => I.pin p (by rw [atw] at hp; exact hp)), I.gQ, I.len⟩
theorem Inv.RV {pins p2 : Q.o} {σ : St} {H : Hp} (ok : X.Ok) (I : Inv (X.pinned pins) p2 σ H s) : Inv X pins σ H s :=
 ⟨ok, I.os, I.bare, I.base, I.loc, I.cell, I.free, I.pY, (fun p hp => I.pin p (asL _ hp)), I.gQ, I.len⟩
end L2
namespace L3
open PySem PySem.Spec PyProof.Rows L2
def GH (b : Bx) (E : XK) (C : Addr) : Prop := ∀ H' Z' : Hp, aR b.B H' -> aR b.Z Z' -> aR Z' H' -> (∀ a o, Z' a = some o -> b.Z a = none -> b.B a = none) -> (∀ a o, H' a = some o -> pB o = true -> Z' a = some o) -> E (.ref C) none H'
variable {A : Type}
def spR (K : Q.l) (CL : Q.g) (n : Nat) (arg : A -> List D) (Pre : A -> Prop) (exc : A -> Str) : Sp := fun vs H _ E =>
 ∃ (W : Hp) (a : A), aR W H /\ (∀ c o, H c = some o -> pB o = true -> W c = some o) /\ aX K CL W (arg a) vs /\ (arg a).length = n /\ Pre a /\ pO CL W /\ GH ⟨H, W⟩ E (CL (exc a))
section
variable {X : Cx} {CL : Q.g} {b : Bx} {δ δ1 δ2 : Q.n} {e : Expr} {es : List Expr} {fP : List Stmt} {D : gX} {x c : Str} {i : Nat} {pos pp : Pos} {W : XK}
theorem BE {np yI : Pos} (hc : X.calm = true) (hg : Gl X c) (hm : X.mg c = some (.ref (CL c))) (O : fU X.K (CL c)) (hE : GH b W (CL c)) (hd : (c == ("__debug__" : Str)) = false := by decide) :
   dY (X.wish (XE X W)) CL b (.Raise (some (.Call (.Name c np) [] [] yI)) none pos :: fP) δ D := c9 fun H Z σ ts vs E S M =>
 X9 hc hg hm O (hE H Z S.bh S.zz S.zh S.new S.tp) hd
theorem aiL {P : Program} {w : World} {K : Q.l} {mg : Q.A} {base : Heap} {qual : Str} {st : Stmt} {f : Addr} {fd : FuncData} {N ps : Q.h} {k : Nat} {arg : A -> List L3.D} {Pre : A -> Prop} {exc : A -> Str} (F : oj K x qual st f fd) (S : aY N ps (az st))
   (hb : ∀ (lu : Value) (Ar : Around) (outer : List Env) (s : Shared) (H : Hp) (E : XK) (b : Bx) (a : A), jD k Q.aL -> Pre a -> GH b E (CL (exc a)) →
     dY ((DN (CX8 P w) P w K mg base N qual (az st) f lu Ar outer s H E).wish (XE (DN (CX8 P w) P w K mg base N qual (az st) f lu Ar outer s H E) E)) CL b (dW st) (entry N (arg a)) { nx := fun _ => False, rt := fun _ _ => False }) :
   ic P w K mg base (CX8 P w) (k + 1) f fd ps (spR K CL ps.length arg Pre exc) := by
 obtain ⟨oc, od, kV, doc, pm, an, lu, ct, osl, rfl, lk, rE⟩ := F.ex
 refine agB lk rE S (fun vs H Q E h => ?_) fun Ar outer s H vs Q E hr h => ?_
 . obtain ⟨W, a, _, _, r, hl, _⟩ := h
   rw [← r.length]; exact hl
 . obtain ⟨W, a, wh, tp, r, hl, hp, tb, hE⟩ := h
   have h0 : fO K CL H W (entry N (arg a)) (start N vs) [] := by
     unfold entry L2.start
     rw [← r.length]
     exact oz _ r
   have h1 : ∀ c o, W c = some o -> W c = none -> H c = none := fun c o q z => by rw [q] at z; cases z
   have body := hb lu Ar outer s H E ⟨H, W⟩ a hr hp hE H W (start N vs) [] [] { nx := fun _ _ => False, rt := fun _ _ => False } ⟨⟨[], [], h0, .nil, aua, fun c hc => by cases hc⟩, .refl _, .refl _, wh, h1, tp, tb⟩ ⟨fun _ _ _ _ _ _ z => z.elim, fun _ _ _ _ _ _ _ _ z => z.elim, fun _ _ _ _ _ _ z => z.elim, fun _ _ _ _ _ _ z => z.elim⟩
   refine ⟨RD _ (dW st), XI, fun pins s1 I => ?_⟩
   refine atN (body pins s1 (I.wish _)) (fun fl s' z => ?_) fun ev s' z => aiK rfl rfl rfl z
   cases fl with
   | next => obtain ⟨_, _, _, q⟩ := z; exact q.elim
   | brk => obtain ⟨_, _, _, q⟩ := z; exact q.elim
   | cont => obtain ⟨_, _, _, q⟩ := z; exact q.elim
   | ret u => obtain ⟨_, _, _, _, _, q⟩ := z; exact q.elim
structure FcR (X : Cx) (CL : Q.g) (x : Str) (k n : Nat) {A : Type} (arg : A -> List L3.D) (Pre : A -> Prop) (exc : A -> Str) : Prop where
 ex : ∃ f fd ps, ic X.prog X.w X.K X.mg X.base (CX8 X.prog X.w) k f fd ps (spR X.K CL n arg Pre exc) /\ X.mg x = some (.ref f) /\ PySem.W.keepIn X.K (.ref f) = true /\ Binds X.K fd ps []
 room : jD k X.A
def HM (X : Cx) (CL : Q.g) (b : Bx) (Z : Hp) (δ1 : Q.n) (ts : List T) (vs : List V) (C : Addr) (ev : Value) (s' : Shared) : Prop :=
 ∃ (e : Addr) (a0 : Value) (B : Heap) (pins : Q.o) (σ : L2.St) (H : Hp) (s : Shared) (H' Z' : Hp), ev = .ref e /\ Lies X pins σ H s H' e C a0 B s' /\ aR Z Z' /\ bY X.K CL b H' Z' δ1 σ ts vs
def TRv (X : Cx) (CL : Q.g) (b : Bx) (e : Expr) (δ : Q.n) (c : Str) (δ1 : Q.n) : Prop :=
 ∀ (H Z : Hp) (σ : L2.St) (ts : List T) (vs : List V), bY X.K CL b H Z δ σ ts vs -> Le (X.wish (HM X CL b Z δ1 ts vs (CL c))) e σ H fun _ _ => False
def TRs (X : Cx) (CL : Q.g) (b : Bx) (st : List Stmt) (δ : Q.n) (c : Str) (δ1 : Q.n) : Prop :=
 ∀ (H Z : Hp) (σ : L2.St) (ts : List T) (vs : List V) (D : Ends), bY X.K CL b H Z δ σ ts vs -> RD (X.wish (HM X CL b Z δ1 ts vs (CL c))) st D σ H
theorem Yb {H : Hp} {σ : L2.St} {Q : List V -> Hp -> Prop} {E : Q.v} (hx : X.xe = fun _ _ => False) (h : Lf X es σ H Q) : Lf (X.wish E) es σ H Q := fun pos pins s I =>
 atN (h pos pins s I.pN) (fun us s' ⟨vs, H', I', r, q⟩ => ⟨vs, H', I'.wish E, r, q⟩) fun ev s' z => by rw [hx] at z; exact z.elim
theorem bY.grown {K : Q.l} {H H' Z W W' : Hp} {σ : L2.St} {ts : List T} {vs : List V} (S : Q.K) (hh : aR H H') (zw : aR Z W) (ww : aR W W') (wh : aR W' H') (new : ∀ a o, W' a = some o -> W a = none -> H a = none)
   (tp : ∀ a o, H' a = some o -> pB o = true -> W' a = some o) : ∃ Z', aR Z Z' /\ bY K CL b H' Z' δ σ ts vs := by
 obtain ⟨Z', z, S'⟩ := S.back (t := .sh .non) (v := .non) (fp := []) hh zw ww wh new tp (.sh .non) aua (fun a ha => by cases ha) (.inr rfl)
 exact ⟨Z', z, S'.pop⟩
theorem sM {k n : Nat} {arg : A -> List L3.D} {Pre : A -> Prop} {exc : A -> Str} (a : A) (hx : X.xe = fun _ _ => False) (F : FcR X CL x k n arg Pre exc) (hg : Gl X x) (h : BAv X CL b (e :: es) δ (arg a) δ1) (hp : Pre a) (hn : (arg a).length = n := by rfl)
   (Bh : Q.s := by decide) (he : Q.O := by exact cE rfl) (hpl : Q.W := by rfl) :
   TRv X CL b Q.an δ (exc a) δ1 := fun H Z σ ts vs S pins s I => by
 obtain ⟨f, fd, ps, F1, hm, hk, hb⟩ := F.ex
 have hA : Lf X (e :: es) σ H fun us H1 => ∃ Z1, aR Z Z1 /\ bY X.K CL b H1 Z1 δ1 σ ts vs /\ aX X.K CL H1 (arg a) us := h H Z σ ts vs _ S fun us H1 Z1 z1 k1 S1 r => ⟨Z1, z1, S1, r⟩
 refine auh (rH I hg hm ?_ Bh)
 refine PySem.W.callWith_K (h₀ := X.base) I.ok.mod.Z8 hk (gK (Yb hx hA pos pins s I) fun us s1 ⟨ws, H1, I1, r, Z1, z1, S1, rf⟩ => ⟨I1.JS, ?_⟩) he hpl
 let E0 : XK := fun cv _ H' => cv = .ref (CL (exc a)) /\ ∃ Z', aR Z Z' /\ bY X.K CL b H' Z' δ1 σ ts vs
 have JT : spR X.K CL n arg Pre exc ws H1 (fun _ _ => False) E0 := ⟨H1, a, .refl _, fun _ _ q _ => q, rf, hn, hp, S1.aaI, fun H' Z' hh ww wh nw tp => ⟨rfl, by
   obtain ⟨Z2, z2, S2⟩ := S1.grown hh S1.zh ww wh nw tp
   exact ⟨Z2, z1.trans z2, S2⟩⟩⟩
 have hl : us.length = ps.length := by rw [← r.length]; exact F1.len _ _ _ _ JT
 have hbd := hb s1 us I1.JS (by rw [atw]; exact hl)
 rw [atw] at hbd
 refine wpAny_call (auE (F1.run X.A X.stack s1 H1 ⟨us, []⟩ us ws (fun _ _ => False) E0 F.room I1.pN.ahL hbd r JT) fun rr s' hq => ?_)
 cases rr with
 | error ev =>
   obtain ⟨e1, C, a0, B, H', rfl, o1, o2, o3, o4, o5, o6, hC, Z', z', S'⟩ := hq
   cases hC
   exact ⟨e1, a0, B, pins, σ, H1, s1, H', Z', rfl, ⟨I1.pN, o1, o2, o3, o4, o5, o6⟩, z', S'⟩
 | ok fl =>
   cases fl with
   | ret u =>
     obtain ⟨v, H', _, _, _, _, _, q⟩ := hq
     exact q.elim
   | next => exact False.elim hq
   | brk => exact False.elim hq
   | cont => exact False.elim hq
theorem TRv.any {H Z : Hp} {σ : L2.St} {ts : List T} {vs : List V} {Q : VK} (h : TRv X CL b e δ c δ1) (S : bY X.K CL b H Z δ σ ts vs) : Le (X.wish (HM X CL b Z δ1 ts vs (CL c))) e σ H Q := fun pins s I =>
 atN (h H Z σ ts vs S pins s I) (fun _ _ ⟨_, _, _, _, q⟩ => q.elim) fun _ _ z => z
theorem Pq {kj : Nat} {p2 : Pos} (h : TRv X CL b e δ c δ1) : TRv X CL b (.Compare e [.Is] [.Constant .none kj p2] pos) δ c δ1 := fun H Z σ ts vs S => dS (Ro (Rn fh)) (h.any S)
theorem Pr {pos' : Pos} (nd : X.N.Nodup) (n : Ln X i x) (h : TRv X CL b e δ c δ1) (hs : Q.ay := by rfl) : TRs X CL b (.Assign [.Name x pos'] e pos :: fP) δ c δ1 := fun H Z σ ts vs D S =>
 aaH (Bd psS XI) (v7 (Rp (X := X.wish (HM X CL b Z δ1 ts vs (CL c))) nd n.hi n.loc fh hs n.hf) (h.any S))
theorem HN (h : TRv X CL b e δ c δ1) (hs : swapsWith e none pos.line X.env = pure false := by rfl) : TRs X CL b (.Expr e pos :: fP) δ c δ1 := fun H Z σ ts vs D S => aaH (Bd psS XI) (v7 (Be (X := X.wish (HM X CL b Z δ1 ts vs (CL c))) fh hs) (h.any S))
theorem Vn.pin {p : Q.o} (h : Vn X i x) : Vn (X.pinned p) i x := ⟨h.hi, h.hv, h.hd, h.rE⟩
theorem FcR.pin {p : Q.o} {k n : Nat} {arg : A -> List L3.D} {Pre : A -> Prop} {exc : A -> Str} (F : FcR X CL x k n arg Pre exc) : FcR (X.pinned p) CL x k n arg Pre exc := ⟨F.ex, F.room⟩
inductive Yc (X : Cx) (CL : Q.g) (c : Str) : List ExceptHandler -> List Stmt -> Prop
 | hit {x : Str} {Dd : Addr} {np pos : Pos} {b₀ : Stmt} {suite : List Stmt} {rest : List ExceptHandler} : Gl X x -> X.mg x = some (.ref Dd) -> PySem.W.exmOne X.K (.ref (CL c)) (.ref Dd) = some true -> (x == ("__debug__" : Str)) = false -> Yc X CL c (.ExceptHandler (some (.Name x np)) none (b₀ :: suite) pos :: rest) (b₀ :: suite)
 | miss {x : Str} {Dd : Addr} {np pos : Pos} {b₀ : Stmt} {suite st : List Stmt} {rest : List ExceptHandler} : Gl X x -> X.mg x = some (.ref Dd) -> PySem.W.exmOne X.K (.ref (CL c)) (.ref Dd) = some false -> (x == ("__debug__" : Str)) = false -> Yc X CL c rest st -> Yc X CL c (.ExceptHandler (some (.Name x np)) none (b₀ :: suite) pos :: rest) st
theorem Yc.run {Q : Flow -> Shared -> Prop} {E : Q.v} {hs : List ExceptHandler} {st : List Stmt} {pins p : Q.o} {σ : L2.St} {H H' : Hp} {s s' : Shared} {e : Addr} {a0 : Value} {B : Heap} (h : Yc X CL c hs st) (L : Lies (X.pinned p) pins σ H s H' e (CL c) a0 B s')
   (k : ∀ s4, Lies (X.pinned p) pins σ H s H' e (CL c) a0 B s4 -> wpAny Q.k (X.hand e).A (execs st X.env) Q (fun _ _ => False) s4) : wpAny Q.k X.A (handleBy (.ref e) X.env hs) Q E s' := by
 induction h generalizing s' with
 | hit h1 h2 h3 h4 => exact agS (X := X.pinned p) (m := true) L h1 h2 h3 k h4
 | miss h1 h2 h3 h4 _ ih => exact agS (X := X.pinned p) (m := false) L h1 h2 h3 (fun s4 L4 => ih L4 k) h4
theorem HP {body : List Stmt} {h0 : ExceptHandler} {hs : List ExceptHandler} {st : List Stmt} (vW : X.stack = X.env :: X.outer) (Oo : X.env.frame = some X.env.locals) (hxf : X.xe = fun _ _ => False) (r : ∀ p, TRs (X.pinned p) CL b body δ c δ1) (hh : Yc X CL c (h0 :: hs) st)
   (k : ∀ e, dY (X.hand e) CL b st δ1 { D with nx := fun δ2 => dY X CL b fP δ2 D }) : dY X CL b (.Try body (h0 :: hs) [] [] pos :: fP) δ D := c9 fun H Z σ ts vs E S M pins s I => by
 refine wpAny_Try_except (atN (r pins H Z σ ts vs { nx := fun _ _ => False, rt := fun _ _ => False } S [] s (I.abm.wish _)) (fun f s1 z => ?_) fun ev s1 z => ?_)
 . cases f with
   | next => obtain ⟨_, _, _, q⟩ := z; exact q.elim
   | brk => obtain ⟨_, _, _, q⟩ := z; exact q.elim
   | cont => obtain ⟨_, _, _, q⟩ := z; exact q.elim
   | ret u => obtain ⟨_, _, _, _, _, q⟩ := z; exact q.elim
 . obtain ⟨e, a0, B, Ke, σ', H1, s0, H', Z', rfl, L, z', S'⟩ := z
   refine alN (X := X.pinned pins) vW Oo L fun s3 L3 => hh.run L3 fun s4 L4 => ?_
   have J := (L4.now.RV I.ok).hand e
   refine atN (k e H' Z' σ' ts vs E S' (M.mono z') pins s4 J) (fun f s5 z => ?_) fun _ _ z => by rw [show (X.hand e).xe = X.xe from rfl, hxf] at z; exact z
   cases f with
   | next => obtain ⟨σ5, H5, I5, q⟩ := z; exact ⟨σ5, H5, I5.HL I.ok, q⟩
   | brk => obtain ⟨σ5, H5, I5, q⟩ := z; exact ⟨σ5, H5, I5.HL I.ok, q⟩
   | cont => obtain ⟨σ5, H5, I5, q⟩ := z; exact ⟨σ5, H5, I5.HL I.ok, q⟩
   | ret u => obtain ⟨v, σ5, H5, I5, rv, q⟩ := z; exact ⟨v, σ5, H5, I5.HL I.ok, rv, q⟩
theorem aiN {body : List Stmt} {h0 : ExceptHandler} {hs : List ExceptHandler} (hxf : X.xe = fun _ _ => False) (h : dY X CL b body δ { D with nx := fun δ2 => dY X CL b fP δ2 D }) : dY X CL b (.Try body (h0 :: hs) [] [] pos :: fP) δ D := c9 fun H Z σ ts vs E S M pins s I => by
 refine wpAny_Try_except (atN (h H Z σ ts vs E S M pins s I) (fun f s1 z => ?_) fun ev s1 z => by rw [hxf] at z; exact z.elim)
 cases f with
 | next => exact wpAny_execs_nil z
 | brk => exact z
 | cont => exact z
 | ret u => exact z
end
end L3
namespace L2
open PySem PySem.Spec PyProof.Rows
structure kG (K : Q.l) (D : Addr) : Prop where
 ga : PySem.W.findIn K (.ref D) "__getattribute__" = some Q.aB
 gn : PySem.W.findIn K (.ref D) "__getattr__" = some none
 hd : PySem.W.hasDictIn K D = true
 fi : PySem.W.findIn K (.ref D) "__class__" = some (some Q.aa)
 sp : PySem.W.specialIn K Q.aa "__get__" = some (some (.builtin "getset_descriptor.__get__"))
 tk : PySem.W.takesIn K Q.aa = some true
 mr : PySem.W.mroIn K D (.type "object") = some true
 mb : PySem.W.mroIn K D (.type "BaseException") = some true
def excAt (e D : Addr) (h : Heap) : Prop := ∃ o, h.get? e = some o /\ o.cls = .ref D
section
variable {prog : Program} {w : World} {A : Around} {E : Q.v} {s : Shared} {K : Q.l} {x D : Addr}
open PySem.W in
theorem abn {M : Model} {nameV : Value} {Q : Unit -> Shared -> Prop} (ty : Looks M s.heap (typeOf (.ref x)) (.ref D)) (f7 : Looks M s.heap (isSubtype (.ref D) (.type "BaseException")) true) (hq : Q () s) : wpAny M A (checkBuiltinCall "BaseException.__getattribute__" ⟨[.ref x, nameV], []⟩) Q E s := by
 obtain ⟨hp, gn, dr, tk, os⟩ := s
 have hk : builtinKind "BaseException.__getattribute__" = some .slot := Q.f
 have JT : splitId "BaseException.__getattribute__" = some ("BaseException", "__getattribute__") := Q.f
 have ha := F.args_bexc_ga (.ref x) nameV
 simp only [checkBuiltinCall, hk, JT]
 refine atb ?_
 unfold isInstance
 refine atb (ty.at (f7.at ?_))
 repeat (first | wp_step)
 exact hq
open PySem PySem.Calls PyProof.Rows Builtin Builtin.ObjectAttr Builtin.Getset_descriptor PySem.W PySem.Builtin.ObjectAttr in
theorem Yd {Q : Option Value -> Shared -> Prop} (O : kG K D) (X : K.In s.heap) (hx : excAt x D s.heap) (h : Q (some (.ref D)) { s with toks := s.toks + 1 }) : wpAny (model prog w) A (getAttr? (.ref x) "__class__") Q E s := by
 obtain ⟨hp, gn, dr, tk, os⟩ := s
 obtain ⟨ox, hx1, hx2⟩ := hx
 have ty : Looks (model prog w) hp (typeOf (.ref x)) (.ref D) := hx2 ▸ (Looks.ld hx1).andThen .now
 have f1 := looks_findIn (M := model prog w) X O.ga
 have f2 := looks_findIn (M := model prog w) X O.gn
 have f3 := looks_findIn (M := model prog w) X O.fi
 have f4 := looks_specialIn (M := model prog w) X O.sp
 have f5 := looks_takesIn (M := model prog w) X O.tk
 have f6 := looks_mroIn (M := model prog w) X O.mr
 have f7 := looks_mroIn (M := model prog w) X O.mb
 have fd : Looks (model prog w) hp (find (.ref x) (.ref D) "__class__") (.bind (.builtin "getset_descriptor.__get__") Q.aa) :=
   f3.andThen (f4.andThen ((show Looks (model prog w) hp (dataDescriptor? (some Q.aa) (some (.builtin "getset_descriptor.__get__"))) (some (.builtin "getset_descriptor.__get__", .builtin "object.__class__")) from f5.andThen .now).andThen (Looks.tag .now)))
 have fb := F.excAttr_ValueError.ga.bind (.ref x)
 have hk : builtinKind "BaseException.__getattribute__" = some .slot := Q.f
 have JT : splitId "BaseException.__getattribute__" = some ("BaseException", "__getattribute__") := Q.f
 unfold getAttr? getAttrBy? getAttrBy
 refine atb (wpAny_mkText (atb (wpAny_attempt (aun (atb (ty.at (atb (f1.at ?_))))))))
 dsimp only
 rw [asH (fun q => by rw [asZ] at q; exact absurd q.2 Q.d)]
 unfold getAttrByItsOwn hookBefore
 rw [asM (show onTheHeap (.ref D) = true from rfl)]
 refine atb (f2.at ?_)
 refine atb (wpAny_attempt (aun ?_))
 unfold callGetattribute
 rw [asH Q.c]
 unfold boundAndCalled
 rw [fb]
 refine atb (atA ?_)
 refine wpAny_call (codeAny_call_builtin F.excAttr_ValueError.ga.plain F.entry_bexc_ga (abn ty f7 ?_))
 unfold Builtin.«object.__getattribute__»
 iterate 10 lk
 refine atb (atA (a := ("__class__" : Str)) (atb (ty.at (atb (fd.at ?_)))))
 show wpAny _ _ (holding [_] (call _ [_, .ref x, .ref D]) >>= ret) _ _ _
 refine atb (aun (wpAny_call ?_))
 refine codeAny_call_builtin KF.slot_gs.plain KF.entry_gs (KF.slot_gs.check _ _ _ _ _ _ _ _ KF.type_class (KF.args_gs _ _ _) ?_)
 unfold Builtin.«getset_descriptor.__get__» descrGet
 rw [dga_obj]
 refine atb (atA ?_)
 unfold descrGetter descrCheckInstance descrNameAndClass isInstance
 simp only [KF.owner_class]
 repeat lk
 refine ⟨Code.quiet_builtin _ Q.d, codeAny_builtin KF.entry_class ?_⟩
 unfold Builtin.«object.__class__» shownTypeOf
 repeat lk
 first | exact h | exact handed_on rfl h | exact atA (handed_on rfl (atA h))
theorem kG.there (O : kG K D) : ∃ c d cd sl, K.lookup D = some ⟨c, d, .cls cd, sl⟩ := by
 obtain ⟨cd, q, _⟩ := PySem.W.any_some O.hd
 unfold PySem.W.clsIn at q
 split at q
 . rename_i c d cd' sl e; exact ⟨c, d, cd', sl, e⟩
 . cases q
theorem Pu (O : kG K D) : PySem.W.KitX K (.ref x) (.ref D) (excAt x D) := by
 obtain ⟨c, d, cd, sl, e⟩ := O.there
 refine ⟨fun _ _ _ ⟨o, h1, h2⟩ => h2 ▸ (PySem.W.Looks.ld h1).andThen .now, fun _ _ Z8 _ A' Q' E' s' k q => ?_, fun h tp dd its n sl' Z8 htp => ?_, fun Z8 p k => Yd O Z8 p k⟩
 . unfold isType loadHead
   exact atb (wpAny_loadPart (k _ _ (Z8 _ _ e)) (atA q))
 . cases hq : (Value.ref D == Value.ref tp) with
   | false => rfl
   | true =>
     cases Value.ref.inj (auJ.mp hq)
     have z := (Z8 _ _ e).symm.trans htp
     cases z
def Kx : V -> Bool
 | .ref _ => true
 | .ty _ => true
 | _ => false
def clsOf : V -> Value
 | .ref a => .ref a
 | .ty n => .type n
 | _ => .none
theorem Ky {v : V} {u : Value} (hc : Kx v = true) (r : RelV v u) : u = clsOf v := by
 cases v <;> first | exact r | cases hc
theorem Kz : ∀ {vs : List V} {us : Q.q}, vs.all Kx = true -> Vals vs us -> us = vs.map clsOf
 | _, _, _, .nil => rfl
 | _, _, hc, .cons r t => by
   rw [atV, asZ] at hc
   rw [atg, Ky hc.1 r, Kz hc.2 t]
theorem Ye {cs : Q.q} {t : Value} (h : ∀ c ∈ cs, PySem.W.kitOne K t c = some false) : PySem.W.kitAny K t cs = some false := by
 induction cs with
 | nil => rfl
 | cons c r ih =>
   unfold PySem.W.kitAny
   rw [h c (asT ..)]
   exact ih fun z hz => h z (asV _ hz)
def agT (K : Q.l) (H : Hp) (D : Addr) (y : V) (bb : Bool) : Prop :=
 (Kx y = true /\ PySem.W.kitOne K (.ref D) (clsOf y) = some bb) \/ ∃ tp vs, y = .ref tp /\ Fp K H tp vs /\ vs.all Kx = true /\ PySem.W.kitAny K (.ref D) (vs.map clsOf) = some bb
variable {X : Cx}
theorem abo : vq X (.builtin "isinstance") (fun xs H Q => ∃ (e D : Addr) (y : V) (bb : Bool), xs = [.ref e, y] /\ H e = some (.ext (excAt e D)) /\ kG X.K D /\ agT X.K H D y bb /\ Q (.bl bb) H) := by
 intro pins s σ H xs us Q I r h
 obtain ⟨e, D, y, bb, rfl, he, O, ha, q⟩ := h
 obtain ⟨u, u2, rfl, ru, ru2⟩ := r.two
 cases (show u = Value.ref e from ru)
 have fin : ∀ tk, EP X pins σ Q (.bool bb) { s with toks := tk } := fun tk => ⟨.bl _, H, I.tok tk, rfl, q⟩
 have ex : excAt e D s.heap := (I.gQ e _ he).1
 rcases ha with ⟨hc, ha⟩ | ⟨tp, vs, rfl, hs, hc, ha⟩
 . rw [Ky hc ru2]
   exact PySem.W.kia_one (Pu O) I.JS ex ha (fun z => nomatch z) fin
 . cases (show u2 = Value.ref tp from ru2)
   obtain ⟨its, rv, ⟨o, g, cl, n, dt⟩, _⟩ := I.tuple hs
   obtain ⟨c0, d0, t0, s0⟩ := o
   dsimp only at cl dt
   subst cl dt
   rw [← Kz hc rv] at ha
   exact PySem.W.kia_tup (Pu O) I.JS ex g ha (fun z => nomatch z) fin
theorem iP.got {P : Program} {H : Hp} {h : Heap} {a : Addr} {o : HO} (x : iP P w H h a o) : ∃ u, h.get? a = some u := by
 cases o with
 | lst xs => obtain ⟨_, _, _, _, z⟩ := x; exact ⟨_, z⟩
 | tup xs => obtain ⟨_, _, _, _, z, _⟩ := x; exact ⟨_, z⟩
 | dK b8 => obtain ⟨_, _, _, _, _, _, _, z, _⟩ := x; exact ⟨_, z⟩
 | dT b8 => obtain ⟨_, _, _, _, _, _, _, z, _⟩ := x; exact ⟨_, z⟩
 | set S n => obtain ⟨_, _, _, _, z, _⟩ := x; exact ⟨_, z⟩
 | ins C dx fs => obtain ⟨_, _, _, z, _⟩ := x; exact ⟨_, z⟩
 | own y => exact x
 | xd fs => obtain ⟨_, ⟨_, _, _, z, _⟩, _⟩ := x; exact ⟨_, z⟩
 | rng lo hi => obtain ⟨_, _, _, z⟩ := x; exact ⟨_, z⟩
 | iX ob u => exact ⟨_, x.1⟩
 | tbl ps => exact ⟨_, x⟩
 | tabs q => obtain ⟨_, z, _⟩ := x; exact ⟨_, z⟩
 | cod q => obtain ⟨_, _, _, z, _⟩ := x; exact ⟨_, z⟩
 | met f y => exact ⟨_, x⟩
 | ext φ => exact x.2.1
variable {pins : Q.o} {σ : St} {H H' : Hp} {s' : Shared} {e C : Addr} {a0 : Value} {B : Heap}
theorem Lies.fresh (L : Lies X pins σ H s H' e C a0 B s') : s.heap.get? e = none := by
 cases hq : s.heap.get? e with
 | none => rfl
 | some o =>
   have ne : e ∉ vV X.stack := fun hb => by
     obtain ⟨_, o1, h1, d1⟩ := L.V8.2.2.1.mem hb
     obtain ⟨o2, vs, _, _, _, h2, _, d2, _⟩ := L.V8.2.2.2
     rw [h1] at h2
     cases h2
     exact d1 _ d2
   obtain ⟨o', h'⟩ := (L.un (PySem.W.hideAll s'.heap [e]) (fun b u hb => auc _ (L.V8.1 b u hb) fun z => by
     rw [ati] at z
     rw [z, L.V8.2.1] at hb
     cases hb) fun b hb u hu => by
       obtain ⟨sl, z⟩ := L.fr b hb u hu
       exact ⟨sl, auc _ z fun q => ne (by rw [ati] at q; rw [← q]; exact hb)⟩).there e o hq as8
   rw [PySem.W.hideAll_none _ (ati.mpr rfl)] at h'
   cases h'
theorem Lies.no (L : Lies X pins σ H s H' e C a0 B s') : H' e = none := by
 cases hq : H' e with
 | none => rfl
 | some o =>
   obtain ⟨u, z⟩ := (L.gQ e o hq).got
   rw [L.V8.2.1] at z
   cases z
theorem Lies.taken (L : Lies X pins σ H s H' e C a0 B s') (hex : X.ex = []) : Inv X pins σ (upd H' e (.ext (excAt e C))) s' := by
 have I := L.now
 have J := L.inv
 have fr := L.fresh
 have no : ∀ {b : Addr} {o : Obj}, s.heap.get? b = some o -> b ≠ e := fun {b o} q z => by rw [z, fr] at q; cases q
 have up : ∀ {b : Addr}, b ≠ e -> upd H' e (.ext (excAt e C)) b = H' b := fun {b} q => asH q
 have keep : ∀ {b : Addr} {v : HO}, H' b = some v -> upd H' e (.ext (excAt e C)) b = some v := fun {b v} q => by
   rw [up fun z => by rw [z, L.no] at q; cases q]
   exact q
 obtain ⟨ob, hob, hoc⟩ := L.V8.there
 have first : ∀ {b : Addr} {o : Obj}, X.s₀.heap.get? b = some o -> b ≠ e := fun {b o} q => by
   obtain ⟨o', z⟩ := J.base.there b o q (by rw [hex]; exact as8)
   exact no z
 refine ⟨I.ok, I.os, I.bare, ⟨I.base.keep, I.base.slot, fun b o h1 h2 h3 => by rw [up (first h1)]; exact I.base.free b o h1 h2 h3, I.base.there, fun b xs q => keep (I.base.FZ b xs q), fun b o u q => keep (I.base.lq b o u q), fun b ps q => ?_⟩, I.loc, I.cell, ?_, fun x c q => ?_, fun p hp => ?_, fun a o q => ?_, I.len⟩
 . obtain ⟨more, z⟩ := I.base.F0 b ps q
   exact ⟨more, keep z⟩
 . obtain ⟨m, ⟨oL, _, _, hoL, _⟩, _⟩ := J.loc
   rw [up (no hoL)]
   exact I.free
 . obtain ⟨v, z⟩ := J.cell x c q
   obtain ⟨oc, aoL, _⟩ := z
   rw [up (no aoL)]
   exact I.pY x c q
 . obtain ⟨z1, z2, z3⟩ := I.pin p hp
   refine ⟨z1, ?_, z3⟩
   rw [up (no (J.pin p hp).1)]
   exact z2
 . by_cases ha : a = e
   . subst ha
     rw [show upd H' a (.ext (excAt a C)) a = some (.ext (excAt a C)) from asM rfl] at q
     cases q
     exact ⟨⟨ob, hob, hoc⟩, ⟨ob, hob⟩, fun h1 h2 ⟨o, z1, z2⟩ k => ⟨o, k _ z1, z2⟩⟩
   . rw [up ha] at q
     exact (I.gQ a o q).JW (fun _ _ _ z => z) (fun b z => keep z) (fun b xs z => keep z) fun b u z => keep z
theorem ael {M : Model} {i : Nat} {x : Str} {ps : Pos} {Q : Unit -> Shared -> Prop} (I : Q.m) (hN : X.N.Nodup) (hi : X.N[i]? = some x) (hk : X.env.kindOf x = some .local)
   (h : ∀ s2, Inv X pins (σ.set i none) H s2 -> Q () s2) : wpAny M A (do bindName X.env x .none; unbindBehindTheSuite X.env x ps) Q E s := by
 obtain ⟨m, hn, hl⟩ := id I.loc
 have aac : (X.env.scope.kind == .class || (X.env.scope.kind == .module && X.env.locals != X.env.globals)) = false := by rw [I.ok.kind]; rfl
 have cn := I.cne
 have below : ∀ {b : Addr} {o : Obj}, X.s₀.heap.get? b = some o -> b ≠ X.env.locals := fun {b o} q => aty (atx (atd q) I.ok.above)
 refine wpAny_nameGoes_keeps hk hn aac fun h' v hn' hs => h _ ⟨I.ok, I.os, I.bare, ⟨fun b o q1 q2 q3 q4 => (hs.2 b (below q1)).trans (I.base.keep b o q1 q2 q3 q4), fun b o q1 q2 q3 q4 => ?_, I.base.free, fun b o q1 q2 => ?_, I.base.FZ, I.base.lq, I.base.F0⟩, ⟨_, hn', fun j y w q1 q2 q3 => ?_⟩, fun y c q => ?_, I.free, I.pY, fun p hp => ?_, fun a o q => ?_, by simpa using I.len⟩
 . obtain ⟨sl, z⟩ := I.base.slot b o q1 q2 q3 q4
   exact ⟨sl, (hs.2 b (below q1)).trans z⟩
 . obtain ⟨o', z⟩ := I.base.there b o q1 q2
   exact ⟨o', (hs.2 b (below q1)).trans z⟩
 . by_cases hj : j = i
   . subst hj
     have Lk : j < σ.length := by rw [I.len]; exact (atl.mp hi).1
     rw [at5 Lk] at q2
     cases q2
   . rw [auI (aui hj)] at q2
     obtain ⟨u, r, z⟩ := hl j y w q1 q2 q3
     refine ⟨u, r, ?_⟩
     rcases z with ⟨k, z⟩ | ⟨k, c, z1, z2⟩
     . refine .inl ⟨k, ?_⟩
       have : y ≠ x := fun q => hj (Hq hN q1 (q ▸ hi))
       show (if y = x then v else m y) = some u
       rw [asH this]
       exact z
     . exact .inr ⟨k, c, z1, z2.sameBut hs (cn y c z1)⟩
 . obtain ⟨w, z⟩ := I.cell y c q
   exact ⟨w, z.sameBut hs (cn y c q)⟩
 . obtain ⟨z1, z2, z3, z4⟩ := I.pin p hp
   exact ⟨(hs.2 p.1 z3).trans z1, z2, z3, z4⟩
 . refine (I.gQ a o q).JW (fun c w hc z => (hs.2 c ?_).trans z) (fun _ z => z) fun _ _ z => z
   rintro rfl
   rcases hc with rfl | hc
   . rw [I.free] at q; cases q
   . rw [I.free] at hc; cases hc
theorem aiO {Q : Flow -> Shared -> Prop} {x n : Str} {i : Nat} {Dd : Addr} {np ps : Pos} {b₀ : Stmt} {suite : List Stmt} {rest : List ExceptHandler} (L : Lies X pins σ H s H' e C a0 B s') (hex : X.ex = []) (hN : X.N.Nodup) (hi : X.N[i]? = some n)
   (hk : X.env.kindOf n = some .local) (hl : Loc X.env.scope n) (hf : X.fn n = true \/ X.env.scope.names.lookup n = some .local) (hg : Gl X x) (hm : X.mg x = some (.ref Dd)) (hx : PySem.W.exmOne X.K (.ref C) (.ref Dd) = some true)
   (k : ∀ s4, Inv X pins (σ.set i (some (.ref e))) (upd H' e (.ext (excAt e C))) s4 -> wpAny Q.k (X.hand e).A (execs (b₀ :: suite) X.env) (fun f s5 => ∃ p5 σ5 H5, Inv X p5 σ5 H5 s5 /\ ∀ s6, Inv X p5 (σ5.set i none) H5 s6 -> Q f s6) (fun _ _ => False) s4)
   (hd : Q.s := by decide) :
   wpAny Q.k X.A (handleBy (.ref e) X.env (.ExceptHandler (some (.Name x np)) (some n) (b₀ :: suite) ps :: rest)) Q E s' := by
 have I := L.now
 obtain ⟨ob, hob, hoc⟩ := L.V8.there
 have LT : PySem.W.Looks Q.k s'.heap (typeOf (.ref e)) (.ref C) := by
   rw [← hoc]
   exact (PySem.W.Looks.ld hob).andThen .now
 refine wpAny_handleBy_cons (codeAny_handlers_test (rH (X := X.hand e) (I.hand e) hg hm ?_ hd)) (fun q => by cases q)
 refine (PySem.W.exm_one I.JS LT hx).here ?_
 refine codeAny_handlers_suite_as (lands_againW L.V8 fun h6 hf6 u6 => ?_)
 refine Hr ((L.move (t' := _) hf6 u6).taken hex) hN hi hl (v := .ref e) rfl (fun s7 I7 => ?_) hf
 refine atN (k s7 I7) (fun f s8 z => ?_) fun _ _ z => z.elim
 obtain ⟨_, _, _, I5, q⟩ := z
 exact ael I5 hN hi hk q
end
theorem aR.off {H H' : Hp} {a : Addr} (h : aR H H') (n : H' a = none) : H a = none := by
 cases q : H a with
 | none => rfl
 | some o => rw [h a o q] at n; cases n
end L2
namespace L3
open PySem PySem.Spec PyProof.Rows L2
section
variable {X : Cx} {CL : Q.g} {b : Bx} {δ δ1 δ2 : Q.n} {e e1 e2 : Expr} {fP : List Stmt} {D : gX} {x c : Str} {i : Nat} {pos pp : Pos} {W : XK}
theorem eY {v : V} {u : Value} (hg : Gl X x) (hm : X.mg x = some u) (r : RelV v u) (hd : Q.s := by decide) : dH X CL b Q.B δ (.sh (.val v)) δ := fun H Z σ ts vs Q S k => dS (GC hg hm r hd) (k _ _ Z Q.j Q.j (S.push (.val v)))
theorem BF {v : V} {u : Value} (hg : Gl X x) (hm : X.mg x = none) (hv : bootBuiltins x = some u) (r : RelV v u) (hn : x ≠ "__name__" := by decide) (hd : Q.s := by decide) : dH X CL b Q.B δ (.sh (.val v)) δ := fun H Z σ ts vs Q S k => dS (ads hg hm hv r hn hd) (k _ _ Z Q.j Q.j (S.push (.val v)))
inductive abp (K : Q.l) (C : Addr) : L3.D -> Bool -> Prop
 | one {v : V} {bb : Bool} : Kx v = true -> PySem.W.kitOne K (.ref C) (clsOf v) = some bb -> abp K C (.val v) bb
 | non {vs : List V} : vs.all Kx = true -> (∀ v ∈ vs, PySem.W.kitOne K (.ref C) (clsOf v) = some false) -> abp K C (.tup (vs.map .val)) false
theorem Pw {K : Q.l} {H : Hp} : ∀ {vs us : List V}, aX K CL H (vs.map .val) us -> us = vs
 | [], _, h => by cases h; rfl
 | v :: vs, _, h => by
   cases h with
   | cons r t => cases r; rw [Pw t]
theorem abp.ans {K : Q.l} {C : Addr} {d : L3.D} {bb : Bool} {H : Hp} {y : V} (h : abp K C d bb) (r : cC K CL H d y) : agT K H C y bb := by
 cases h with
 | one hc hk => cases r; exact .inl ⟨hc, hk⟩
 | @non vs hc hk =>
   cases r with
   | @tup a us _ hs hr =>
     cases Pw hr
     refine .inr ⟨a, vs, rfl, hs, hc, Ye fun z hz => ?_⟩
     obtain ⟨v, hv, rfl⟩ := asW.mp hz
     exact hk v hv
theorem dM {a C : Addr} {d2 : L3.D} {bb : Bool} (hz : b.Z a = some (.ext (excAt a C))) (O : kG X.K C) (hm : X.mg "isinstance" = none) (hg : Gl X "isinstance") (h : BAv X CL b [e1, e2] δ [.val (.ref a), d2] δ1) (hc : abp X.K C d2 bb)
   (hs : starEach [e1, e2] X.env = (false, eval e1 X.env) :: starEach [e2] X.env := by exact cE rfl) (hpl : (backTo pos (starEach [e2] X.env)).any (·.1) = false := by rfl) :
   dH X CL b (.Call (.Name "isinstance" pp) [e1, e2] [] pos) δ (.sh (.bl bb)) δ1 := fun H Z σ ts vs Q S k =>
 dS (vY abo hg hm boot_isinstance VL (he := hs) (hpl := hpl)) (h H Z σ ts vs _ S fun us H1 Z1 z1 k1 S1 r => by
   cases r with
   | cons r1 r =>
     cases r with
     | cons r2 r =>
       cases r
       cases r1
       exact ⟨a, C, _, bb, rfl, S1.zh _ _ (S1.zz _ _ hz), O, hc.ans r2, k _ H1 Z1 z1 k1 (S1.push (.bl _))⟩)
abbrev Bx.with (b : Bx) (a : Addr) (o : HO) : Bx := ⟨upd b.B a o, upd b.Z a o⟩
theorem jF {H : Hp} {a : Addr} {o : HO} (h : H a = none) : aR H (upd H a o) := fun c u q => by
 rw [show upd H a o c = H c from asH fun z => by rw [z, h] at q; cases q]
 exact q
theorem HQ {H H' : Hp} {a : Addr} {o : HO} (h : aR H H') : aR (upd H a o) (upd H' a o) := fun c u q => by
 by_cases z : c = a
 . rw [show upd H' a o c = some o from asM z]
   rw [show upd H a o c = some o from asM z] at q
   exact q
 . rw [show upd H' a o c = H' c from asH z]
   rw [show upd H a o c = H c from asH z] at q
   exact h c u q
theorem bY.with {K : Q.l} {H Z : Hp} {σ : L2.St} {ts : List T} {vs : List V} {a : Addr} {o : HO} (S : Q.K) (n : H a = none) (hi : pB o = false) : bY K CL (b.with a o) (upd H a o) (upd Z a o) δ σ ts vs := by
 obtain ⟨fp, gp, e, r, nd, k⟩ := S.rep
 have nz := S.zh.off n
 have ne : ∀ c u, H c = some u -> c ≠ a := fun c u q z => by rw [z, n] at q; cases q
 have up : ∀ {J : Hp} {c : Addr}, c ≠ a -> upd J a o c = J c := fun {J c} z => asH z
 have nf : ∀ c ∈ fp ++ gp, c ≠ a := fun c hc => by
   rcases asQ.mp hc with z | z
   . obtain ⟨u, q⟩ := e.there c z; exact ne c u q
   . obtain ⟨u, q⟩ := r.there c z; exact ne c u q
 refine ⟨⟨fp, gp, e.mono (jF nz) fun c hc => up (nf c (asL _ hc)), r.mono (jF nz) fun c hc => up (nf c (asJ _ hc)), nd, fun c hc => ?_⟩, HQ S.bh, HQ S.zz, HQ S.zh, fun c u q1 q2 => ?_, fun c u q1 q2 => ?_, S.tab.mono (jF (S.zz.off nz))⟩
 . exact ⟨(up (nf c hc)).trans (k c hc).1, (up (nf c hc)).trans (k c hc).2⟩
 . have z : c ≠ a := fun z => by rw [show (b.with a o).Z c = some o from asM z] at q2; cases q2
   rw [up z] at q1
   rw [show (b.with a o).Z c = b.Z c from up z] at q2
   exact (up z).trans (S.new c u q1 q2)
 . by_cases z : c = a
   . rw [show upd H a o c = some o from asM z] at q1
     cases q1
     rw [hi] at q2; cases q2
   . rw [up z] at q1 ⊢
     exact S.tp c u q1 q2
theorem bY.without {K : Q.l} {H Z : Hp} {σ : L2.St} {ts : List T} {vs : List V} {a : Addr} {o : HO} (S : bY K CL (b.with a o) H Z δ σ ts vs) (nb : b.B a = none) (nz : b.Z a = none) (tb : pO CL b.Z) : bY K CL b H Z δ σ ts vs := by
 obtain ⟨fp, gp, e, r, nd, k⟩ := S.rep
 refine ⟨⟨fp, gp, e, r, nd, fun c hc => ⟨(k c hc).1, (jF nb).off (k c hc).2⟩⟩, (jF nb).trans S.bh, (jF nz).trans S.zz, S.zh, fun c u q1 q2 => ?_, S.tp, tb⟩
 by_cases z : c = a
 . rw [z]; exact nb
 . exact (jF nb).off (S.new c u q1 (by rw [show (b.with a o).Z c = b.Z c from asH z]; exact q2))
theorem Meets.with {K : Q.l} {Z : Hp} {ts : List T} {vs : List V} {a : Addr} {o : HO} {E : Ends} (M : Meets K CL b Z ts vs D E) (n : Z a = none) (nb : b.B a = none) (nz : b.Z a = none) (tb : pO CL b.Z) : Meets K CL (b.with a o) (upd Z a o) ts vs D E :=
 ⟨fun _ _ _ _ q S => M.nx _ _ _ _ ((jF n).trans q) (S.without nb nz tb), fun _ _ _ _ _ _ q S => M.rt _ _ _ _ _ _ ((jF n).trans q) (S.without nb nz tb), fun _ _ _ _ q S => M.bk _ _ _ _ ((jF n).trans q) (S.without nb nz tb), fun _ _ _ _ q S => M.ct _ _ _ _ ((jF n).trans q) (S.without nb nz tb)⟩
theorem fO.unset {K : Q.l} {H Z : Hp} {σ : L2.St} {fp : Q.p} (e : fO K CL H Z δ σ fp) : ∀ {j : Nat}, (δ[j]? = some none \/ ∃ d, δ[j]? = some (some (.sh d))) -> fO K CL H Z (δ.set j none) (σ.set j none) fp := by
 induction e with
 | nil => exact fun _ => .nil
 | skip q ih =>
   intro j hj
   cases j with
   | zero => exact .skip q
   | succ j => exact .skip (ih hj)
 | @cons t v δ' σ' f1 f2 rt re ih =>
   intro j hj
   cases j with
   | zero =>
     rcases hj with q | ⟨d, q⟩
     . cases q
     . cases q
       cases rt
       exact .skip re
   | succ j => exact .cons rt (ih hj)
theorem bY.unset {K : Q.l} {H Z : Hp} {σ : L2.St} {ts : List T} {vs : List V} {j : Nat} (S : Q.K) (hj : δ[j]? = some none \/ ∃ d, δ[j]? = some (some (.sh d))) : bY K CL b H Z (δ.set j none) (σ.set j none) ts vs := by
 obtain ⟨fp, gp, e, r, nd, k⟩ := S.rep
 exact ⟨⟨fp, gp, e.unset hj, r, nd, k⟩, S.bh, S.zz, S.zh, S.new, S.tp, S.tab⟩
theorem HR {body : List Stmt} {n : Str} {Dd : Addr} {np hp : Pos} {b₀ : Stmt} {suite : List Stmt} {rest : List ExceptHandler} (vW : X.stack = X.env :: X.outer) (Oo : X.env.frame = some X.env.locals) (hxf : X.xe = fun _ _ => False) (hex : X.ex = []) (nd : X.N.Nodup) (nl : Ln X i n) (hk : X.env.kindOf n = some .local)
   (r : ∀ p, TRs (X.pinned p) CL b body δ c δ1) (hg : Gl X x) (hm : X.mg x = some (.ref Dd)) (hx : PySem.W.exmOne X.K (.ref (CL c)) (.ref Dd) = some true) (hi : i < δ1.length)
   (k : ∀ (a : Addr) (b' : Bx), b'.Z a = some (.ext (excAt a (CL c))) -> dY (X.hand a) CL b' (b₀ :: suite) (δ1.set i (some (.sh (.val (.ref a))))) { nx := fun δ2 => (δ2[i]? = some none \/ ∃ d, δ2[i]? = some (some (.sh d))) /\ dY X CL b' fP (δ2.set i none) D, rt := fun _ _ => False })
   (hd : Q.s := by decide) :
   dY X CL b (.Try body (.ExceptHandler (some (.Name x np)) (some n) (b₀ :: suite) hp :: rest) [] [] pos :: fP) δ D := fun H Z σ ts vs E S M => aaH (Bd psS XI) fun pins s I => by
 refine wpAny_Try_except (atN (r pins H Z σ ts vs { nx := fun _ _ => False, rt := fun _ _ => False } S [] s (I.abm.wish _)) (fun f s1 z => ?_) fun ev s1 z => ?_)
 . cases f with
   | next => obtain ⟨_, _, _, q⟩ := z; exact q.elim
   | brk => obtain ⟨_, _, _, q⟩ := z; exact q.elim
   | cont => obtain ⟨_, _, _, q⟩ := z; exact q.elim
   | ret u => obtain ⟨_, _, _, _, _, q⟩ := z; exact q.elim
 . obtain ⟨e, a0, B, Ke, σ', H1, s0, H', Z', rfl, L, z', S'⟩ := z
   refine alN (X := X.pinned pins) vW Oo L fun s3 L3 => ?_
   have hn := L3.no
   have nZ := S'.zh.off hn
   have nbB := S'.bh.off hn
   have nbZ := S'.zz.off nZ
   have S2 := ((S'.with (o := .ext (excAt e (CL c))) hn rfl).push (v := .ref e) (d := .val (.ref e)) (.val _)).set hi
   have M2 := (M.mono z').with (o := .ext (excAt e (CL c))) nZ nbB nbZ S'.tab
   refine aiO (X := X.pinned pins) L3 hex nd nl.hi hk nl.loc nl.hf hg hm hx (fun s4 I4 => ?_) hd
   have J := (I4.RV I.ok).hand e
   have done : ∀ (σ5 : L2.St) (H5 : Hp), (∃ δ5 Z5, aR (upd Z' e (.ext (excAt e (CL c)))) Z5 /\ bY X.K CL (b.with e (.ext (excAt e (CL c)))) H5 Z5 δ5 σ5 ts vs /\ (δ5[i]? = some none \/ ∃ d, δ5[i]? = some (some (.sh d))) /\ dY X CL (b.with e (.ext (excAt e (CL c)))) fP (δ5.set i none) D) →
       RD X fP E (σ5.set i none) H5 := fun σ5 H5 ⟨δ5, Z5, q1, q2, q3, q4⟩ => q4 H5 Z5 _ ts vs E (q2.unset q3) (M2.mono q1)
   have run := k e (b.with e (.ext (excAt e (CL c)))) (asM rfl) _ _ _ ts vs { nx := fun σ5 H5 => RD X fP E (σ5.set i none) H5, rt := fun _ _ => False } S2 ⟨fun δ5 σ5 H5 Z5 q1 q2 q3 => done σ5 H5 ⟨δ5, Z5, q1, q2, q3.1, q3.2⟩, fun _ _ _ _ _ _ _ _ z => z.elim, fun _ _ _ _ _ _ z => z.elim, fun _ _ _ _ _ _ z => z.elim⟩ pins s4 J
   refine atN run (fun f s5 z => ?_) fun _ _ z => by rw [show (X.hand e).xe = X.xe from rfl, hxf] at z; exact z
   cases f with
   | next =>
     obtain ⟨σ5, H5, I5, q⟩ := z
     exact ⟨[], σ5, H5, (I5.HL I.ok).abm, fun s6 I6 => ⟨_, _, I6.RV I.ok, q⟩⟩
   | brk => obtain ⟨_, _, _, q⟩ := z; exact q.elim
   | cont => obtain ⟨_, _, _, q⟩ := z; exact q.elim
   | ret u => obtain ⟨_, _, _, _, _, q⟩ := z; exact q.elim
theorem Vn.hand {a : Addr} (h : Vn X i x) : Vn (X.hand a) i x := ⟨h.hi, h.hv, h.hd, h.rE⟩
theorem Ln.hand {a : Addr} (h : Ln X i x) : Ln (X.hand a) i x := ⟨⟨h.hi, h.hv, h.hd, h.rE⟩, h.loc, h.hf⟩
theorem sN {t : T} {pos' : Pos} (nd : X.N.Nodup) (n : Ln X i x) (h : Q.Q) (k : dY X CL b fP (δ1.set i (some t)) D) (hl : i < δ1.length := by exact asR rfl) (hs : Q.ay := by rfl) :
   dY X CL b (.Assign [.Name x pos'] e pos :: fP) δ D := c9 (RK i h k hl nd n.hi n.loc hs n.hf)
theorem iR : bootBuiltins "ValueError" = some (.type "ValueError") := Q.f
end
variable {prog : Program} {w : World} {A : Around} {E : Q.v} {s : Shared}
def cD (ns : Q.h) : Nat -> Nat
 | 0 => 0
 | i + 1 => cD ns i + (if rL ns i (ns.getD i Str.empty) = true then 0 else 1)
theorem V9 (ns : Q.h) : ∀ i, cD ns i <= i
 | 0 => as3 _
 | i + 1 => by have := V9 ns i; unfold cD; split <;> omega
variable {a : Addr} {ns : Q.h}
theorem Yg {R : Result -> Shared -> Prop} {I : Addr} {items : Array Value} (hh : A.in1.handled = none) (ZR : a ≠ I) {S : Addr} (hS1 : S ≠ I) (hS2 : S ≠ a) (hn : items.size = ns.length) (hb : ns.length + 1 < scanBound)
   (hv : ∀ (i : Nat) (v : Value), items[i]? = some v -> ∃ x t, ns[i]? = some x /\ v = Value.str x t) :
   ∀ (k i : Nat) (h : Heap) (tk : Nat), i + k = ns.length -> h.IsListIter I a i -> h.IsList a items -> h.SetOf (strKind prog w) S (rL ns i) (cD ns i) →
     (∀ h' tk', (∀ b o, b ≠ S -> b ≠ I -> h.get? b = some o -> h'.get? b = some o) -> h'.SetOf (strKind prog w) S (rL ns ns.length) (cD ns ns.length) -> R (.ok (.ret .none)) { s with heap := h', toks := tk' }) →
     codeAny (model prog w) A (.builtin "set.update.loop" ⟨[.ref S, .ref I], []⟩) R { s with heap := h, toks := tk } := by
 have W := Walks.list (prog := prog) (w := w) (A := A.in1) hh I a ZR items
 have agU : ∀ {h h' : Heap} {f : Str -> Bool} {n : Nat}, (∀ b o, b ∉ [I] -> h.get? b = some o -> h'.get? b = some o) -> h.SetOf (strKind prog w) S f n -> h'.SetOf (strKind prog w) S f n := fun hk ⟨o, es, ep, t, ho, r⟩ => ⟨o, es, ep, t, hk S o (by simp [hS1]) ho, r⟩
 intro k
 induction k with
 | zero =>
   intro i h tk hi hit hl hs hR
   have ei : i = items.size := by omega
   refine codeAny_builtin F.entry_set_update_loop ?_
   rw [Around.under_plainId auX _]
   refine atb (m := pyNext (.ref I)) (W.done { s with heap := h, toks := tk } _ _ ⟨ei ▸ hit, hl⟩ fun h' tk' hk => ?_)
   refine atA (hR h' tk' (fun b o _ b2 e => hk b o (by simp [b2]) e) (agU hk ?_))
   rw [← hn, ← ei]
   rw [ei] at hs ⊢
   exact hs
 | succ k ih =>
   intro i h tk hi hit hl hs hR
   refine codeAny_builtin F.entry_set_update_loop ?_
   rw [Around.under_plainId auX _]
   refine atb (m := pyNext (.ref I)) (W.item i { s with heap := h, toks := tk } _ _ Q.a ⟨hit, hl⟩ fun v h1 t1 hv1 st1 hk => ?_)
   obtain ⟨x, t, hx, rfl⟩ := hv i v hv1
   have hs1 := agU hk hs
   have hxi : i < ns.length := by omega
   have hxe : ns[i] = x := (atl.mp hx).2
   have hle := V9 ns i
   have hgd : ns.getD i Str.empty = x := by rw [asU, hx]; rfl
   refine atb (m := holding [Value.str x t] (setAdd S (.str x t))) (aun ?_)
   unfold setAdd
   refine aun (atb ((strKind prog w).pyHash (k := x) (strKind_is _ _ _ _) ?_))
   refine wpAny_setAddHashed_of (knd := strKind prog w) (strKind_is _ _ _ _) rfl hs1 Q.a fun h2 sb Om => ?_
   have hs3 : h2.SetOf (strKind prog w) S (rL ns (i + 1)) (cD ns (i + 1)) := by
     have ec : cD ns (i + 1) = (if rL ns i x = true then cD ns i else cD ns i + 1) := by
       show cD ns i + (if rL ns i (ns.getD i Str.empty) = true then 0 else 1) = _
       rw [hgd]
       split <;> rfl
     have e : (fun k' => rL ns i k' || decide (k' = x)) = rL ns (i + 1) := by
       funext q
       unfold rL
       rw [auC, hx, ← Bool.decide_or]
       exact decide_eq_decide.mpr Q.r
     rw [← e, ec]
     exact Om
   have k12 : ∀ b o, b ≠ S -> h1.get? b = some o -> h2.get? b = some o := fun b o hb e => (sb.2 b hb).trans e
   refine atA ⟨plainId_quiet auX _, ih (i + 1) h2 _ Q.a (st1.1.at fun o e => k12 I o (aui hS1) e) (st1.2.at fun o e => k12 a o (aui hS2) e) hs3 fun h' tk' hk2 hs' => ?_⟩
   exact hR h' tk' (fun b o b1 b2 e => hk2 b o b1 b2 (k12 b o b1 (hk b o (by simp [b2]) e))) hs'
theorem LQ {items : Array Value} {Q : Q.v} (hh : A.handled = none) (hl : s.heap.IsList a items) (hn : items.size = ns.length) (hb : ns.length + 1 < scanBound)
   (hv : ∀ (i : Nat) (v : Value), items[i]? = some v -> ∃ x t, ns[i]? = some x /\ v = Value.str x t)
   (hQ : ∀ h' tk, h'.SetOf (strKind prog w) s.heap.objs.size (rL ns ns.length) (cD ns ns.length) -> (∀ b o, s.heap.get? b = some o -> h'.get? b = some o) -> Q (.ref s.heap.objs.size) { s with heap := h', toks := tk }) :
   wpAny (model prog w) A (call (.type "set") [.ref a]) Q E s := by
 obtain ⟨c, tl, q1⟩ := aur.mro
 have q2 := aur.made; have q3 := aur.sub; have q4 := aur.notType; have q5 := aur.canCreate; have q6 := F.typeCall_set_1 (.ref a)
 refine wpAny_call (codeAny_of_tree (show wpAny _ _ (callAny (.type "set") _) _ _ _ from atA ⟨Code.quiet_builtin _ Q.d, codeAny_builtin F.entry_type_call ?_⟩))
 rw [Around.under_plain (weight_type_call_type "set" [.ref a] []) rfl]
 repeat (any_goals (first | assumption | wp_step))
 refine auE (code_set_new_1 (.ref a) (E := E) (Q₁ := fun z s₁ => ∃ led : Bool, z = .ref s.heap.objs.size /\ s₁ = { s with heap := s.heap.push { cls := .type "set", dict := none, data := .set #[] 0 (.fresh 0 0 led) } }) fun led => ⟨led, rfl, rfl⟩) fun r s1 hr => ?_
 cases r with
 | error e => exact hr
 | ok fl =>
   cases fl with
   | ret z =>
     obtain ⟨led, rfl, rfl⟩ := hr
     have hS : (s.heap.push { cls := .type "set", dict := none, data := .set #[] 0 (.fresh 0 0 led) }).get? s.heap.objs.size = some { cls := .type "set", dict := none, data := .set #[] 0 (.fresh 0 0 led) } := atz _ rfl
     have hT : Shared.TypeIs { s with heap := s.heap.push { cls := .type "set", dict := none, data := .set #[] 0 (.fresh 0 0 led) } } (.ref s.heap.objs.size) "set" := ⟨_, hS, rfl⟩
     have q7 := aur.init.lookup; have q8 := aur.init.bind (.ref s.heap.objs.size)
     repeat (any_goals (first | assumption | wp_step))
     refine auE (codeAny_call_builtin (R := wants (fun r s2 => r = .none /\ ∃ h' tk, s2 = { s with heap := h', toks := tk } /\ h'.SetOf (strKind prog w) s.heap.objs.size (rL ns ns.length) (cD ns ns.length) /\ ∀ b o, s.heap.get? b = some o -> h'.get? b = some o) E) aur.init.plain F.entry_set_init (check_set_init_1 hT ?body)) fun r2 s2 hr2 => ?back
     case back =>
       cases r2 with
       | error e => exact hr2
       | ok fl =>
         cases fl with
         | ret z =>
           obtain ⟨rfl, h', tk, rfl, hS', hk'⟩ := hr2
           repeat (any_goals (first | assumption | wp_step))
           exact hQ _ _ hS' hk'
         | _ => exact hr2.elim
     case body =>
       have h0 := hl
       obtain ⟨⟨oc, od, ob, os⟩, hol, hcl, nl, hdl⟩ := hl
       cases hcl
       cases hdl
       have aoO : (s.heap.push { cls := .type "set", dict := none, data := .set #[] 0 (.fresh 0 0 led) }).get? a = some { cls := .type "list", dict := od, data := .seq items nl, slots := os } := as6 _ hol
       have hl1 : (s.heap.push { cls := .type "set", dict := none, data := .set #[] 0 (.fresh 0 0 led) }).IsList a items := ⟨_, aoO, rfl, nl, rfl⟩
       have p1 := F.sub_list_set; have p2 := F.sub_list_frozenset
       have p3 : (Value.type "list" == Value.type "dict") = false := by decide
       have ha : a < s.heap.objs.size := atd hol
       have hz : (s.heap.push { cls := .type "set", dict := none, data := .set #[] 0 (.fresh 0 0 led) }).objs.size = s.heap.objs.size + 1 := Heap.size_push ..
       unfold Builtin.«set.__init__» noKeywords Builtin.Frozenset.updateFrom
       generalize hPI : pyIter = PI
       wp_walk
       subst hPI
       refine wpAny_pyIter_list hl1 (atb (wpAny_runValue ?_))
       refine Yg (A := A.in1.in1) (S := s.heap.objs.size) (by simp [hh]) (by rw [hz]; exact aty (Nat.lt_succ_of_lt ha)) (by rw [hz]; exact aty (auK _)) (Nat.ne_of_gt ha) hn hb hv ns.length 0 _ _ (Nat.zero_add _) ⟨_, atz _ rfl, rfl, rfl⟩ (hl1.push _) ?_ fun h' tk' hk hS' => ?_
       . have hg : ((s.heap.push { cls := .type "set", dict := none, data := .set #[] 0 (.fresh 0 0 led) }).push { cls := .type "list_iterator", data := .fields #[.ref a, .int 0 0] }).get? s.heap.objs.size = some { cls := .type "set", dict := none, data := .set #[] 0 (.fresh 0 0 led) } := as6 _ hS
         exact SetOf_congr ((setObjOf_fresh (knd := strKind prog w) led).setOf hg (by unfold scanBound; omega)) (fun q => by unfold rL; simp) rfl
       . refine atA (atA ⟨rfl, h', tk', rfl, hS', fun b o e => hk b o (aty (atd e)) ?_ (as6 _ (as6 _ e))⟩)
         rw [hz]
         exact aty (Nat.lt_succ_of_lt (atd e))
   | _ => exact hr.elim
variable {X : Cx}
theorem RW (hc : X.calm = true) : vq X (.type "set") (fun xs H Q => ∃ (p : Addr) (ns : Q.h), xs = [.ref p] /\ vJ X.K H p (ns.map V.str) /\ ns.length <= 1000 /\ ∀ l, H l = none -> Q (.ref l) (upd H l (.ext (abd X.prog X.w l (cD ns ns.length))))) := by
 intro pins s σ H xs us Q I r h
 obtain ⟨p, ns, rfl, hp, hn, q⟩ := h
 obtain ⟨u, rfl, ru⟩ := vals1 r
 cases ru
 obtain ⟨its, rv, pl, hz⟩ := I.list hp
 have hl : its.length = ns.length := by rw [← rv.length, asG]
 have hv : ∀ {ns : Q.h} {us : Q.q}, Vals (ns.map V.str) us -> ∀ (i : Nat) (v : Value), us[i]? = some v -> ∃ x t, ns[i]? = some x /\ v = Value.str x t := by
   intro ns
   induction ns with
   | nil => intro us h i v e; cases h; cases i <;> cases e
   | cons y ns ih =>
     intro us h i v e
     cases h with
     | cons r rr =>
       obtain ⟨t, rfl⟩ := r
       cases i with
       | zero => cases e; exact ⟨y, t, rfl, rfl⟩
       | succ i => exact ih rr i v e
 refine LQ (ns := ns) (I.ok.hd hc) pl.isList (by rw [List.size_toArray, hl]) (by unfold scanBound; omega) (fun i v e => hv rv i v (by simpa using e)) fun h' tk hS ek => ?_
 have hS2 : abd X.prog X.w s.heap.objs.size (cD ns ns.length) h' := ⟨_, hS⟩
 refine ⟨.ref s.heap.objs.size, _, I.laid (t' := tk) (o := .ext (abd X.prog X.w s.heap.objs.size (cD ns ns.length))) ek (as3 _) ⟨hS2, ?_, ?_⟩, rfl, q _ (I.gQ.fresh (as3 _))⟩
 . obtain ⟨_, o, _, _, _, e, _⟩ := hS2
   exact ⟨o, e⟩
 . rintro h1 h2 ⟨S, o, es, ep, t, e, rest⟩ k
   exact ⟨S, o, es, ep, t, k o e, rest⟩
variable {CL : Q.g} {b : Bx} {δ δ1 : Q.n} {e : Expr} {pos pp pq pr : Pos}
theorem RX (g : Gx X) (hm : X.mg "len" = none) (hmr : X.mg "set" = none) (h : eF X CL b e δ (.lst (ns.map D.str)) δ1) (hn : ns.length <= 1000) (hg : Gl X "len") (hgr : Gl X "set") (hs : Q.V := by exact cE rfl) :
   dH X CL b (.Call (.Name "len" pp) [.Call (.Name "set" pq) [e] [] pr] [] pos) δ (.sh (.int (cD ns ns.length : Nat))) δ1 := fun H Z σ ts vs Q S k =>
 dS (vY LN hg hm PySem.boot_len (dh (qC (RW g.calm) hgr hmr X7 (dh fh iy hs) (he := hs)) iy (cE rfl)) (he := cE rfl)) (h H Z σ ts vs _ S fun v H1 Z1 z1 k1 S1 r => by
   cases r with
   | lst hq rr =>
   have eu := X8 rr
   refine ⟨_, ns, rfl, by rw [← eu]; exact hq, hn, fun r hr => ⟨r, cD ns ns.length, rfl, bR, asS (V9 ns ns.length) hn, ?_⟩⟩
   have same : aR H1 (upd H1 r (.ext (abd X.prog X.w r (cD ns ns.length)))) := aR.upd hr
   obtain ⟨Z', z', S2⟩ := S1.back (t := .sh (.int (cD ns ns.length : Nat))) (v := .int (cD ns ns.length : Nat)) (fp := []) (W := Z1) (W' := Z1) same Q.j Q.j (S1.zh.trans same) (fun a o q z => by rw [q] at z; cases z) (fun a o q im => by
     by_cases ha : a = r
     . subst ha; rw [bR] at q; cases q; cases im
     . rw [aP ha] at q; exact S1.tp a o q im) (.sh (.int _)) aua (fun a ha => by cases ha) (.inl rfl)
   exact k _ _ _ (z1.trans z') (k1.trans same) S2)
theorem Wa {ns : Q.h} : ∀ i, i <= ns.length -> (cD ns i = i ↔ (ns.take i).Nodup)
 | 0, _ => by rw [List.take_zero]; exact ⟨fun _ => aua, fun _ => rfl⟩
 | i + 1, hi => by
   have ih := Wa (ns := ns) i Q.a
   have hle := V9 ns i
   have hx : ns[i]? = some (ns.getD i Str.empty) := by rw [asU, as2 Q.a]; rfl
   rw [auC, hx, Option.toList_some, atr, ← ih]
   show cD ns i + (if rL ns i (ns.getD i Str.empty) = true then 0 else 1) = i + 1 ↔ _
   unfold rL
   by_cases z : ns.getD i Str.empty ∈ ns.take i
   . rw [asM (asN z)]
     refine ⟨fun q => by omega, fun q => absurd rfl (q.2.2 _ z _ (ati.mpr rfl))⟩
   . rw [asH (fun q => z (asI q))]
     refine ⟨fun q => ⟨by omega, atL.mpr ⟨as8, aua⟩, fun a ha c hc e => z ?_⟩, fun q => by omega⟩
     rw [← ati.mp hc, ← e]
     exact ha
theorem aiQ : cD ns ns.length = ns.length ↔ ns.Nodup := by
 have := Wa (ns := ns) ns.length (as3 _)
 rwa [List.take_length] at this
variable {i : Nat} {x : Str}
theorem Ln.pin {p : Q.o} (h : Ln X i x) : Ln (X.pinned p) i x := ⟨⟨h.hi, h.hv, h.hd, h.rE⟩, h.loc, h.hf⟩
inductive LR where
 | ix (j : Nat) | fld (f : Str)
def T.core : T -> T
 | .pin _ t => t
 | t => t
def T.RZ : T -> T -> T
 | .pin y _, u => .pin y u
 | _, u => u
def T.kid : LR -> T -> Option T
 | .ix j, .lst ts => ts[j]?
 | .ix j, .tup ts => ts[j]?
 | .fld f, .ins _ fs => fs.lookup f
 | _, _ => none
def T.abq : LR -> T -> T -> T
 | .ix j, .lst ts, u => .lst (ts.set j u)
 | .ix j, .tup ts, u => .tup (ts.set j u)
 | .fld f, .ins c fs, u => .ins c (Bu f u fs)
 | _, t, _ => t
def T.zq : List LR -> T -> Option T
 | [], t => some t.core
 | s :: p, t => (t.core.kid s).bind (T.zq p)
def T.F4 : List LR -> T -> T -> T
 | [], u, t => t.RZ u
 | s :: p, u, t => match t.core.kid s with
   | some k => t.RZ (t.core.abq s (T.F4 p u k))
   | none => t
def At1 (H : Hp) (v : V) : LR -> V -> Prop
 | .ix j, w => ∃ a us, v = .ref a /\ (H a = some (.lst us) \/ H a = some (.tup us)) /\ us[j]? = some w
 | .fld f, w => ∃ a C dx gs, v = .ref a /\ H a = some (.ins C dx gs) /\ gs.lookup f = some w
def KC (H : Hp) : V -> List LR -> V -> Prop
 | v, [], w => v = w
 | v, s :: p, w => ∃ u, At1 H v s u /\ KC H u p w
variable {H H' : Hp} {v : V}
theorem At1.mono (e : aR H H') {w : V} {s : LR} (h : At1 H v s w) : At1 H' v s w := by
 cases s with
 | ix j => obtain ⟨a, us, h1, h2, h3⟩ := h; exact ⟨a, us, h1, h2.imp (e _ _) (e _ _), h3⟩
 | fld f => obtain ⟨a, C, dx, gs, h1, h2, h3⟩ := h; exact ⟨a, C, dx, gs, h1, e _ _ h2, h3⟩
theorem At1.inj {w w' : V} {s : LR} (h : At1 H v s w) (q : At1 H v s w') : w = w' := by
 cases s with
 | ix j =>
   obtain ⟨a, us, h1, h2, h3⟩ := h
   obtain ⟨a', us', q1, q2, q3⟩ := q
   subst h1
   cases q1
   have e : us = us' := by
     rcases h2 with h2 | h2 <;> rcases q2 with q2 | q2 <;> rw [h2] at q2 <;> cases q2 <;> rfl
   subst e
   rw [h3] at q3
   exact atv q3
 | fld f =>
   obtain ⟨a, C, dx, gs, h1, h2, h3⟩ := h
   obtain ⟨a', C', dx', gs', q1, q2, q3⟩ := q
   subst h1
   cases q1
   rw [h2] at q2
   cases q2
   rw [h3] at q3
   exact atv q3
theorem KC.mono {H H' : Hp} (e : aR H H') : ∀ {p : List LR} {v w : V}, KC H v p w -> KC H' v p w
 | [], _, _, h => h
 | _ :: _, _, _, ⟨u, h, q⟩ => ⟨u, h.mono e, KC.mono e q⟩
theorem KC.inj {H : Hp} : ∀ {p : List LR} {v w w' : V}, KC H v p w -> KC H v p w' -> w = w'
 | [], _, _, _, h, q => h.symm.trans q
 | _ :: _, _, _, _, ⟨_, h1, h2⟩, ⟨_, q1, q2⟩ => by
   have := h1.inj q1
   subst this
   exact KC.inj h2 q2
theorem KC.snoc {H : Hp} {s : LR} : ∀ {p : List LR} {v w z : V}, KC H v p w -> At1 H w s z -> KC H v (p ++ [s]) z
 | [], _, _, z, h, q => by
   have h' : _ = _ := h
   subst h'
   exact ⟨z, q, rfl⟩
 | _ :: _, _, _, _, ⟨u, h1, h2⟩, q => ⟨u, h1, KC.snoc h2 q⟩
variable {K : Q.l} {Z Z' : Hp} {σ : L2.St} {ts tl : List T} {vs us : List V} {t u t0 : T} {v0 w : V} {fp : Q.p} {p : List LR}
theorem cL.abr (h : cL K CL H Z t v fp) : cL K CL H Z t.core v fp /\ ∀ {H' Z' : Hp} {u : T} {g : Q.p}, cL K CL H' Z' u v g -> cL K CL H' Z' (t.RZ u) v g := by
 cases h with
 | pin r => exact ⟨r, fun q => .pin q⟩
 | sh r => exact ⟨.sh r, fun q => q⟩
 | tup r q => exact ⟨.tup r q, fun q => q⟩
 | lst r q => exact ⟨.lst r q, fun q => q⟩
 | ins r q => exact ⟨.ins r q, fun q => q⟩
 | vt r q => exact ⟨.vt r q, fun q => q⟩
 | dct r q => exact ⟨.dct r q, fun q => q⟩
theorem eO.at {f : Str} : ∀ (fs : List (Str × T)) {gs : List (Str × V)} {fp : Q.p}, eO K CL H Z fs gs fp -> fs.lookup f = some t -> ∃ w f1 f2 f3, gs.lookup f = some w /\ fp = f1 ++ (f2 ++ f3) /\ cL K CL H Z t w f2 ∧
   ∀ {H' : Hp} {t' : T} {g : Q.p}, (∀ a ∈ f1 ++ f3, H' a = H a) -> cL K CL H' Z t' w g -> eO K CL H' Z (Bu f t' fs) gs (f1 ++ (g ++ f3)) := by
 intro fs
 induction fs with
 | nil => intro gs fp h e; cases e
 | cons p fs ih =>
   obtain ⟨x, t0⟩ := p
   intro gs fp h e
   cases h with
   | @cons _ _ v _ vs f0 g0 r rs =>
     rw [atu] at e
     cases hx : f == x with
     | true =>
       rw [hx] at e
       cases e
       have hxe : x = f := (auJ.mp hx).symm
       refine ⟨v, [], f0, g0, by rw [atu, hx], rfl, r, fun {H' t' g} kk r' => ?_⟩
       rw [Bu, asM hxe]
       exact eO.cons (fp := g) (gp := g0) r' (rs.mono Q.j fun a ha => kk a (by simpa using ha))
     | false =>
       rw [hx] at e
       obtain ⟨w, f1, f2, f3, h1, h2, h3, h4⟩ := ih rs e
       subst h2
       refine ⟨w, f0 ++ f1, f2, f3, by rw [atu, hx]; exact h1, by rw [asO], h3, fun {H' t' g} kk r' => ?_⟩
       rw [Bu, asH (fun z => by rw [z, auq] at hx; cases hx), asO]
       exact .cons (r.mono Q.j fun a ha => kk a (by simp [ha])) (h4 (fun a ha => kk a (by rw [asO]; exact asJ _ ha)) r')
theorem cL.kid {s : LR} {k : T} (zh : aR Z H) (h : cL K CL H Z t v fp) (hk : t.kid s = some k) : ∃ w f1 f2 f3, At1 H v s w /\ fp = f1 ++ (f2 ++ f3) /\ cL K CL H Z k w f2 ∧
   ∀ {H' : Hp} {k' : T} {g : Q.p}, (∀ c ∈ f1 ++ f3, H' c = H c) -> cL K CL H' Z k' w g -> cL K CL H' Z (t.abq s k') v (f1 ++ (g ++ f3)) := by
 cases s with
 | ix j =>
   cases h with
   | @lst a us ts g ha rs =>
     obtain ⟨w, f1, f2, f3, h1, h2, h3, h4⟩ := rs.at (j := j) (t := k) hk
     subst h2
     refine ⟨w, a :: f1, f2, f3, ⟨a, us, rfl, .inl ha, h1⟩, rfl, h3, fun {H' k' g} kk r' => ?_⟩
     have q := h4 (fun c hc => kk c (asV _ hc)) r'
     rw [iQ h1] at q
     exact .lst ((kk a asT).trans ha) q
   | @tup a us ts g ha rs =>
     obtain ⟨w, f1, f2, f3, h1, h2, h3, h4⟩ := rs.at (j := j) (t := k) hk
     subst h2
     refine ⟨w, f1, f2, f3, ⟨a, us, rfl, .inr (zh _ _ ha), h1⟩, rfl, h3, fun {H' k' g} kk r' => ?_⟩
     have q := h4 kk r'
     rw [iQ h1] at q
     exact .tup ha q
   | _ => cases hk
 | fld f =>
   cases h with
   | @ins a dx c gs fs g ha rs =>
     obtain ⟨w, f1, f2, f3, h1, h2, h3, h4⟩ := eO.at fs rs (f := f) (t := k) hk
     subst h2
     refine ⟨w, a :: f1, f2, f3, ⟨a, _, dx, gs, rfl, ha, h1⟩, rfl, h3, fun {H' k' g} kk r' => ?_⟩
     exact .ins ((kk a asT).trans ha) (h4 (fun c hc => kk c (asV _ hc)) r')
   | _ => cases hk
theorem cL.focus (zh : aR Z H) : ∀ (p : List LR) {t u : T} {v : V} {fp : Q.p}, cL K CL H Z t v fp -> T.zq p t = some u -> ∃ w f1 f2 f3, KC H v p w /\ fp = f1 ++ (f2 ++ f3) /\ cL K CL H Z u w f2 ∧
   ∀ {H' : Hp} {u' : T} {g : Q.p}, (∀ c ∈ f1 ++ f3, H' c = H c) -> cL K CL H' Z u' w g -> cL K CL H' Z (T.F4 p u' t) v (f1 ++ (g ++ f3))
 | [], t, u, v, fp, h, e => by
   obtain ⟨h1, h2⟩ := h.abr
   cases e
   exact ⟨v, [], fp, [], rfl, by simp, h1, fun {H' u' g} _ r => by rw [aub, atw]; exact h2 r⟩
 | s :: p, t, u, v, fp, h, e => by
   obtain ⟨h1, h2⟩ := h.abr
   rw [T.zq] at e
   cases hk : t.core.kid s with
   | none => rw [hk] at e; cases e
   | some k =>
     rw [hk] at e
     obtain ⟨w1, a1, a2, a3, q1, q2, q3, q4⟩ := h1.kid zh hk
     obtain ⟨w, f1, f2, f3, r1, r2, r3, r4⟩ := cL.focus zh p q3 e
     subst q2 r2
     refine ⟨w, a1 ++ f1, f2, f3 ++ a3, ⟨w1, q1, r1⟩, by simp only [asO], r3, fun {H' u' g} kk r' => ?_⟩
     rw [T.F4, hk]
     have q := h2 (q4 (k' := T.F4 p u' k) (fun c hc => kk c (by
       rcases asQ.mp hc with h | h
       . simp [h]
       . simp [h])) (r4 (fun c hc => kk c (by
       rcases asQ.mp hc with h | h
       . simp [h]
       . simp [h])) r'))
     simpa only [List.append_assoc] using q
theorem bY.R0 (S : Q.K) (ev : σ[i]? = some (some v0)) (hi : δ[i]? = some (some t0)) (hp : T.zq p t0 = some u) (J4 : KC H v0 p w) : ∃ f2 gp, cL K CL H Z u w f2 /\ bJ K CL H Z ts vs gp /\ (f2 ++ gp).Nodup ∧
   ∀ {a : Addr} {o : HO} {u' : T} {tl' : List T} {us' : List V} {g VW : Q.p}, w = .ref a -> a ∈ f2 -> pB o = false -> cL K CL (upd H a o) Z u' w g -> bJ K CL (upd H a o) Z tl' us' VW -> (g ++ VW).Nodup -> (∀ c ∈ g ++ VW, c ∈ f2 ++ gp) →
     bY K CL b (upd H a o) Z (δ.set i (some (T.F4 p u' t0))) σ tl' us' := by
 obtain ⟨fp, gp, e, r, nd, k⟩ := S.rep
 obtain ⟨v1, e1, e2, e3, hv, v8, rt, put, _⟩ := e.get hi
 rw [ev] at hv
 cases hv
 obtain ⟨w', f1, f2, f3, at', hf, ru, put2⟩ := rt.focus S.zh p hp
 have hw := at'.inj J4
 subst hw
 subst hf
 subst v8
 have hpm : ((e1 ++ ((f1 ++ (f2 ++ f3)) ++ e3)) ++ gp).Perm ((e1 ++ (f1 ++ (f3 ++ e3))) ++ (f2 ++ gp)) := aut.mpr fun c => by
   simp only [auD]; omega
 have nd0 := hpm.nodup_iff.mp nd
 have V7 := atr.mp nd0
 refine ⟨f2, gp, ru, r, V7.2.1, fun {a o u' tl' us' g VW} hwa ha hm hu ht hnd aaK => ?_⟩
 have hup : ∀ c ∈ e1 ++ (f1 ++ (f3 ++ e3)), upd H a o c = H c := fun c hc => aP fun z => V7.2.2 c hc a (asL _ ha) z
 have q1 := put2 (H' := upd H a o) (fun c hc => hup c (by
   rcases asQ.mp hc with h | h
   . simp [h]
   . simp [h])) hu
 have q2 := put (H' := upd H a o) Q.j (fun c hc => hup c (by
   rcases asQ.mp hc with h | h
   . simp [h]
   . simp [h])) q1
 rw [iQ ev] at q2
 have alR : ((e1 ++ ((f1 ++ (g ++ f3)) ++ e3)) ++ VW).Perm ((e1 ++ (f1 ++ (f3 ++ e3))) ++ (g ++ VW)) := aut.mpr fun c => by
   simp only [auD]; omega
 refine S.RM hm k (by simp [ha]) q2 ht (alR.nodup_iff.mpr (atr.mpr ⟨V7.1, hnd, fun c hc d hd => V7.2.2 c hc d (aaK d hd)⟩)) fun c hc => ?_
 refine hpm.mem_iff.mpr ?_
 rcases asQ.mp (alR.mem_iff.mp hc) with h | h
 . exact asL _ h
 . exact asJ _ (aaK c h)
theorem bY.aen (S : Q.K) (ev : σ[i]? = some (some v0)) (hi : δ[i]? = some (some t0)) (hp : T.zq p t0 = some u) : ∃ w f2, KC H v0 p w /\ cL K CL H Z u w f2 := by
 obtain ⟨fp, gp, e, r, nd, k⟩ := S.rep
 obtain ⟨v1, e1, e2, e3, hv, v8, rt, put, _⟩ := e.get hi
 rw [ev] at hv
 cases hv
 obtain ⟨w', f1, f2, f3, at', hf, ru, put2⟩ := rt.focus S.zh p hp
 exact ⟨w', f2, at', ru⟩
theorem bY.aeo (S : Q.af) (ev : σ[i]? = some (some v0)) (hi : δ[i]? = some (some t0)) (hp : T.zq p t0 = some (.lst tl)) (J4 : KC H v0 p w) :
   ∃ a us, w = .ref a /\ H a = some (.lst us) /\ us.length = tl.length /\ bY K CL b (upd H a (.lst (us ++ [v]))) Z (δ.set i (some (T.F4 p (.lst (tl ++ [t])) t0))) σ ts vs := by
 obtain ⟨f2, gp, ru, rr, nd, go⟩ := S.R0 ev hi hp J4
 cases ru with
 | @lst a us _ g ha rs =>
   cases rr with
   | @cons _ _ _ _ ft gr q1 q2 =>
     have ne : ∀ c ∈ g ++ (ft ++ gr), c ≠ a := fun c hc z => by subst z; exact (atL.mp nd).1 hc
     have pm : ((a :: (g ++ (ft ++ []))) ++ gr).Perm ((a :: g) ++ (ft ++ gr)) := aut.mpr fun c => by simp only [auD, List.count_cons, List.count_nil]; omega
     exact ⟨a, us, rfl, ha, rs.length.symm, go rfl asT rfl (.lst bR (bJ.app (rs.mono Q.j fun c hc => aP Q.T) (.cons (q1.mono Q.j fun c hc => aP Q.T) .nil)))
       (q2.mono Q.j fun c hc => aP Q.T) (pm.nodup_iff.mpr nd) fun c hc => pm.mem_iff.mp hc⟩
variable {j : Nat}
theorem bY.aiS (S : Q.af) (ev : σ[i]? = some (some v0)) (hi : δ[i]? = some (some t0)) (hp : T.zq p t0 = some (.lst tl)) (J4 : KC H v0 p w) (hj : j < tl.length) :
   ∃ a us, w = .ref a /\ H a = some (.lst us) /\ us.length = tl.length /\ bY K CL b (upd H a (.lst (us.set j v))) Z (δ.set i (some (T.F4 p (.lst (tl.set j t)) t0))) σ ts vs := by
 obtain ⟨f2, gp, ru, rr, nd, go⟩ := S.R0 ev hi hp J4
 cases ru with
 | @lst a us _ g ha rs =>
   cases rr with
   | @cons _ _ _ _ ft gr q1 q2 =>
     obtain ⟨w0, g1, g2, g3, h1, h2, h3, h4⟩ := rs.at (as2 hj)
     subst h2
     have ne : ∀ c ∈ (g1 ++ (g2 ++ g3)) ++ (ft ++ gr), c ≠ a := fun c hc z => by subst z; exact (atL.mp nd).1 hc
     have sb : ((a :: (g1 ++ g3)) ++ (ft ++ gr)).Sublist ((a :: (g1 ++ (g2 ++ g3))) ++ (ft ++ gr)) := by
       simp only [att, asO]
       exact List.Sublist.cons₂ _ (atn (atq _) (atO _ _))
     have pm : ((a :: (g1 ++ (ft ++ g3))) ++ gr).Perm ((a :: (g1 ++ g3)) ++ (ft ++ gr)) := aut.mpr fun c => by simp only [auD, List.count_cons]; omega
     exact ⟨a, us, rfl, ha, rs.length.symm, go rfl asT rfl (.lst bR (h4 (fun c hc => aP (ne c (by
         rcases asQ.mp hc with h | h
         . simp [h]
         . simp [h]))) (q1.mono Q.j fun c hc => aP Q.T)))
       (q2.mono Q.j fun c hc => aP Q.T) (pm.nodup_iff.mpr (nd.sublist sb)) fun c hc => sb.subset (pm.mem_iff.mp hc)⟩
section
variable {e0 e2 : Expr} {t1 : T} {Rh : List T} {d : L3.D} {D : gX} {pa pb ps : Pos} {fP : List Stmt}
def TPv (X : Cx) (CL : Q.g) (b : Bx) (e : Expr) (δ : Q.n) (i : Nat) (p : List LR) : Prop :=
 ∀ (H Z : Hp) (σ : L2.St) (ts : List T) (vs : List V) (Q : VK), bY X.K CL b H Z δ σ ts vs -> (∀ v0 v H' Z', aR Z Z' -> aR H H' -> bY X.K CL b H' Z' δ σ ts vs -> σ[i]? = some (some v0) -> KC H' v0 p v -> Q v H') -> Le X e σ H Q
theorem aW (n : Vn X i x) (h : δ[i]? = some (some t)) : TPv X CL b Q.B δ i [] := fun H Z σ ts vs Q S k => by
 obtain ⟨v, hv, _⟩ := S.look h
 exact dS (ow n.hi n.hv n.hd n.rE) ⟨v, hv, k v v H Z Q.j Q.j S hv rfl⟩
theorem ck {z : Int} (h : TPv X CL b e δ i p) (hi : δ[i]? = some (some t)) (hg : T.zq p t = some (.lst tl)) (h2 : eF X CL b e2 δ (.int z) δ) (hk : xM tl.length z = some j) (hp : Bk e2 := by exact fun _ _ => rfl) :
   TPv X CL b (.Subscript e e2 pos) δ i (p ++ [.ix j]) := fun H Z σ ts vs Q S k =>
 dS (OO VG fh fh hp) (h H Z σ ts vs _ S fun v0 v H' Z' z1 s1 S' ev J4 => h2 H' Z' σ ts vs _ S' fun v2 H2 Z2 z2 s2 S2 r2 => by
   have at2 := J4.mono s2
   obtain ⟨w, f2, at', r⟩ := S2.aen ev hi hg
   have := at'.inj at2
   subst this
   cases r with
   | @lst a us _ g ha rs =>
     have hj : j < tl.length := (Bj hk).2.1
     obtain ⟨w, _, _, _, hw, _, _, _⟩ := rs.at (as2 hj)
     refine ⟨a, us, z, w, rfl, r2.sc rfl, vJ.of ha, ?_, k v0 w H2 Z2 Q.w (s1.trans s2) S2 ev (at2.snoc ⟨a, us, rfl, .inl ha, hw⟩)⟩
     unfold Bc
     rw [← rs.length, hk]
     exact hw)
theorem cZ (h : TPv X CL b e δ i p) (hi : δ[i]? = some (some t)) (hg : T.zq p t = some u) (hd : u.iX = d) : eF X CL b e δ d δ := fun H Z σ ts vs Q S k =>
 h H Z σ ts vs _ S fun v0 v H' Z' z s S' ev J4 => by
   obtain ⟨w, f2, at', r⟩ := S'.aen ev hi hg
   have := at'.inj J4
   subst this
   subst hd
   exact k _ H' Z' z s S' (r.iX S'.zh fun _ _ => rfl)
theorem wm (hE : TPv X CL b e0 δ i p) (h0 : δ[i]? = some (some t0)) (Yh : T.zq p t0 = some (.lst Rh)) (h : Q.Q) (h1 : δ1[i]? = some (some t1)) (ZT : T.zq p t1 = some (.lst tl)) (hl : tl.length <= 1000000) (k : dY X CL b fP (δ1.set i (some (T.F4 p (.lst (tl ++ [t])) t1))) D)
   (Bo : attributeBase e0 "append" X.env (eval e0 X.env) = eval e0 X.env := by rfl)
   (Ld : Q.aQ := by rfl)
   (hline : (pa.endLine == pb.line) = true := by rfl) (hs : Q.V := by exact cE rfl) (OW : swapsWith (.Call (.Attribute e0 "append" pa) [e] [] pb) none pos.line X.env = pure false := by rfl) :
   dY X CL b (.Expr (.Call (.Attribute e0 "append" pa) [e] [] pb) pos :: fP) δ D := c9 fun H Z σ ts vs E S M =>
 v7 (Be (aay auW PySem.F.slot_list_append PySem.F.type_list_append DQ fh (dh fh iy hs) Bo Ld hline hs rfl) OW) (hE H Z σ ts vs _ S fun v0 v H0 Z0 z0 s0 S0 ev J4 => by
   obtain ⟨w, f2, at', r⟩ := S0.aen ev h0 Yh
   have := at'.inj J4
   subst this
   refine ⟨?_, h H0 Z0 σ ts vs _ S0 fun v2 H1 Z1 z1 k1 S1 => ?_⟩
   . cases r with
     | lst ha _ => exact .inl ⟨rfl, _, vJ.of ha⟩
   . obtain ⟨a, us, ea, ha, hu, S2⟩ := S1.aeo ev h1 ZT (J4.mono k1)
     exact ⟨a, us, v2, ea, rfl, ha, by rw [hu]; exact auz hl (by rw [atP]; decide), M.nx _ σ _ Z1 (z0.trans z1) S2 k⟩)
theorem cY {z : Int} (h : Q.Q) (hE : TPv X CL b e0 δ1 i p) (h2 : eF X CL b e2 δ1 (.int z) δ1) (h1 : δ1[i]? = some (some t1)) (ZT : T.zq p t1 = some (.lst tl)) (hk : xM tl.length z = some j) (kk : dY X CL b fP (δ1.set i (some (T.F4 p (.lst (tl.set j t)) t1))) D)
   (ha : ∀ v, assign (.Subscript e0 e2 ps) X.env v = (do
     let ov ← holding [v] (eval e0 X.env)
     let iv ← holding [v, ov] (eval e2 X.env)
     standAt ps
     holding [v, ov, iv] (setItem ov iv v)
     release [v, ov, iv] []) := by intro _; rfl)
   (hs : swapsWithSole [.Subscript e0 e2 ps] e pos.line X.env = pure false := by rfl) (hw : swappedStores [.Subscript e0 e2 ps] e X.env = pure none := by rfl) (ha1 : (assignEach [.Subscript e0 e2 ps] X.env).map (·.2) = [assign (.Subscript e0 e2 ps) X.env] := by rfl) :
   dY X CL b (.Assign [.Subscript e0 e2 ps] e pos :: fP) δ D := by
 refine c9 fun H Z σ ts vs E S M => v7 (aag fh (aaf fh fh set_list ha) hs hw ha1) (h H Z σ ts vs _ S fun v H1 Z1 z1 k1 S1 => ?_)
 have hj : j < tl.length := (Bj hk).2.1
 refine hE H1 Z1 σ _ _ _ S1 fun v0 w H2 Z2 z2 k2 S2 ev J4 => h2 H2 Z2 σ _ _ _ S2 fun v2 H3 Z3 z3 k3 S3 r3 => ?_
 obtain ⟨a, us, ea, XJ, hu, S4⟩ := S3.aiS ev h1 ZT (J4.mono k3) hj
 exact ⟨a, us, z, j, ea, r3.sc rfl, XJ, by rw [hu]; exact hk, M.nx _ σ _ Z3 (z1.trans (z2.trans z3)) S4 kk⟩
end
theorem DZ {p : T} {ds : List D} : Keeps (some p :: δ) (p :: ds.map T.sh) := fun j y t h => by
 cases j with
 | zero => cases h; rfl
 | succ j =>
   have h' : (ds.map T.sh)[j]? = some (T.pin y t) := h
   rw [atf] at h'
   cases e : ds[j]? with
   | none => rw [e] at h'; cases h'
   | some d => rw [e] at h'; cases h'
def aiT {α : Type} : Nat -> (List α -> Prop) -> Prop
 | 0, P => P []
 | n + 1, P => ∀ a, aiT n fun r => P (a :: r)
variable {α : Type}
theorem qP {n : Nat} {P : List α -> Prop} (h : aiT n P) : ∀ us : List α, us.length = n -> P us := by
 intro us hl
 induction us generalizing n P with
 | nil => subst hl; exact h
 | cons a r ih => subst hl; exact ih (P := fun r => P (a :: r)) (h a) rfl
abbrev kL (K : Q.l) (x : Str) (f : Addr) : Prop := PySem.W.nsIn K mainGlobals x = some (some (.ref f))
theorem aiU (P : Program) (w : World) (mg : Q.A) (base : Heap) {K : Q.l} {h : Heap} (CL : Q.g) (XX : K.In h) (G : h.Ns mainGlobals mg) {x qual : Str} {st : Stmt} {f : Addr} {fd : FuncData} {N ps : Q.h} (k : Nat) {A : Type} (arg : A -> List D) (Pre : A -> Prop) (res : A -> T) (F : oj K x qual st f fd) (S : aY N ps (az st)) (m : kL K x f)
   (hb : ∀ (lu : Value) (Ar : Around) (outer : List Env) (s : Shared) (H : Hp) (E : XK) (b : Bx) (a : A), jD k Q.aL -> cN (DN xO P w K mg base N qual (az st) f lu Ar outer s H E).nox -> Pre a →
     dY (DN xO P w K mg base N qual (az st) f lu Ar outer s H E).nox CL b (dW st) (entry N (arg a)) { nx := fun _ => res a = .sh .non, rt := fun t _ => t = res a })
   (q : ∀ (kV doc pm : Value) (an : Option Addr) (lu ct : Value), aiT ps.length fun us => bindArgs (W.fnOf x qual (Bp st) (dW st) (az st) Value.none kV doc pm an lu ct) { pos := us } = pure (ps.zip us) := by (repeat intro _); rfl) :
   ∃ f fd ps', ic P w K mg base xO (k + 1) f fd ps' (XO K CL ps.length arg Pre res) /\ mg x = some (.ref f) /\ PySem.W.keepIn K (.ref f) = true /\ Binds K fd ps' [] := ⟨f, fd, ps, Lh F S fun a b c d e f g h r p => hb a b c d e f g h r ⟨⟨S.nd, rfl, .never⟩, r.units⟩ p, ate XX G m, F.kp, F.binds fun a b c d e f => qP (q a b c d e f)⟩
variable {es : List Expr}
theorem cMp {A : Type} {k n : Nat} {y : Addr} {al : List Addr -> List T} {arg : A -> List T} {Pre : A -> Prop} {res : A -> T} {out : A -> List T} (a : A) (nt : T) (F : FcM X CL x k n arg Pre res out) (hg : Gl X x) (h : TMv X CL b (e :: es) δ [i] (fun ys => ys.headD 0 = y /\ True) al δ1) (hp : Pre a) (aiF : res a = t) (aiG : yV (out a) [y] [nt])
   (aiH : arg a = al [y] := by rfl) (hlen : (arg a).length = n := by rfl) (hil : i < δ1.length := by exact asR rfl)
   (Bh : Q.s := by decide) (he : Q.O := by exact cE rfl) (hpl : Q.W := by rfl) :
   TEm X CL b Q.an δ t (δ1.set i (some nt)) :=
 cM1 (fun _ => a) nt F hg h (fun _ _ => hp) (fun _ _ => aiF) (fun z hz => (show z = y from hz.1) ▸ aiG) (fun z hz => (show z = y from hz.1) ▸ aiH) (fun _ => hlen) hil Bh he hpl
def dw (k : Nat) (x : α) (l : List α) : List α := l.take k ++ x :: l.drop k
theorem oA {β : Type} (f : α -> β) (k : Nat) (x : α) (l : List α) : dw k (f x) (l.map f) = (dw k x l).map f := by
 unfold dw
 rw [aul, atg, auM, List.map_drop]
theorem qD (k : Nat) (x : α) (l : List α) : (dw k x l).length = l.length + 1 := by
 unfold dw
 rw [as5, atE, atF, List.length_drop]
 omega
theorem mh {k : Nat} {x y : α} {l : List α} : y ∈ dw k x l ↔ y = x \/ y ∈ l := by
 unfold dw
 rw [asQ, asX]
 constructor
 . rintro (h | h | h)
   . exact .inr (aup h)
   . exact .inl h
   . exact .inr (List.mem_of_mem_drop h)
 . rintro (h | h)
   . exact .inr (.inl h)
   . rw [← List.take_append_drop k l, asQ] at h
     exact h.imp id .inr
def aoQ : V -> List V -> Hp -> VK -> Prop := fun x vs H Q => ∃ l xs y k, x = .ref l /\ vs = [.int (k : Nat), y] /\ H l = some (.lst xs) /\ k <= xs.length /\ xs.length < sizeLine /\ Q .non (upd H l (.lst (dw k y xs)))
theorem aiV : MtM X "list.insert" aoQ := by
 intro pins s σ H x vs v us Q I rx rv h
 obtain ⟨l, xs, y, k, rfl, rfl, hH, hk, hz, q⟩ := h
 cases rx
 obtain ⟨u1, u, rfl, ru1, ru⟩ := rv.two
 obtain ⟨t, rfl⟩ := ru1
 obtain ⟨z, its, n, r, hl, e⟩ := I.ak7 hH
 have aec : ¬(!Builtin.List.listFitsIndex (k : Int)) = true := by
   unfold Builtin.List.listFitsIndex
   rw [asN (show -(2 ^ 63 : Int) <= (k : Int) by omega), asN (show (k : Int) < 2 ^ 63 from Int.lt_of_le_of_lt (show (k : Int) <= ((sizeLine : Nat) : Int) by omega) (by rw [atP]; decide))]
   decide
 have hk2 : k <= its.length := by rw [← r.length]; exact hk
 have hsz : its.toArray.size <= sizeLine := by rw [atm]; omega
 obtain ⟨z, hz2⟩ : ∃ z : Int, z = (k : Int) := ⟨_, rfl⟩
 rw [← hz2] at aec ⊢
 refine call_meets PySem.F.slot_list_insert ⟨_, e, rfl⟩ PySem.F.entry_list_insert (PySem.F.args_list_insert_3 _ _ _) (PySem.AutoListH.list_insert_list_int_val_1 l its.toArray n z t u aec hsz) ⟨e, ?_⟩
 subst hz2
 refine ⟨.non, _, I.ak5 (its' := dw k u its) hH e ?_ ?_ ?_, rfl, q⟩
 . have e1 : ¬ ((k : Int) < 0) := by omega
   simp only [asH e1, ato, atm, Nat.min_eq_left hk2]
   apply Array.ext'
   simp [dw]
   exact List.take_of_length_le (by rw [List.length_drop]; omega)
 . unfold dw
   exact (r.take k).append (.cons ru (r.drop k))
 . rw [qD]; omega
theorem bY.aeq {k : Nat} (S : Q.af) (ev : σ[i]? = some (some v0)) (hi : δ[i]? = some (some t0)) (hp : T.zq p t0 = some (.lst tl)) (J4 : KC H v0 p w) :
   ∃ a us, w = .ref a /\ H a = some (.lst us) /\ us.length = tl.length /\ bY K CL b (upd H a (.lst (dw k v us))) Z (δ.set i (some (T.F4 p (.lst (dw k t tl)) t0))) σ ts vs := by
 obtain ⟨f2, gp, ru, rr, nd, go⟩ := S.R0 ev hi hp J4
 cases ru with
 | @lst a us _ g ha rs =>
   cases rr with
   | @cons _ _ _ _ ft gr q1 q2 =>
     have hl := rs.length
     rw [← List.take_append_drop k tl, ← List.take_append_drop k us] at rs
     obtain ⟨g1, g2, rfl, r1, r2⟩ := bJ.split (by rw [atF, atF, hl]) rs
     have ne : ∀ c ∈ (g1 ++ g2) ++ (ft ++ gr), c ≠ a := fun c hc z => by subst z; exact (atL.mp nd).1 hc
     have pm : ((a :: (g1 ++ (ft ++ g2))) ++ gr).Perm ((a :: (g1 ++ g2)) ++ (ft ++ gr)) := aut.mpr fun c => by simp only [auD, List.count_cons]; omega
     exact ⟨a, us, rfl, ha, hl.symm, go rfl asT rfl (.lst bR (bJ.app (r1.mono Q.j fun c hc => aP Q.T) (.cons (q1.mono Q.j fun c hc => aP Q.T) (r2.mono Q.j fun c hc => aP Q.T))))
       (q2.mono Q.j fun c hc => aP Q.T) (pm.nodup_iff.mpr nd) fun c hc => pm.mem_iff.mp hc⟩
theorem bY.aiW {y0 : Addr} {k : T} (S : Q.K) (hi : δ[i]? = some (some (.pin y0 (.lst tl)))) (hj : tl[j]? = some k) : ∃ v0 w, σ[i]? = some (some v0) /\ At1 H v0 (.ix j) w /\ (∃ f2, cL K CL H Z k w f2) ∧
   ∀ {k' : T}, (∀ f2, cL K CL H Z k w f2 -> cL K CL H Z k' w f2) -> bY K CL b H Z (δ.set i (some (.pin y0 (.lst (tl.set j k'))))) σ ts vs := by
 obtain ⟨fp, gp, e, r, nd, kk⟩ := S.rep
 obtain ⟨v1, e1, e2, e3, hv, v8, rt, put, _⟩ := e.get hi
 subst v8
 cases rt with
 | pin rt =>
   obtain ⟨w, f1, f2, f3, at1, hf, rk, put2⟩ := rt.kid S.zh (s := .ix j) (k := k) hj
   subst hf
   refine ⟨_, w, hv, at1, ⟨f2, rk⟩, fun {k'} g => ?_⟩
   have q2 := put Q.j (fun _ _ => rfl) (.pin (put2 (k' := k') (fun _ _ => rfl) (g f2 rk)))
   rw [iQ hv] at q2
   exact ⟨⟨_, gp, q2, r, nd, kk⟩, S.bh, S.zz, S.zh, S.new, S.tp, S.tab⟩
section
variable {e0 e2 : Expr} {t1 : T} {Rh tl2 : List T} {D : gX} {pa pb pos' : Pos} {m : Nat} {fP : List Stmt} {y y0 : Addr}
theorem R1 {z : Int} (k : Nat) (hE : TPv X CL b e0 δ i p) (h0 : δ[i]? = some (some t0)) (Yh : T.zq p t0 = some (.lst Rh)) (h2 : eF X CL b e2 δ (.int z) δ) (h : Q.Q) (h1 : δ1[i]? = some (some t1)) (ZT : T.zq p t1 = some (.lst tl)) (hz : z = (k : Int)) (hk : k <= tl.length) (hl : tl.length <= 1000000) (kk : dY X CL b fP (δ1.set i (some (T.F4 p (.lst (dw k t tl)) t1))) D)
   (Bo : attributeBase e0 "insert" X.env (eval e0 X.env) = eval e0 X.env := by rfl)
   (Ld : ((backTo pb (starEach [e2, e] X.env)).all (fun x => !x.1) && (backToKw pb (keywordEach [] X.env)).all (fun x => x.1.isSome) && decide ([e2, e].length + ([] : List Keyword).length + (if ([] : List Keyword).isEmpty then 0 else 1) < 30)) = true := by rfl)
   (hline : (pa.endLine == pb.line) = true := by rfl) (hs : Q.V := by exact cE rfl) (Om : starEach [e2, e] X.env = (false, eval e2 X.env) :: starEach [e] X.env := by exact cE rfl)
   (hpl : (backTo pb (starEach [e] X.env)).any (·.1) = false := by rfl) (OW : swapsWith (.Call (.Attribute e0 "insert" pa) [e2, e] [] pb) none pos.line X.env = pure false := by rfl) :
   dY X CL b (.Expr (.Call (.Attribute e0 "insert" pa) [e2, e] [] pb) pos :: fP) δ D := c9 fun H Z σ ts vs E S M =>
 v7 (Be (aay auW PySem.F.slot_list_insert PySem.F.type_list_insert aiV fh (dh fh (dh fh iy hs) Om) Bo Ld hline Om hpl) OW) (hE H Z σ ts vs _ S fun v0 v H0 Z0 z0 s0 S0 ev J4 => by
   obtain ⟨w, f2, at', r⟩ := S0.aen ev h0 Yh
   have := at'.inj J4
   subst this
   refine ⟨?_, h2 H0 Z0 σ ts vs _ S0 fun v2 H1 Z1 z1 k1 S1 r1 => h H1 Z1 σ ts vs _ S1 fun v3 H2 Z2 z2 k2 S2 => ?_⟩
   . cases r with
     | lst ha _ => exact .inl ⟨rfl, _, vJ.of ha⟩
   . obtain ⟨a, us, ea, ha, hu, S3⟩ := S2.aeq (k := k) ev h1 ZT ((J4.mono k1).mono k2)
     have hv2 : v2 = .int z := r1.sc rfl
     exact ⟨a, us, v3, k, ea, by rw [hv2, hz], ha, by rw [hu]; exact hk, by rw [hu]; exact auz hl (by rw [atP]; decide), M.nx _ σ _ Z2 (z0.trans Q.w) S3 kk⟩)
theorem Wb (g : Gx X) (n : Ln X m x) (hE : TPv X CL b e δ i [.ix j]) (hi : δ[i]? = some (some (.pin y0 (.lst tl)))) (hj : tl[j]? = some (.lst tl2)) (hm : m < δ.length)
   (k : ∀ y, dY X CL b fP ((δ.set i (some (.pin y0 (.lst (tl.set j (.pin y (.lst tl2))))))).set m (some (.sh (.val (.ref y))))) D) (hs : Q.ay := by rfl) :
   dY X CL b (.Assign [.Name x pos'] e pos :: fP) δ D := c9 fun H Z σ ts vs E S M =>
 v7 (Rp g.nd n.hi n.loc fh hs n.hf) (hE H Z σ ts vs _ S fun v0 v H' Z' z s S' ev J4 => by
   obtain ⟨v1, w, hv, at1, ⟨f2, rk⟩, go⟩ := S'.aiW hi hj
   rw [ev] at hv
   cases hv
   obtain ⟨u, a1, a2⟩ := J4
   have a2 : u = v := a2
   have := at1.inj a1
   subst this a2
   cases rk with
   | @lst a us _ g ha rs =>
     have S1 := go (k' := .pin a (.lst tl2)) (fun f2 r => .pin r)
     have S2 := S1.push (d := .val (.ref a)) (.val _)
     exact M.nx _ _ H' Z' z (S2.set (i := m) (by rw [atc]; exact hm)) (k a))
theorem gZ (n : Vn X m x) (hm : δ[m]? = some (some (.sh (.val (.ref y))))) (hi : δ[i]? = some (some (.pin y0 (.lst tl)))) (hj : tl[j]? = some (.pin y u)) : TPv X CL b Q.B δ i [.ix j] := fun H Z σ ts vs Q S k => by
 obtain ⟨v, hv, r⟩ := S.look hm
 obtain ⟨v1, w, hv1, at1, ⟨f2, rk⟩, _⟩ := S.aiW hi hj
 rw [T.iX] at r
 cases r
 cases rk with
 | pin rk => exact dS (ow n.hi n.hv n.hd n.rE) ⟨_, hv, k v1 _ H Z Q.j Q.j S hv1 ⟨_, at1, rfl⟩⟩
theorem KD (j : Nat) (hi : δ[i]? = some (some (.pin y0 (.lst tl)))) (hj : tl[j]? = some (.pin y u)) (k : dY X CL b fP (δ.set i (some (.pin y0 (.lst (tl.set j u))))) D) : dY X CL b fP δ D := fun H Z σ ts vs E S M => by
 obtain ⟨v1, w, hv1, at1, ⟨f2, rk⟩, go⟩ := S.aiW hi hj
 exact k H Z σ ts vs E (go (k' := u) fun f2 r => by
   cases r with
   | pin r => exact r) M
end
end L3
namespace Law
open PySem L2 L3
def top (i : Nat) : Stmt := PySem.Challenge.pw_moodtree_k16_one_spoiling_is_told.main.body.getD i (.Pass ⟨0, 0, 0, 0⟩)
def D0 : Nat -> List Int -> Int -> List Int
 | 0, _, _ => []
 | n + 1, es, k => if k = -1 then [] else k :: D0 n es (es.getD k.toNat 0)
def oq (es : Q.e) (m : Int) : List Int := D0 (es.length + 1) es (es.getD m.toNat 0)
def D3 (es : Q.e) : Prop := ∀ k : Nat, k < es.length -> -1 <= es.getD k 0 /\ es.getD k 0 < k
variable {es : Q.e}
theorem D3.at (h : D3 es) {k : Int} (h0 : 0 <= k) (h1 : k < es.length) : -1 <= es.getD k.toNat 0 /\ es.getD k.toNat 0 < k := by
 have := h k.toNat Q.a
 omega
def fG (ks : Q.h) (es ss : Q.e) : L3.D := .ins "Tree" [("kinds", .lst (ks.map .str)), ("elders", .lst (es.map .int)), ("starts", .lst (ss.map .int))]
variable {ks : Q.h} {ss : Q.e}
theorem zu : List.lookup ("kinds" : Str) [(("kinds" : Str), L3.D.lst (ks.map .str)), ("elders", .lst (es.map .int)), ("starts", .lst (ss.map .int))] = some (.lst (ks.map .str)) := qc
theorem fB : List.lookup ("elders" : Str) [(("kinds" : Str), L3.D.lst (ks.map .str)), ("elders", .lst (es.map .int)), ("starts", .lst (ss.map .int))] = some (.lst (es.map .int)) := by
 rw [fL Q.d, qc]
theorem FN : List.lookup ("starts" : Str) [(("kinds" : Str), L3.D.lst (ks.map .str)), ("elders", .lst (es.map .int)), ("starts", .lst (ss.map .int))] = some (.lst (ss.map .int)) := by
 rw [fL Q.d, fL Q.d, qc]
theorem bI (ds : List L3.D) : T.iX (.lst (ds.map T.sh)) = .lst ds := by rw [T.iX, rJ]
theorem ly (l : Q.e) : (T.lst ((l.map L3.D.int).map T.sh)).clean = true := by rw [sZ]; exact FE _
theorem zv (l : Q.h) : (T.lst ((l.map L3.D.str).map T.sh)).clean = true := by
 rw [sZ]
 induction l with
 | nil => rfl
 | cons x l ih => exact ih
def BG (ks : Q.h) (es ss : Q.e) : List (Str × T) := [("kinds", .lst ((ks.map .str).map T.sh)), ("elders", .lst ((es.map .int).map T.sh)), ("starts", .lst ((ss.map .int).map T.sh))]
theorem Yi (ks : Q.h) (es ss : Q.e) : T.iX (.ins "Tree" (BG ks es ss)) = fG ks es ss := by
 unfold BG
 rw [T.iX, T.yJ, T.yJ, T.yJ, T.yJ, bI, bI, bI]
 rfl
theorem FP (ks : Q.h) (es ss : Q.e) : T.cM (BG ks es ss) = true := by
 unfold BG
 rw [T.cM, T.cM, T.cM, T.cM, zv, ly, ly]
 rfl
theorem ug {es : Q.e} (h : D3 es) : ∀ (n : Nat) {k x : Int}, -1 <= k -> k < es.length -> x ∈ D0 n es k -> 0 <= x /\ x <= k
 | 0, k, x, _, _, hx => by rw [D0] at hx; cases hx
 | n + 1, k, x, h0, h1, hx => by
   rw [D0] at hx
   split at hx
   . cases hx
   . rename_i hk
     have ha := h.at (k := k) Q.a h1
     rcases asX.mp hx with rfl | hx
     . omega
     . have := ug h n Q.a Q.a hx
       omega
theorem HS {es : Q.e} (h : D3 es) : ∀ (a b : Nat) {k : Int}, -1 <= k -> k < es.length -> k < a -> k < b -> D0 a es k = D0 b es k
 | 0, 0, _, _, _, _, _ => rfl
 | 0, b + 1, k, h0, _, ha, _ => by
   rw [D0, D0, asM Q.a]
 | a + 1, 0, k, h0, _, _, hb => by
   rw [D0, D0, asM Q.a]
 | a + 1, b + 1, k, h0, h1, ha, hb => by
   rw [D0, D0]
   split
   . rfl
   . have hk := h.at (k := k) Q.a h1
     rw [HS h a b hk.1 Q.a Q.a Q.a]
variable {m : Int}
theorem LV (h : D3 es) (h0 : 0 <= m) (h1 : m < es.length) : oq es m = if es.getD m.toNat 0 = -1 then [] else es.getD m.toNat 0 :: oq es (es.getD m.toNat 0) := by
 have hm := h.at h0 h1
 unfold oq
 rw [D0]
 split
 . rfl
 . rename_i hk
   have hk2 := h.at (k := es.getD m.toNat 0) Q.a Q.a
   rw [HS h es.length (es.length + 1) hk2.1 Q.a Q.a Q.a]
variable {x : Int}
theorem GJ (h : D3 es) (h0 : 0 <= m) (h1 : m < es.length) (hx : x ∈ oq es m) : 0 <= x /\ x < m /\ x < es.length := by
 have hm := h.at h0 h1
 have := ug h _ hm.1 Q.a hx
 omega
def tD (es : Q.e) : Prop := D3 es /\ ∀ k : Nat, k + 1 < es.length -> es.getD (k + 1) 0 = k \/ es.getD (k + 1) 0 ∈ oq es k
theorem Wc {es : Q.e} {x : Int} (h : D3 es) : ∀ (n : Nat) {k : Int}, -1 <= k -> k < es.length -> D0 n (es ++ [x]) k = D0 n es k
 | 0, _, _, _ => rfl
 | n + 1, k, h0, h1 => by
   rw [D0, D0]
   split
   . rfl
   . have hk := h.at (k := k) Q.a h1
     have e : (es ++ [x]).getD k.toNat 0 = es.getD k.toNat 0 := by
       rw [asU, auP Q.a, ← asU]
     rw [e, Wc h n hk.1 Q.a]
variable {k : Nat}
theorem HV (h : k < es.length) : (es ++ [x]).getD k 0 = es.getD k 0 := by
 rw [asU, auP h, ← asU]
theorem LW (h : D3 es) (h0 : 0 <= m) (h1 : m < es.length) : oq (es ++ [x]) m = oq es m := by
 have hm := h.at h0 h1
 unfold oq
 rw [HV Q.a, Wc h _ hm.1 Q.a, HS h _ (es.length + 1) hm.1 Q.a (by rw [as5]; omega) Q.a]
theorem D3.snoc (h : D3 es) (h0 : -1 <= x) (h1 : x < es.length) : D3 (es ++ [x]) := fun k hk => by
 rw [as5] at hk
 simp only [atE, List.length_nil] at hk
 by_cases e : k < es.length
 . rw [HV e]
   exact h k e
 . have : k = es.length := by omega
   subst this
   rw [asU, at7 (as3 _)]
   simp
   omega
theorem tD.snoc (h : tD es) (hk : k + 1 = es.length) (hx : x = k \/ x ∈ oq es k) : tD (es ++ [x]) := by
 have hx' : -1 <= x /\ x < es.length := by
   rcases hx with e | e
   . omega
   . have := GJ h.1 (m := (k : Int)) Q.a Q.a e
     omega
 refine ⟨h.1.snoc hx'.1 hx'.2, fun j hj => ?_⟩
 rw [as5] at hj
 simp only [atE, List.length_nil] at hj
 rw [LW h.1 Q.a Q.a]
 by_cases e : j + 1 < es.length
 . rw [HV e]
   exact h.2 j e
 . have : j = k := by omega
   subst this
   have e2 : (es ++ [x]).getD (j + 1) 0 = x := by
     rw [asU, at7 Q.a, hk, Nat.sub_self]
     rfl
   rw [e2]
   exact hx
theorem LX : ∀ (n : Nat) (es : Q.e) (k : Int), (D0 n es k).length <= n
 | 0, _, _ => as3 _
 | n + 1, es, k => by
   rw [D0]
   split
   . exact ata _
   . exact Nat.succ_le_succ (LX n es _)
def dZ (bs nm : List L3.D) (tr : L3.D) (is os ws : List L3.D) : L3.D := .ins "Chart" [("boxes", .lst bs), ("names", .lst nm), ("tree", tr), ("ins", .lst is), ("outs", .lst os), ("ways", .lst ws)]
variable {bs nm is os ws : List L3.D} {tr : L3.D}
theorem rM : List.lookup ("boxes" : Str) [(("boxes" : Str), L3.D.lst bs), ("names", .lst nm), ("tree", tr), ("ins", .lst is), ("outs", .lst os), ("ways", .lst ws)] = some (.lst bs) := qc
theorem iu : List.lookup ("names" : Str) [(("boxes" : Str), L3.D.lst bs), ("names", .lst nm), ("tree", tr), ("ins", .lst is), ("outs", .lst os), ("ways", .lst ws)] = some (.lst nm) := by
 rw [fL Q.d, qc]
theorem HW : List.lookup ("tree" : Str) [(("boxes" : Str), L3.D.lst bs), ("names", .lst nm), ("tree", tr), ("ins", .lst is), ("outs", .lst os), ("ways", .lst ws)] = some tr := by
 rw [fL Q.d, fL Q.d, qc]
theorem KG : List.lookup ("ins" : Str) [(("boxes" : Str), L3.D.lst bs), ("names", .lst nm), ("tree", tr), ("ins", .lst is), ("outs", .lst os), ("ways", .lst ws)] = some (.lst is) := by
 rw [fL Q.d, fL Q.d, fL Q.d, qc]
theorem HX : List.lookup ("outs" : Str) [(("boxes" : Str), L3.D.lst bs), ("names", .lst nm), ("tree", tr), ("ins", .lst is), ("outs", .lst os), ("ways", .lst ws)] = some (.lst os) := by
 rw [fL Q.d, fL Q.d, fL Q.d, fL Q.d, qc]
theorem HY : List.lookup ("ways" : Str) [(("boxes" : Str), L3.D.lst bs), ("names", .lst nm), ("tree", tr), ("ins", .lst is), ("outs", .lst os), ("ways", .lst ws)] = some (.lst ws) := by
 rw [fL Q.d, fL Q.d, fL Q.d, fL Q.d, fL Q.d, qc]
def D4 (bs nm : List L3.D) : List (Str × T) := [("boxes", .lst (bs.map T.sh)), ("names", .lst (nm.map T.sh))]
def D5 (is os ws : List L3.D) : List (Str × T) := [("ins", .lst (is.map T.sh)), ("outs", .lst (os.map T.sh)), ("ways", .lst (ws.map T.sh))]
def wo (bs nm : List L3.D) (t : T) (is os ws : List L3.D) : List (Str × T) := D4 bs nm ++ (("tree" : Str), t) :: D5 is os ws
theorem R3 (bs nm : List L3.D) (t : T) (is os ws : List L3.D) : T.iX (.ins "Chart" (wo bs nm t is os ws)) = dZ bs nm t.iX is os ws := by
 unfold wo D4 D5
 rw [att, att, aub, T.iX, T.yJ, T.yJ, T.yJ, T.yJ, T.yJ, T.yJ, T.yJ, bI, bI, bI, bI, bI]
 rfl
theorem cj {ds : List L3.D} (h : D.cV ds = true) : (T.lst (ds.map T.sh)).clean = true := by
 rw [sZ]
 induction ds with
 | nil => rfl
 | cons d ds ih =>
   rw [D.cV, asZ] at h
   rw [atg, T.eV, ih h.2, T.clean, h.1]; rfl
theorem LY (h1 : D.cV bs = true) (h2 : D.cV nm = true) : T.cM (D4 bs nm) = true := by
 unfold D4
 rw [T.cM, T.cM, T.cM, cj h1, cj h2]; rfl
theorem LZ (h1 : D.cV is = true) (h2 : D.cV os = true) (h3 : D.cV ws = true) : T.cM (D5 is os ws) = true := by
 unfold D5
 rw [T.cM, T.cM, T.cM, T.cM, cj h1, cj h2, cj h3]; rfl
def cB (ns : Q.e) (k : Int) : Int := if k < ns.length then ns.getD k.toNat 0 else 0
def aoR : List Nat := (List.range 26).map (· + 97) ++ (List.range 10).map (· + 48)
def aoS (k : Int) : Str := ⟨#[aoR.getD k.toNat 0]⟩
def alT (m : Int) : Int := (m * 48271 + 11) % 2147483647
def R4 (p : Int × Str) : Nat -> Int × Str
 | 0 => p
 | n + 1 => (alT (R4 p n).1, (R4 p n).2 ++ aoS (alT (R4 p n).1 % 36))
theorem pG (l : Q.e) : rG 60 (.lst (l.map .int)) := .lst fun d hd => by
 obtain ⟨i, _, rfl⟩ := asW.mp hd
 exact .int _ _
def yK (es : Q.e) (m : Int) : List Int := ((List.range es.length).filter (fun (i : Nat) => decide (es.getD i 0 = m))).map (fun (i : Nat) => (i : Int))
theorem aer (es : Q.e) (m : Int) : (yK es m).length <= es.length := by
 unfold yK
 rw [asG]
 exact asS (List.length_filter_le _ _) Q.r
theorem Wd (h : x ∈ yK es m) : 0 <= x /\ x < es.length /\ es.getD x.toNat 0 = m := by
 unfold yK at h
 obtain ⟨i, hi, rfl⟩ := asW.mp h
 obtain ⟨h1, h2⟩ := auw.mp hi
 have h1 := atp.mp h1
 have h2 := asI h2
 exact ⟨by omega, by omega, by rw [ato]; exact h2⟩
theorem aes (h0 : 0 <= x) (h1 : x < es.length) (h2 : es.getD x.toNat 0 = m) : x ∈ yK es m := by
 unfold yK
 refine List.mem_map.mpr ⟨x.toNat, List.mem_filter.mpr ⟨List.mem_range.mpr Q.a, by simpa using h2⟩, by omega⟩
def BH : List Str := ["all", "and", "box", "call", "do", "far", "if", "in", "leaf", "near", "on", "one", "open", "out", "put", "say", "shut", "then", "to"]
def isLt (c : Nat) : Bool := decide (97 <= c) && decide (c <= 122)
def uh (c : Nat) : Bool := decide (48 <= c) && decide (c <= 57)
theorem HZ (c : Nat) : Kw ⟨#[c]⟩ "abcdefghijklmnopqrstuvwxyz" = isLt c := by
 unfold Kw
 rw [PySem.StrLaws.found_one]
 have e : ("abcdefghijklmnopqrstuvwxyz" : Str).cps.toList = (List.range 26).map (· + 97) := Q.f
 rw [e]
 apply auy.mpr
 simp only [isLt, atZ, asZ, asW, atp]
 constructor
 . rintro ⟨a, h, rfl⟩
   omega
 . intro h
   exact ⟨c - 97, by omega, by omega⟩
theorem Wf (c : Nat) : Kw ⟨#[c]⟩ "abcdefghijklmnopqrstuvwxyz0123456789" = (isLt c || uh c) := by
 unfold Kw
 rw [PySem.StrLaws.found_one]
 have e : ("abcdefghijklmnopqrstuvwxyz0123456789" : Str).cps.toList = (List.range 26).map (· + 97) ++ (List.range 10).map (· + 48) := Q.f
 rw [e]
 apply auy.mpr
 simp only [isLt, uh, atZ, asZ, Bool.or_eq_true, asQ, asW, atp]
 constructor
 . rintro (⟨a, h, rfl⟩ | ⟨a, h, rfl⟩) <;> omega
 . intro h
   rcases h with h | h
   . exact .inl ⟨c - 97, by omega, by omega⟩
   . exact .inr ⟨c - 48, by omega, by omega⟩
def dO (x : Str) : Bool := decide (1 <= x.length) && (decide (x.length <= 12) && (!decide (x ∈ BH) && (isLt (x.cps.toList.getD 0 0) && x.cps.toList.all (fun c => isLt c || uh c))))
theorem aeu {x : Str} (h : x.length = 0) : x = "" := by
 obtain ⟨⟨l⟩⟩ := x
 have : l.length = 0 := h
 have e : l = [] := List.eq_nil_of_length_eq_zero this
 subst e
 rfl
variable {j : Nat}
theorem R5 {x : Str} {d : L3.D} (h : (pF x)[j]? = some d) : ∃ c, d = .str ⟨#[c]⟩ /\ x.cps.toList[j]? = some c := by
 unfold pF at h
 rw [atf] at h
 obtain ⟨c, hc, rfl⟩ := atH.mp h
 exact ⟨c, rfl, hc⟩
def rN (i : Int) (n : Nat) : Bool := decide (0 <= i) && decide (i < (n : Int))
def Rj (i : Int) : Bool := decide (-(10 ^ (30 : Int).toNat) < i) && decide (i < 10 ^ (30 : Int).toNat)
def D6 (n : Nat) (a c : Int) : Bool := (decide (a = -1) || rN a n) && Rj c
inductive ZU
 | R6 (x : Str) (m : Int)
 | num (mk : Str) (a1 c1 a2 c2 : Int)
def yL : ZU -> L3.D
 | .R6 x m => .tup [.str x, .int m]
 | .num mk a1 c1 a2 c2 => .tup [.str mk, .tup [.int a1, .int c1], .tup [.int a2, .int c2]]
def ZV (n m : Nat) : ZU -> Bool
 | .R6 _ k => rN k n
 | .num mk a1 c1 a2 c2 => decide (mk ∈ (["<", "<=", "=", "!="] : List Str)) && (D6 m a1 c1 && D6 m a2 c2)
def R7 : ZU -> Prop
 | .R6 x _ => x ∈ (["open", "shut"] : List Str)
 | .num mk _ _ _ _ => ¬ mk ∈ (["open", "shut"] : List Str)
theorem tE : ∀ al : List ZU, D.qa (.tup (al.map yL)) = true := fun al => bS (fun q => by cases q <;> rfl) al
def aoT : L3.D -> L3.D
 | .tup [_, _, _, d, _, _] => d
 | d => d
inductive D7
 | put (i a c : Int)
 | say (x : Str) (a c : Int)
 | call (x : Str)
def L0 : D7 -> L3.D
 | .put i a c => .tup [.str "put", .int i, .tup [.int a, .int c]]
 | .say x a c => .tup [.str "say", .str x, .tup [.int a, .int c]]
 | .call x => .tup [.str "call", .str x]
def ddL : D7 -> Prop
 | .put _ _ _ => True
 | .say x _ _ => x.length <= 1000
 | .call x => x.length <= 1000
structure Px where
 src : Int
 sign : Str
 al : List ZU
 dl : List D7
 tgt : Int
 mode : Str
def Yj (w : Px) : L3.D := .tup [.int w.src, .str w.sign, .tup (w.al.map yL), .tup (w.dl.map L0), .int w.tgt, .str w.mode]
def J5 (l : Q.e) (s : Int) : List Int := if s ∈ l then l else l ++ [s]
def ZW (l : Q.e) : List (Key × L3.D) := l.map fun s => ((Sum.inl s : Key), L3.D.bl true)
theorem Wg (l : Q.e) (s : Int) : ((ZW l).any fun kv => decide (kv.1 = Sum.inl s)) = decide (s ∈ l) := by
 unfold ZW
 induction l with
 | nil => rfl
 | cons y l ih =>
   rw [atg, atW, ih]
   by_cases h : y = s
   . subst h; simp
   . have h' : ¬ s = y := fun e => h e.symm
     have h2 : ¬ (Sum.inl y : Key) = Sum.inl s := fun e => h (Sum.inl.inj e)
     simp [h', h2]
theorem aev (l : Q.e) (s : Int) : HF (ZW l) (.inl s) (.bl true) = ZW (J5 l s) := by
 unfold HF
 rw [Wg]
 unfold J5
 by_cases h : s ∈ l
 . rw [asM (asN h), asM h]
   unfold ZW
   rw [ath]
   refine atU fun y _ => ?_
   show (if (Sum.inl y : Key) = Sum.inl s then ((Sum.inl y : Key), L3.D.bl true) else ((Sum.inl y : Key), L3.D.bl true)) = _
   split <;> rfl
 . rw [if_neg (by simpa using h), if_neg h]
   unfold ZW
   rw [aul]; rfl
def adds (l : Q.e) : List Int := l.foldl J5 []
theorem Yk (l : Q.e) (x : Int) : adds (l ++ [x]) = J5 (adds l) x := by unfold adds; rw [List.foldl_append]; rfl
theorem D8 : ∀ (l acc : Q.e), (l.foldl J5 acc).length <= acc.length + l.length /\ ∀ x, x ∈ l.foldl J5 acc ↔ x ∈ acc \/ x ∈ l
 | [], acc => ⟨as3 _, fun x => by simp⟩
 | y :: l, acc => by
   obtain ⟨h1, h2⟩ := D8 l (J5 acc y)
   rw [List.foldl_cons]
   refine ⟨?_, fun x => (h2 x).trans ?_⟩
   . have : (J5 acc y).length <= acc.length + 1 := by unfold J5; split <;> simp
     rw [atE]; omega
   . unfold J5
     by_cases hy : y ∈ acc
     . rw [asM hy, asX]
       constructor
       . rintro (z | z)
         . exact .inl z
         . exact .inr (.inr z)
       . rintro (z | rfl | z)
         . exact .inl z
         . exact .inl hy
         . exact .inr z
     . rw [asH hy, asQ, ati, asX, or_assoc]
theorem aew (l : Q.e) (s : Int) : (LD (ZW l) (.inl s)).isSome = decide (s ∈ l) := by
 rw [← Wg]
 unfold LD
 rw [Option.isSome_map]
 generalize ZW l = k
 induction k with
 | nil => rfl
 | cons y k ih =>
   rw [auk, atW]
   cases h : decide (y.1 = Sum.inl s) with
   | true => rfl
   | false => rw [Bool.false_or]; exact ih
structure abt (ks : Q.h) (es ss : Q.e) : Prop where
 pre : tD es
 n1 : 1 <= es.length
 n2 : es.length <= 900
 deep : ∀ m : Int, 0 <= m -> m < es.length -> (oq es m).length <= 12
 kl : ks.length = es.length
 sl : ss.length = es.length
 kinds : ∀ m : Nat, m < es.length -> ks.getD m Str.empty ∈ (["leaf", "one", "all"] : List Str) /\ decide (ks.getD m Str.empty = "leaf") = !decide ((m : Int) ∈ es)
 starts : ∀ m : Nat, m < es.length -> (ks.getD m Str.empty ≠ "one" /\ ss.getD m 0 = -1) \/ (ks.getD m Str.empty = "one" /\ rN (ss.getD m 0) es.length = true /\ es.getD (ss.getD m 0).toNat 0 = m)
def ddI (n : Nat) : D7 -> Bool
 | .put i a c => rN i n && D6 n a c
 | .say x a c => dO x && D6 n a c
 | .call x => dO x
def Px.Ok (n m : Nat) (w : Px) : Prop := rN w.src n = true /\ (w.sign.length <= 1000 /\ dO w.sign = true) /\ w.mode ∈ (["new", "near", "far"] : List Str) /\ ((w.tgt = -1 /\ w.mode = "new") \/ (w.tgt ≠ -1 /\ rN w.tgt n = true)) /\ ∀ q ∈ w.al, R7 q /\ ZV n m q = true
def kH (q : Str × Int) : L3.D := .tup [.str q.1, .int q.2]
variable {b : Bool}
theorem nbT (h : (!b) = false) : b = true := by cases b <;> first | rfl | cases h
theorem nbF (h : (!b) = false) : ¬ b = false := by rw [nbT h]; decide
theorem ZX (h : (!b) = true) : b = false := by cases b <;> first | rfl | cases h
variable {α : Type}
theorem aoU {p : α -> Bool} {l : List α} (h : ∀ (j : Nat) (x : α), l[j]? = some x -> p x = true) : l.all p = true := atk.mpr fun x hx => by
 obtain ⟨j, hj, e⟩ := List.getElem_of_mem hx
 exact h j x (by rw [as2 hj, e])
theorem F5 {p : α -> Bool} {l : List α} {x : α} (h : x ∈ l) (hx : p x = false) : l.all p = false := List.all_eq_false.mpr ⟨x, h, by rw [hx]; decide⟩
def yM (p : α -> Bool) (l : List α) (j : Nat) : Prop := ∀ (q : Nat) (x : α), q < j -> l[q]? = some x -> p x = true
theorem yM.zero {p : α -> Bool} {l : List α} : yM p l 0 := fun q x h => absurd h (Nat.not_lt_zero q)
theorem yM.next {p : α -> Bool} {l : List α} {x : α} (h : yM p l j) (hx : l[j]? = some x) (hp : p x = true) : yM p l (j + 1) := fun q y hq hy => by
 by_cases e : q = j
 . subst e
   rw [hx] at hy
   cases hy
   exact hp
 . exact h q y Q.a hy
theorem yM.all {p : α -> Bool} {l : List α} (h : yM p l l.length) : l.all p = true := aoU fun j x hj => h j x (atl.mp hj).1 hj
inductive pR
 | put (i a c : Int)
 | say (w x : Str) (a c : Int)
 | call (x : Str)
def F6 : pR -> L3.D
 | .put i a c => .tup [.str "put", .int i, .tup [.int a, .int c]]
 | .say w x a c => .tup [.str w, .str x, .tup [.int a, .int c]]
 | .call x => .tup [.str "call", .str x]
def J6 : pR -> Prop
 | .put _ _ _ => True
 | .say w x _ _ => (w ≠ "put" /\ w ≠ "call") /\ x.length <= 1000
 | .call x => x.length <= 1000
def Yl (n : Nat) : pR -> Bool
 | .put i a c => rN i n && D6 n a c
 | .say w x a c => decide (w = "say") && (dO x && D6 n a c)
 | .call x => dO x
theorem oX (q : pR) : (F6 q).qa = true := by cases q <;> rfl
def bW (l : List pR) : L3.D := .tup (l.map F6)
theorem iS (l : List pR) : (bW l).qa = true := bS oX l
structure p8 where
 src : Int
 sign : Str
 al : List ZU
 dl : List pR
 tgt : Int
 mode : Str
def jG (w : p8) : L3.D := .tup [.int w.src, .str w.sign, .tup (w.al.map yL), bW w.dl, .int w.tgt, .str w.mode]
def um : List Str := ["new", "near", "far"]
def R8 (n m : Nat) (w : p8) : Bool := rN w.src n && (dO w.sign && (decide (w.mode ∈ um) && ((if w.tgt = -1 then decide (w.mode = "new") else rN w.tgt n) && w.al.all (ZV n m))))
def p8.ok (w : p8) : Prop := w.sign.length <= 1000 /\ ∀ q ∈ w.al, R7 q
def Ic (n m : Nat) : Int -> List p8 -> Bool
 | _, [] => true
 | l, w :: ws => !decide (w.src < l) && (R8 n m w && Ic n m w.src ws)
def mC (l : Q.h) : Bool := l.all dO && decide l.Nodup
def pS (l : Q.C) : Bool := l.all (fun q => Rj q.2) && mC (l.map (·.1))
def om (nl bl : Nat) (is os : List (List pR)) (ws : List p8) : Bool := decide (is.length = nl) && (decide (os.length = nl) && (is ++ os ++ ws.map (·.dl)).all fun l => l.all (Yl bl))
def D9 : List Str := ["leaf", "one", "all"]
def kdO (ks : Q.h) (es : Q.e) (m : Nat) : Bool := decide (ks.getD m Str.empty ∈ D9) && (decide (ks.getD m Str.empty = "leaf") == !decide ((m : Int) ∈ es))
def R9 (ks : Q.h) (es : Q.e) : Bool := (List.range ks.length).all (kdO ks es)
def ZY (ks : Q.h) (es ss : Q.e) (m : Nat) : Bool := if ks.getD m Str.empty = "one" then rN (ss.getD m 0) es.length && decide (es.getD (ss.getD m 0).toNat 0 = (m : Int)) else decide (ss.getD m 0 = -1)
def Py (ks : Q.h) (es ss : Q.e) : Bool := (List.range ss.length).all (ZY ks es ss)
def GK (es : Q.e) : Nat -> Bool
 | 0 => decide (es.getD 0 0 = -1)
 | j + 1 => GK es j && (decide (es.getD (j + 1) 0 ∈ (j : Int) :: oq es (j : Int)) && decide ((oq es ((j : Int) + 1)).length <= 12))
def Ea (ks : Q.h) (es ss : Q.e) (nl : Nat) : Bool := decide (0 < ks.length) && (decide (es.length = ks.length) && (decide (ss.length = ks.length) && (decide (nl = ks.length) && (GK es (es.length - 1) && (R9 ks es && Py ks es ss)))))
def Sb (es : Q.e) (m : Int) : Prop := ∀ k : Nat, k < es.length -> (k : Int) <= m -> -1 <= es.getD k 0 /\ es.getD k 0 < (k : Int)
theorem Sb.at {k : Int} (h : Sb es m) (k0 : 0 <= k) (k1 : k < es.length) (km : k <= m) : -1 <= es.getD k.toNat 0 /\ es.getD k.toNat 0 < k := by
 have := h k.toNat Q.a Q.a
 omega
theorem Sb.ug (h : Sb es m) : ∀ (n : Nat) {k : Int}, -1 <= k -> k < es.length -> k <= m -> ∀ x ∈ D0 n es k, 0 <= x /\ x <= k
 | 0, _, _, _, _, x, hx => by rw [D0] at hx; cases hx
 | n + 1, k, k0, k1, km, x, hx => by
   rw [D0] at hx
   by_cases e : k = -1
   . rw [asM e] at hx; cases hx
   . rw [asH e] at hx
     have ha := h.at (k := k) Q.a k1 km
     rcases asX.mp hx with rfl | hx
     . omega
     . have := h.ug n ha.1 Q.a Q.a x hx
       omega
theorem Ie {es : Q.e} : ∀ {j : Nat}, j < es.length -> GK es j = true -> Sb es (j : Int)
 | 0, hj, h => fun k hk hm => by
   have e : es.getD 0 0 = -1 := asI h
   have : k = 0 := by omega
   subst this
   omega
 | j + 1, hj, h => fun k hk hm => by
   rw [GK, asZ, asZ] at h
   have ih := Ie (j := j) Q.a h.1
   by_cases e : k = j + 1
   . subst e
     have hin := asI h.2.1
     rcases asX.mp hin with z | z
     . omega
     . have ha := ih.at (k := (j : Int)) Q.a Q.a Q.a
       have := ih.ug (es.length + 1) ha.1 Q.a Q.a _ z
       omega
   . exact ih k hk Q.a
theorem BI {es : Q.e} : ∀ {i j : Nat}, i <= j -> GK es i = false -> GK es j = false
 | i, 0, h, e => by
   have : i = 0 := by omega
   subst this
   exact e
 | i, j + 1, h, e => by
   by_cases q : i = j + 1
   . subst q; exact e
   . rw [GK, BI (i := i) (j := j) Q.a e]
     rfl
def ig (bs : Q.C) (nm ks : Q.h) (es ss : Q.e) (is os : List (List pR)) (ws : List p8) : Int :=
 if Ea ks es ss nm.length = false then 0 else if mC nm = false then 1 else if pS bs = false then 2 else if om nm.length bs.length is os ws = false then 3 else if Ic nm.length bs.length 0 ws = false then 4 else -1
def Ig (k : Int) : Str := if k = 0 then "BadTree" else if k = 1 then "BadName" else if k = 2 then "BadBox" else if k = 3 then "BadDeed" else "BadWay"
structure BJ (bs : Q.C) (nm ks : Q.h) (is os : List (List pR)) (ws : List p8) : Prop where
 k1 : ks.length <= 900
 n1 : ∀ x ∈ nm, x.length <= 1000
 n2 : nm.length <= 1000
 b1 : ∀ q ∈ bs, q.1.length <= 1000
 b2 : bs.length <= 1000
 i1 : is.length <= 300
 o1 : os.length <= 300
 w1 : ws.length <= 100
 d1 : ∀ l ∈ is ++ os ++ ws.map (·.dl), ∀ q ∈ l, J6 q
 w2 : ∀ w ∈ ws, w.ok
def prV (bs : Q.C) (nm ks : Q.h) (es ss : Q.e) (is os : List (List pR)) (ws : List p8) : L3.D := .lst [.lst (bs.map kH), .lst (nm.map .str), .lst (ks.map .str), .lst (es.map .int), .lst (ss.map .int), .lst (is.map bW), .lst (os.map bW), .lst (ws.map jG)]
structure Pt where
 bs : List (Str × Int)
 nm : List Str
 ks : List Str
 es : List Int
 ss : List Int
 is : List (List pR)
 os : List (List pR)
 ws : List p8
def Rk (p : Pt) : List T := [.lst ((p.bs.map kH).map T.sh), .lst ((p.nm.map .str).map T.sh), .lst ((p.ks.map .str).map T.sh), .lst ((p.es.map .int).map T.sh), .lst ((p.ss.map .int).map T.sh), .lst ((p.is.map bW).map T.sh), .lst ((p.os.map bW).map T.sh), .lst ((p.ws.map jG).map T.sh)]
def vv (p : Pt) : T := .lst (Rk p)
def Pt.ref (p : Pt) : Int := ig p.bs p.nm p.ks p.es p.ss p.is p.os p.ws
def L1 (x : Str) : List Str := ["", "to", "Far", "9a", "a-b", "leaf", x ++ (" " : Str), (" " : Str) ++ x, "abcdefghijklm", x ++ ("_" : Str), "shut", "a.b"]
def qd (c : Int) (x : Str) : Str := (L1 x).getD (c % 12).toNat Str.empty
def bmL : List Int := [0, 10 ^ (30 : Int).toNat, 0 - 10 ^ (30 : Int).toNat, 10 ^ (31 : Int).toNat]
def bmN (c : Int) : Int := bmL.getD (c / 4 % 4).toNat 0
def qQ (c : Int) (n : Nat) : Int × Int := (if bmN c = 0 then ([(n : Int), -2, (n : Int) + 3] : List Int).getD (c / 16 % 3).toNat 0 else c / 16 % ((n : Int) + 1) - 1, bmN c)
def wrL : List Str := ["tell", "", "Say", "out", "puts"]
def BK (c : Int) (n : Nat) : pR :=
 if c % 6 = 5 then .say (wrL.getD (c / 6 % 5).toNat Str.empty) "word" (-1) 0
 else if c % 6 = 0 then .put (([(n : Int), -1, (n : Int) + 2] : List Int).getD (c / 6 % 3).toNat 0) (-1) 4
 else if c % 6 = 1 /\ 0 < n then .put (c / 6 % (n : Int)) (qQ (c / 6 / (n : Int)) n).1 (qQ (c / 6 / (n : Int)) n).2
 else if c % 6 = 2 then .call (qd (c / 6) "go")
 else if c % 6 = 3 then .say "say" (qd (c / 6) "go") (-1) 0
 else .say "say" "word" (qQ (c / 6) n).1 (qQ (c / 6) n).2
def baL : List Str := ["<>", "", ">", "=="]
def zx (c : Int) (m n : Nat) : ZU :=
 if c % 4 = 0 then .R6 ((["open", "shut"] : List Str).getD (c / 4 % 2).toNat Str.empty) (([(n : Int), -1] : List Int).getD (c / 4 / 2 % 2).toNat 0)
 else if c % 4 = 1 then .num (baL.getD (c / 4 % 4).toNat Str.empty) (-1) 1 (-1) 2
 else if c % 4 = 2 then .num "<=" (qQ (c / 4) m).1 (qQ (c / 4) m).2 (-1) 0
 else .num "!=" (-1) 0 (qQ (c / 4) m).1 (qQ (c / 4) m).2
def jd (p : Pt) (c : Int) : Pt :=
 let i := (c / 2 % (p.nm.length : Int)).toNat
 let l := p.nm.set i (qd (c / 100) (p.nm.getD i Str.empty))
 { p with nm := if c % 2 = 1 /\ 1 < p.nm.length then l.set i (l.getD (((i : Int) + 1 + c / 100 % ((p.nm.length : Int) - 1)) % (p.nm.length : Int)).toNat Str.empty) else l }
def w05 : Str × Int := ("w0", 5)
def L5 (l : Q.C) : List (Str × Int) := if l = [] then [w05] else l
def Pz (l : Q.C) (c : Int) : List (Str × Int) :=
 let i := (c / 4 % (l.length : Int)).toNat
 let q := l.getD i w05
 if c % 4 = 0 then l.set i (qd (c / 40) q.1, q.2) else if c % 4 = 1 then dw i (q.1, c / 40 % 7) l
 else if c % 4 = 2 then l.set i (q.1, 10 ^ (30 : Int).toNat + c / 40 % 5) else l.set i (q.1, 0 - 10 ^ (30 : Int).toNat - c / 40 % 5)
def rO (p : Pt) (c : Int) : Pt := { p with bs := Pz (L5 p.bs) c }
def Sd (c : Int) (d : pR) (l : List (List pR)) (i : Nat) : List (List pR) := l.set i (dw (c % (((l.getD i []).length : Int) + 1)).toNat d (l.getD i []))
def Eb (c : Int) (l : List (List pR)) : List (List pR) := if c / 8 % 2 = 1 then (l ++ [[]]).take ((l ++ [[]]).length - 2) else l ++ [[]]
def Ih (ws : List p8) : Int := match ws.getLast? with
 | some w => w.src
 | none => 0
def lz (p : Pt) (c : Int) : Pt :=
 let d := BK (c / 1000) p.bs.length
 let i := (c / 4 % (p.is.length : Int)).toNat
 if c % 4 = 0 then { p with is := Sd (c / 300) d p.is i } else if c % 4 = 1 then { p with os := Sd (c / 300) d p.os i }
 else if c % 4 = 2 then (if c / 4 % 2 = 0 then { p with is := Eb c p.is } else { p with os := Eb c p.os })
 else { p with ws := p.ws ++ [⟨Ih p.ws, "go", [], [.call "go", d], -1, "new"⟩] }
def Ym : p8 := ⟨0, "go", [], [], 0, "new"⟩
def w01 : p8 := ⟨0, "go", [], [], -1, "new"⟩
def FQ (l : List p8) : List p8 := if l = [] then [Ym] else l
def uo (c k : Int) (m n : Nat) (w : p8) : p8 :=
 if k < 3 then { w with src := ([-1, (n : Int), (n : Int) + 1] : List Int).getD k.toNat 0 }
 else if k = 3 then { w with sign := qd c "go" }
 else if k = 4 then { w with tgt := ([(n : Int), -2] : List Int).getD (c % 2).toNat 0 }
 else if k = 5 then { w with mode := (["", "fresh", "New"] : List Str).getD (c % 3).toNat Str.empty }
 else if k = 6 then { w with tgt := -1, mode := (["near", "far"] : List Str).getD (c % 2).toNat Str.empty }
 else if k = 7 then { w with al := dw (c % ((w.al.length : Int) + 1)).toNat (zx (c / 4) m n) w.al }
 else { w with src := 1 }
def Ec (l : List p8) (c : Int) (m n : Nat) : List p8 :=
 let i := (c / 9 % (l.length : Int)).toNat
 (if c % 9 = 8 then l ++ [w01] else l).set i (uo (c / 1000) (c % 9) m n (l.getD i Ym))
def kD (p : Pt) (c : Int) : Pt := { p with ws := Ec (FQ p.ws) c p.bs.length p.nm.length }
def kwL : List Str := ["ones", "", "One", "leafs"]
def n14 : List Str := ["n0", "n1", "n2", "n3", "n4", "n5", "n6", "n7", "n8", "n9", "n10", "n11", "n12", "n13"]
def k14 : List Str := List.replicate 13 ("one" : Str) ++ [("leaf" : Str)]
def e14 : List Int := (List.range 14).map fun k : Nat => (k : Int) - 1
def s14 : List Int := ((List.range 13).map fun k : Nat => (k : Int) + 1) ++ [-1]
def F7 (c : Int) (n : Nat) (l : Q.e) : List Int := if c / 1400 % 2 = 1 then (l ++ [-1]).take (n - 1) else l ++ [-1]
def iY (p : Pt) (c : Int) : Nat := (c / 10 % (p.nm.length : Int)).toNat
def dP (p : Pt) (c : Int) : Pt :=
 if c % 10 = 0 then { p with es := p.es.set (iY p c) (iY p c : Int) }
 else if c % 10 = 1 then { p with es := p.es.set (iY p c) ((iY p c : Int) + 1) }
 else if c % 10 = 2 then { p with es := p.es.set (iY p c) (if iY p c = 0 then -2 else -1) }
 else if c % 10 = 3 then { p with ks := p.ks.set (iY p c) (kwL.getD (c / 700 % 4).toNat Str.empty) }
 else if c % 10 = 4 then { p with ks := p.ks.set (iY p c) (if p.ks.getD (iY p c) Str.empty = "leaf" then "all" else "leaf"), ss := p.ss.set (iY p c) (-1) }
 else if c % 10 = 5 then { p with ss := p.ss.set (iY p c) Q.aR }
 else if c % 10 = 6 then { p with nm := (dw (iY p c) ("more" : Str) p.nm).take (if c / 700 % 2 = 0 then p.nm.length + 1 else p.nm.length - 1) }
 else if c % 10 = 7 then (if c / 700 % 2 = 0 then { p with es := F7 c p.nm.length p.es } else { p with ss := F7 c p.nm.length p.ss })
 else if c % 10 = 8 then { p with nm := [], ks := [], es := [], ss := [], is := [], os := [] }
 else { p with nm := n14, ks := k14, es := e14, ss := s14 }
variable {p : Pt} {c : Int}
theorem st0 (e : c % 10 = 0) : dP p c = { p with es := p.es.set (iY p c) (iY p c : Int) } := by unfold dP; rw [e]; rfl
theorem st1 (e : c % 10 = 1) : dP p c = { p with es := p.es.set (iY p c) ((iY p c : Int) + 1) } := by unfold dP; rw [e]; rfl
theorem st2 (e : c % 10 = 2) : dP p c = { p with es := p.es.set (iY p c) (if iY p c = 0 then -2 else -1) } := by unfold dP; rw [e]; rfl
theorem st3 (e : c % 10 = 3) : dP p c = { p with ks := p.ks.set (iY p c) (kwL.getD (c / 700 % 4).toNat Str.empty) } := by unfold dP; rw [e]; rfl
theorem st4 (e : c % 10 = 4) : dP p c = { p with ks := p.ks.set (iY p c) (if p.ks.getD (iY p c) Str.empty = "leaf" then "all" else "leaf"), ss := p.ss.set (iY p c) (-1) } := by unfold dP; rw [e]; rfl
theorem st5 (e : c % 10 = 5) : dP p c = { p with ss := p.ss.set (iY p c) Q.aR } := by unfold dP; rw [e]; rfl
theorem st6 (e : c % 10 = 6) : dP p c = { p with nm := (dw (iY p c) ("more" : Str) p.nm).take (if c / 700 % 2 = 0 then p.nm.length + 1 else p.nm.length - 1) } := by unfold dP; rw [e]; rfl
theorem st7 (e : c % 10 = 7) : dP p c = (if c / 700 % 2 = 0 then { p with es := F7 c p.nm.length p.es } else { p with ss := F7 c p.nm.length p.ss }) := by unfold dP; rw [e]; rfl
theorem st8 (e : c % 10 = 8) : dP p c = { p with nm := [], ks := [], es := [], ss := [], is := [], os := [] } := by unfold dP; rw [e]; rfl
theorem st9 (e : c % 10 = 9) : dP p c = { p with nm := n14, ks := k14, es := e14, ss := s14 } := by unfold dP; rw [e]; rfl
theorem bF (h : ¬ b = true) : b = false := by cases b <;> first | rfl | exact absurd rfl h
variable {i : Nat}
theorem BL {l : List α} {x d : α} (h : i < l.length) : (l.set i x).getD i d = x := by
 rw [asU, at5 h]; rfl
theorem oB {l : List α} {d : α} (h : i < l.length) : l.getD i d ∈ l := by
 rw [asU, as2 h]
 exact at8 _
variable {n : Nat}
theorem jH (c : Int) (h : 0 < n) : (c % (n : Int)).toNat < n /\ (((c % (n : Int)).toNat : Nat) : Int) = c % (n : Int) := by
 have h0 := as9 c (b := (n : Int)) Q.a
 have h1 := as1 c (b := (n : Int)) Q.a
 omega
theorem abv {x : Str} {c : Nat} (h : c ∈ x.cps.toList) (hc : (isLt c || uh c) = false) : dO x = false := by
 unfold dO
 rw [show (x.cps.toList.all fun c => isLt c || uh c) = false from List.all_eq_false.mpr ⟨c, h, by rw [hc]; decide⟩]
 simp
theorem ao0 (h : k < 12) : k = 0 \/ k = 1 \/ k = 2 \/ k = 3 \/ k = 4 \/ k = 5 \/ k = 6 \/ k = 7 \/ k = 8 \/ k = 9 \/ k = 10 \/ k = 11 := by omega
theorem BO (c : Int) (x : Str) : dO (qd c x) = false := by
 have h := (jH c (n := 12) Q.c).1
 unfold qd
 have e : ((12 : Nat) : Int) = 12 := rfl
 rw [e] at h
 generalize (c % 12).toNat = k at h ⊢
 have m1 : ∀ y : Str, (y ∈ ([" ", "_"] : List Str)) -> dO (x ++ y) = false := fun y hy => by
   simp only [asX, as8, auS] at hy
   rcases hy with rfl | rfl
   . exact abv (c := 32) (by show 32 ∈ (x.cps ++ _).toList; rw [auO]; exact asJ _ Q.d) rfl
   . exact abv (c := 95) (by show 95 ∈ (x.cps ++ _).toList; rw [auO]; exact asJ _ Q.d) rfl
 rcases ao0 h with rfl | rfl | rfl | rfl | rfl | rfl | rfl | rfl | rfl | rfl | rfl | rfl
 . show dO "" = false; decide +kernel
 . show dO "to" = false; decide +kernel
 . show dO "Far" = false; decide +kernel
 . show dO "9a" = false; decide +kernel
 . show dO "a-b" = false; decide +kernel
 . show dO "leaf" = false; decide +kernel
 . exact m1 _ Q.c
 . show dO ((" " : Str) ++ x) = false
   exact abv (c := 32) (by show 32 ∈ (_ ++ x.cps).toList; rw [auO]; exact asL _ Q.d) rfl
 . show dO "abcdefghijklm" = false; decide +kernel
 . exact m1 _ Q.c
 . show dO "shut" = false; decide +kernel
 . show dO "a.b" = false; decide +kernel
theorem Ii (c : Int) (x : Str) : (qd c x).length <= x.length + 13 := by
 have h := (jH c (n := 12) Q.c).1
 have e : ((12 : Nat) : Int) = 12 := rfl
 rw [e] at h
 unfold qd
 have hm : (L1 x).getD (c % 12).toNat Str.empty ∈ L1 x := oB h
 revert hm
 generalize (L1 x).getD (c % 12).toNat Str.empty = y
 intro hm
 simp only [L1, asX, as8, auS] at hm
 have l1 : ((" " : Str)).length = 1 := Q.f
 have l2 : (("_" : Str)).length = 1 := Q.f
 have cl : ∀ z ∈ (["", "to", "Far", "9a", "a-b", "leaf", "abcdefghijklm", "shut", "a.b"] : List Str), z.length <= 13 := Q.f
 have ap : ∀ z w : Str, (z ++ w).length = z.length + w.length := str_len
 rcases hm with rfl | rfl | rfl | rfl | rfl | rfl | rfl | rfl | rfl | rfl | rfl | rfl
 . exact asS (cl _ Q.c) Q.a
 . exact asS (cl _ Q.c) Q.a
 . exact asS (cl _ Q.c) Q.a
 . exact asS (cl _ Q.c) Q.a
 . exact asS (cl _ Q.c) Q.a
 . exact asS (cl _ Q.c) Q.a
 . rw [ap, l1]; omega
 . rw [ap, l1]; omega
 . exact asS (cl _ Q.c) Q.a
 . rw [ap, l2]; omega
 . exact asS (cl _ Q.c) Q.a
 . exact asS (cl _ Q.c) Q.a
theorem alX (h : ¬ bmN c = 0) : Rj (bmN c) = false := by
 have h1 := (jH (c / 4) (n := 4) Q.c).1
 have e : ((4 : Nat) : Int) = 4 := rfl
 rw [e] at h1
 revert h
 unfold bmN
 generalize (c / 4 % 4).toNat = k at h1 ⊢
 intro h
 have hk : k = 0 \/ k = 1 \/ k = 2 \/ k = 3 := by omega
 rcases hk with rfl | rfl | rfl | rfl
 . exact absurd rfl h
 . decide +kernel
 . decide +kernel
 . decide +kernel
theorem KH {i : Int} (h : i < 0 \/ (n : Int) <= i) : rN i n = false := by
 unfold rN
 rcases h with h | h
 . rw [asY (show ¬ 0 <= i by omega)]; rfl
 . rw [asY (show ¬ i < (n : Int) by omega), as4]
theorem lt3 (h : k < 3) : k = 0 \/ k = 1 \/ k = 2 := by omega
theorem GL (c : Int) (n : Nat) : D6 n (qQ c n).1 (qQ c n).2 = false := by
 unfold qQ
 by_cases h : bmN c = 0
 . rw [asM h]
   have h1 := (jH (c / 16) (n := 3) Q.c).1
   have e : ((3 : Nat) : Int) = 3 := rfl
   rw [e] at h1
   generalize (c / 16 % 3).toNat = k at h1 ⊢
   have : ∀ z : Int, z ≠ -1 -> (z < 0 \/ (n : Int) <= z) -> D6 n z (bmN c) = false := fun z z1 z2 => by
     unfold D6
     rw [asY z1, KH z2]
     rfl
   rcases lt3 h1 with rfl | rfl | rfl
   . exact this (n : Int) Q.a Q.a
   . exact this (-2) Q.a Q.a
   . exact this ((n : Int) + 3) Q.a Q.a
 . rw [asH h]
   show (_ && Rj (bmN c)) = false
   rw [alX h, as4]
theorem abw (c : Int) : (qd c "go").length <= 1000 := asS (Ii c "go") Q.d
theorem KJ (c : Int) (n : Nat) : Yl n (BK c n) = false /\ J6 (BK c n) := by
 have ww : ("word" : Str).length <= 1000 := Q.f
 have sy : ("say" : Str) ≠ "put" /\ ("say" : Str) ≠ "call" := Q.f
 unfold BK
 by_cases h5 : c % 6 = 5
 . rw [asM h5]
   have h1 := (jH (c / 6) (n := 5) Q.c).1
   have e : ((5 : Nat) : Int) = 5 := rfl
   rw [e] at h1
   have hm : wrL.getD (c / 6 % 5).toNat Str.empty ∈ wrL := oB h1
   generalize wrL.getD (c / 6 % 5).toNat Str.empty = w at hm ⊢
   have cl : ∀ w ∈ wrL, w ≠ "say" /\ w ≠ "put" /\ w ≠ "call" := Q.f
   obtain ⟨c1, c2⟩ := cl w hm
   refine ⟨?_, c2, ww⟩
   show (decide (w = "say") && _) = false
   rw [asY c1]
   rfl
 rw [asH h5]
 by_cases h0 : c % 6 = 0
 . rw [asM h0]
   have h1 := (jH (c / 6) (n := 3) Q.c).1
   have e : ((3 : Nat) : Int) = 3 := rfl
   rw [e] at h1
   generalize (c / 6 % 3).toNat = k at h1 ⊢
   refine ⟨?_, trivial⟩
   show (rN (([(n : Int), -1, (n : Int) + 2] : List Int).getD k 0) n && _) = false
   rw [KH, atG]
   rcases lt3 h1 with rfl | rfl | rfl
   . exact .inr (auN _)
   . exact .inl (show (-1 : Int) < 0 by decide)
   . exact .inr (show (n : Int) <= (n : Int) + 2 by omega)
 rw [asH h0]
 by_cases h1 : c % 6 = 1 /\ 0 < n
 . rw [asM h1]
   refine ⟨?_, trivial⟩
   show (_ && D6 n _ _) = false
   rw [GL, as4]
 rw [asH h1]
 by_cases h2 : c % 6 = 2
 . rw [asM h2]
   exact ⟨BO _ _, abw _⟩
 rw [asH h2]
 by_cases h3 : c % 6 = 3
 . rw [asM h3]
   refine ⟨?_, sy, abw _⟩
   rw [Yl, BO, atG, as4]
 rw [asH h3]
 refine ⟨?_, sy, ww⟩
 rw [Yl, GL, as4, as4]
theorem KL (c : Int) (m n : Nat) : ZV n m (zx c m n) = false /\ R7 (zx c m n) := by
 have nin : ∀ x ∈ (["<=", "!=", "<>", "", ">", "=="] : List Str), x ∉ (["open", "shut"] : List Str) := Q.f
 unfold zx
 by_cases h0 : c % 4 = 0
 . rw [asM h0]
   have h1 := (jH (c / 4) (n := 2) Q.c).1
   have h2 := (jH (c / 4 / 2) (n := 2) Q.c).1
   have e : ((2 : Nat) : Int) = 2 := rfl
   rw [e] at h1 h2
   refine ⟨?_, oB (l := (["open", "shut"] : List Str)) h1⟩
   generalize (c / 4 / 2 % 2).toNat = k at h2 ⊢
   refine KH ?_
   have hk : k = 0 \/ k = 1 := by omega
   rcases hk with rfl | rfl
   . exact .inr (auN _)
   . exact .inl (show (-1 : Int) < 0 by decide)
 rw [asH h0]
 by_cases h1 : c % 4 = 1
 . rw [asM h1]
   have h1 := (jH (c / 4) (n := 4) Q.c).1
   have e : ((4 : Nat) : Int) = 4 := rfl
   rw [e] at h1
   have hm : baL.getD (c / 4 % 4).toNat Str.empty ∈ baL := oB h1
   generalize baL.getD (c / 4 % 4).toNat Str.empty = w at hm ⊢
   have cl : ∀ w ∈ baL, w ∉ (["<", "<=", "=", "!="] : List Str) /\ w ∉ (["open", "shut"] : List Str) := Q.f
   obtain ⟨c1, c2⟩ := cl w hm
   refine ⟨?_, c2⟩
   show (decide (w ∈ (["<", "<=", "=", "!="] : List Str)) && _) = false
   rw [asY c1]
   rfl
 rw [asH h1]
 by_cases h2 : c % 4 = 2
 . rw [asM h2]
   refine ⟨?_, nin _ Q.c⟩
   rw [ZV, GL, atG, as4]
 rw [asH h2]
 refine ⟨?_, nin _ Q.c⟩
 rw [ZV, GL, as4, as4]
variable {nl : Nat}
theorem mG : Ea ks es ss nl = true ↔ 0 < ks.length /\ es.length = ks.length /\ ss.length = ks.length /\ nl = ks.length /\ GK es (es.length - 1) = true /\ R9 ks es = true /\ Py ks es ss = true := by
 unfold Ea
 simp only [asZ, atZ]
theorem Se {m : Nat} (h : R9 ks es = true) (hm : m < ks.length) : kdO ks es m = true := atk.mp h m (atp.mpr hm)
theorem ai0 {m : Nat} (h : Py ks es ss = true) (hm : m < ss.length) : ZY ks es ss m = true := atk.mp h m (atp.mpr hm)
theorem ai1 (h : i <= j) (e : GK es j = true) : GK es i = true := by
 cases q : GK es i with
 | true => rfl
 | false => rw [BI h q] at e; cases e
theorem aey (hj : j + 1 < es.length) (h : GK es (j + 1) = true) : 0 <= es.getD (j + 1) 0 := by
 rw [GK, asZ, asZ] at h
 have ih := Ie (j := j) Q.a h.1
 have hin := asI h.2.1
 rcases asX.mp hin with z | z
 . omega
 . have ha := ih.at (k := (j : Int)) Q.a Q.a Q.a
   exact (ih.ug (es.length + 1) ha.1 Q.a Q.a _ z).1
theorem ten (P : Prop) (h0 : c % 10 = 0 -> P) (h1 : c % 10 = 1 -> P) (h2 : c % 10 = 2 -> P) (h3 : c % 10 = 3 -> P) (h4 : c % 10 = 4 -> P) (h5 : c % 10 = 5 -> P) (h6 : c % 10 = 6 -> P) (h7 : c % 10 = 7 -> P) (h8 : c % 10 = 8 -> P) (h9 : c % 10 = 9 -> P) : P := by
 have : c % 10 = 0 \/ c % 10 = 1 \/ c % 10 = 2 \/ c % 10 = 3 \/ c % 10 = 4 \/ c % 10 = 5 \/ c % 10 = 6 \/ c % 10 = 7 \/ c % 10 = 8 \/ c % 10 = 9 := by omega
 rcases this with h | h | h | h | h | h | h | h | h | h
 . exact h0 h
 . exact h1 h
 . exact h2 h
 . exact h3 h
 . exact h4 h
 . exact h5 h
 . exact h6 h
 . exact h7 h
 . exact h8 h
 . exact h9 h
theorem PB {l : Q.e} (hl : l.length = n) (h0 : 0 < n) : (F7 c n l).length ≠ n := by
 unfold F7
 split
 . rw [atF, as5]; show min _ (l.length + 1) ≠ n; omega
 . rw [as5]; show l.length + 1 ≠ n; omega
theorem aez (c : Int) (h : Ea p.ks p.es p.ss p.nm.length = true) : Ea (dP p c).ks (dP p c).es (dP p c).ss (dP p c).nm.length = false := by
 obtain ⟨h0, h1, h2, h3, h4, h5, h6⟩ := mG.mp h
 have hT := Ie Q.a h4
 have i1 : iY p c < p.nm.length := (jH (c / 10) (n := p.nm.length) Q.a).1
 have hel : ∀ v : Int, v < 0 \/ (iY p c : Int) <= v -> Ea p.ks (p.es.set (iY p c) v) p.ss p.nm.length = true -> iY p c = 0 /\ v = -1 := fun v hv q => by
   generalize iY p c = i at *
   obtain ⟨q0, q1, q2, q3, q4, q5, q6⟩ := mG.mp q
   rw [atc] at q1 q4
   have hi : i < p.es.length := by omega
   have hl : (p.es.set i v).length = p.es.length := atc ..
   have hT2 := Ie Q.a q4 i Q.a Q.a
   rw [BL hi] at hT2
   cases i with
   | zero => omega
   | succ j =>
     have := aey (j := j) Q.a (ai1 Q.a q4)
     rw [BL hi] at this
     omega
 refine ten (c := c) _ (fun e => ?_) (fun e => ?_) (fun e => ?_) (fun e => ?_) (fun e => ?_) (fun e => ?_) (fun e => ?_) (fun e => ?_) (fun e => ?_) (fun e => ?_)
 . rw [st0 e]
   exact bF fun q => by have := hel _ (.inr (auN _)) q; omega
 . rw [st1 e]
   exact bF fun q => by have := hel _ (.inr Q.a) q; omega
 . rw [st2 e]
   refine bF fun q => ?_
   have q : Ea p.ks (p.es.set (iY p c) (if iY p c = 0 then -2 else -1)) p.ss p.nm.length = true := q
   have := hel _ (.inl (by split <;> omega)) q
   rw [asM this.1] at this
   omega
 . rw [st3 e]
   refine bF fun q => ?_
   obtain ⟨q0, q1, q2, q3, q4, q5, q6⟩ := mG.mp q
   have hi : iY p c < p.ks.length := by omega
   have := Se q5 (m := iY p c) (by rw [atc]; omega)
   unfold kdO at this
   rw [BL hi, asZ] at this
   have hm := asI this.1
   have h1 := (jH (c / 700) (n := 4) Q.c).1
   have hw : kwL.getD (c / 700 % 4).toNat Str.empty ∈ kwL := oB h1
   have cl : ∀ x ∈ kwL, x ∉ D9 := Q.f
   exact cl _ hw hm
 . rw [st4 e]
   refine bF fun q => ?_
   obtain ⟨q0, q1, q2, q3, q4, q5, q6⟩ := mG.mp q
   have hi : iY p c < p.ks.length := by omega
   have b := Se h5 hi
   have a := Se q5 (m := iY p c) (by rw [atc]; omega)
   unfold kdO at a b
   rw [BL hi, asZ] at a
   rw [asZ] at b
   have a := a.2
   have b := b.2
   revert a b
   generalize (decide ((iY p c : Int) ∈ p.es)) = bb
   generalize p.ks.getD (iY p c) Str.empty = k
   intro a b
   have al : ¬ ("all" : Str) = "leaf" := Q.f
   by_cases hk : k = "leaf"
   . rw [asM hk, asY al] at a
     rw [asN hk] at b
     cases bb <;> first | exact absurd a Q.c | exact absurd b Q.c
   . rw [asH hk, asN rfl] at a
     rw [asY hk] at b
     cases bb <;> first | exact absurd a Q.c | exact absurd b Q.c
 . rw [st5 e]
   refine bF fun q => ?_
   obtain ⟨q0, q1, q2, q3, q4, q5, q6⟩ := mG.mp q
   have hi : iY p c < p.ss.length := by omega
   have a := ai0 q6 (m := iY p c) (by rw [atc]; omega)
   have hr := (jH (c / 700) (n := 2) Q.c).1
   have e2 : ((2 : Nat) : Int) = 2 := rfl
   rw [e2] at hr
   unfold ZY at a
   rw [BL hi] at a
   have Lk := (hT (iY p c) Q.a Q.a).2
   generalize hI : iY p c = i at *
   generalize (c / 700 % 2).toNat = r at *
   have hr2 : r = 0 \/ r = 1 := by omega
   by_cases hk : p.ks.getD i Str.empty = "one"
   . rw [asM hk, asM hk, asZ] at a
     rcases hr2 with rfl | rfl
     . have := a.1
       rw [KH (.inl (show ([-1, (i : Int)] : List Int).getD 0 0 < 0 from by show (-1 : Int) < 0; decide))] at this
       cases this
     . have a2 := asI a.2
       have : p.es.getD ((i : Int)).toNat 0 = (i : Int) := a2
       rw [ato] at this
       omega
   . rw [asH hk, asH hk] at a
     have a := asI a
     rcases hr2 with rfl | rfl
     . have : (0 : Int) = -1 := a
       omega
     . have : (p.nm.length : Int) = -1 := a
       omega
 . rw [st6 e]
   refine bF fun q => ?_
   obtain ⟨q0, q1, q2, q3, q4, q5, q6⟩ := mG.mp q
   have q3 : ((dw (iY p c) ("more" : Str) p.nm).take (if c / 700 % 2 = 0 then p.nm.length + 1 else p.nm.length - 1)).length = p.ks.length := q3
   rw [atF, qD] at q3
   by_cases z : c / 700 % 2 = 0
   . rw [asM z] at q3; omega
   . rw [asH z] at q3; omega
 . rw [st7 e]
   by_cases z : c / 700 % 2 = 0
   . rw [asM z]
     refine bF fun q => ?_
     obtain ⟨q0, q1, q2, q3, q4, q5, q6⟩ := mG.mp q
     exact PB (c := c) (n := p.nm.length) (l := p.es) Q.a Q.a (q1.trans h3.symm)
   . rw [asH z]
     refine bF fun q => ?_
     obtain ⟨q0, q1, q2, q3, q4, q5, q6⟩ := mG.mp q
     exact PB (c := c) (n := p.nm.length) (l := p.ss) Q.a Q.a (q2.trans h3.symm)
 . rw [st8 e]
   rfl
 . rw [st9 e]
   show Ea k14 e14 s14 n14.length = false
   decide +kernel
theorem Wh {l : Q.h} {x : Str} (h : x ∈ l) (hx : dO x = false) : mC l = false := by
 unfold mC
 rw [F5 h hx]
 rfl
theorem Wi {l : Q.h} (h : ¬ l.Nodup) : mC l = false := by
 unfold mC
 rw [asY h, as4]
theorem aeA (c : Int) (h : 0 < p.nm.length) : mC (jd p c).nm = false := by
 obtain ⟨i1, i2⟩ := jH (c / 2) h
 unfold jd
 dsimp only
 generalize (c / 2 % (p.nm.length : Int)).toNat = i at *
 by_cases hc : c % 2 = 1 /\ 1 < p.nm.length
 . rw [asM hc]
   refine Wi fun nd => ?_
   have r0 := as9 (c / 100) (b := (p.nm.length : Int) - 1) Q.a
   have r1 := as1 (c / 100) (b := (p.nm.length : Int) - 1) Q.a
   generalize c / 100 % ((p.nm.length : Int) - 1) = r at *
   have j0 := as9 ((i : Int) + 1 + r) (b := (p.nm.length : Int)) Q.a
   have j1 := as1 ((i : Int) + 1 + r) (b := (p.nm.length : Int)) Q.a
   have ZR : ((i : Int) + 1 + r) % (p.nm.length : Int) ≠ (i : Int) := by
     intro hz
     by_cases hs : (i : Int) + 1 + r < (p.nm.length : Int)
     . rw [Int.emod_eq_of_lt Q.a hs] at hz; omega
     . rw [← Int.sub_emod_right, Int.emod_eq_of_lt Q.a Q.a] at hz
       omega
   generalize hj : (((i : Int) + 1 + r) % (p.nm.length : Int)).toNat = j at *
   have hij : i ≠ j := by omega
   generalize hl : p.nm.set i (qd (c / 100) (p.nm.getD i Str.empty)) = l at *
   have hll : l.length = p.nm.length := by rw [← hl, atc]
   refine hij ((List.getElem?_inj (i := i) (by rw [atc]; omega) nd).mp ?_)
   rw [at5 Q.a, auI hij, asU, as2 (show j < l.length by omega)]
   rfl
 . rw [asH hc]
   exact Wh (auH Q.a _) (BO _ _)
theorem agX {l : Q.C} (h : mC (l.map (·.1)) = false) : pS l = false := by
 unfold pS
 rw [h, as4]
theorem agY {l : Q.C} {q : Str × Int} (h : q ∈ l) (hq : Rj q.2 = false) : pS l = false := by
 unfold pS
 rw [F5 (p := fun q : Str × Int => Rj q.2) h hq]
 rfl
theorem ai2 {l : Q.C} (c : Int) (h : 0 < l.length) : pS (Pz l c) = false := by
 obtain ⟨i1, i2⟩ := jH (c / 4) h
 unfold Pz
 dsimp only
 generalize (c / 4 % (l.length : Int)).toNat = i at *
 split
 . exact agX (Wh (asW.mpr ⟨_, auH i1 _, rfl⟩) (BO _ _))
 . split
   . refine agX (Wi fun nd => ?_)
     rw [← oA] at nd
     unfold dw at nd
     have nd := (atr.mp nd).2.1
     refine (atL.mp nd).1 ?_
     rw [auQ (show i < (l.map (·.1)).length by rw [asG]; exact i1), List.getElem_map]
     rw [asU, as2 i1]
     exact asT
   . have p30 : (10 : Int) ^ (30 : Int).toNat = 1000000000000000000000000000000 := Q.f
     split
     . refine agY (auH i1 _) ?_
       unfold Rj
       rw [p30, asY (show ¬ (_ : Int) < 1000000000000000000000000000000 by show ¬ (1000000000000000000000000000000 + c / 40 % 5 : Int) < 1000000000000000000000000000000; omega), as4]
     . refine agY (auH i1 _) ?_
       unfold Rj
       rw [p30, asY (show ¬ -(1000000000000000000000000000000 : Int) < (0 - 1000000000000000000000000000000 - c / 40 % 5 : Int) by omega)]
       rfl
theorem L6 {bl : Nat} {is os : List (List pR)} {ws : List p8} {l : List pR} {q : pR} (h : l ∈ is ++ os ++ ws.map (·.dl)) (hq : q ∈ l) (hb : Yl bl q = false) : om nl bl is os ws = false := by
 unfold om
 rw [F5 h (F5 hq hb), as4, as4]
theorem ai3 {bl : Nat} {is os : List (List pR)} {ws : List p8} (h : is.length ≠ nl) : om nl bl is os ws = false := by
 unfold om
 rw [asY h]
 rfl
theorem ai4 {bl : Nat} {is os : List (List pR)} {ws : List p8} (h : os.length ≠ nl) : om nl bl is os ws = false := by
 unfold om
 rw [asY h, atG, as4]
theorem PD {l : List (List pR)} (h : 0 < l.length) : (Eb c l).length ≠ l.length := by
 unfold Eb
 split
 . rw [atF, as5]; show min (l.length + 1 - 2) (l.length + 1) ≠ _; omega
 . rw [as5]; show l.length + 1 ≠ _; omega
theorem aeC (c : Int) (h : 0 < p.nm.length) (hi : p.is.length = p.nm.length) (ho : p.os.length = p.nm.length) : om (lz p c).nm.length (lz p c).bs.length (lz p c).is (lz p c).os (lz p c).ws = false := by
 obtain ⟨i1, i2⟩ := jH (c / 4) (n := p.is.length) Q.a
 have hb := (KJ (c / 1000) p.bs.length).1
 unfold lz
 dsimp only
 generalize (c / 4 % (p.is.length : Int)).toNat = i at *
 split
 . exact L6 (asL _ (asL _ (auH i1 _))) (mh.mpr (.inl rfl)) hb
 . split
   . exact L6 (asL _ (asJ _ (auH Q.a _))) (mh.mpr (.inl rfl)) hb
   . split
     . split
       . exact ai3 (fun z => PD (c := c) (l := p.is) Q.a (z.trans hi.symm))
       . exact ai4 (fun z => PD (c := c) (l := p.os) Q.a (z.trans ho.symm))
     . refine L6 (l := [.call "go", BK (c / 1000) p.bs.length]) (asJ _ (asW.mpr ⟨_, asJ _ (ati.mpr rfl), rfl⟩)) (q := BK (c / 1000) p.bs.length) Q.r hb
theorem L7 {n m : Nat} : ∀ {ws : List p8} {l : Int}, Ic n m l ws = true -> (∀ w ∈ ws, l <= w.src /\ R8 n m w = true) /\ ws.Pairwise (fun a b => a.src <= b.src)
 | [], l, _ => ⟨fun w hw => absurd hw as8, List.Pairwise.nil⟩
 | w :: ws, l, h => by
   rw [Ic, asZ, asZ] at h
   obtain ⟨h1, h2, h3⟩ := h
   have h1 : ¬ w.src < l := asP (ZX h1)
   obtain ⟨a, b⟩ := L7 h3
   refine ⟨fun v hv => ?_, .cons (fun v hv => (a v hv).1) b⟩
   rcases asX.mp hv with rfl | hv
   . exact ⟨by omega, h2⟩
   . exact ⟨Int.le_trans Q.a (a v hv).1, (a v hv).2⟩
variable {w : p8}
theorem ai5 {m : Nat} {l : Int} {ws : List p8} (h : w ∈ ws) (hw : R8 n m w = false) : Ic n m l ws = false := bF fun q => by
 have := ((L7 q).1 w h).2
 rw [hw] at this
 cases this
theorem aeD {k : Int} {m : Nat} (k0 : 0 <= k) (k8 : k < 8) : R8 n m (uo c k m n w) = false := by
 unfold uo R8
 have c2 := (jH c (n := 2) Q.c).1
 have c3 := (jH c (n := 3) Q.c).1
 have e2 : ((2 : Nat) : Int) = 2 := rfl
 have e3 : ((3 : Nat) : Int) = 3 := rfl
 rw [e2] at c2
 rw [e3] at c3
 split
 . rename_i h
   have : rN (([-1, (n : Int), (n : Int) + 1] : List Int).getD k.toNat 0) n = false := KH (by
     rcases lt3 (show k.toNat < 3 by omega) with e | e | e
     . rw [e]; exact .inl (show (-1 : Int) < 0 by decide)
     . rw [e]; exact .inr (auN _)
     . rw [e]; exact .inr (show (n : Int) <= (n : Int) + 1 by omega))
   dsimp only
   rw [this]
   rfl
 split
 . dsimp only
   rw [BO, atG, as4]
 split
 . generalize (c % 2).toNat = r at c2 ⊢
   have hr : r = 0 \/ r = 1 := by omega
   have ht : ∀ t : Int, t ≠ -1 -> (t < 0 \/ (n : Int) <= t) -> (if t = -1 then decide (w.mode = "new") else rN t n) = false := fun t t1 t2 => by
     rw [asH t1, KH t2]
   dsimp only
   rw [ht, atG, as4, as4, as4]
   . rcases hr with rfl | rfl
     . show (n : Int) ≠ -1; omega
     . show (-2 : Int) ≠ -1; omega
   . rcases hr with rfl | rfl
     . exact .inr (auN _)
     . exact .inl (show (-2 : Int) < 0 by decide)
 split
 . have hm : (["", "fresh", "New"] : List Str).getD (c % 3).toNat Str.empty ∈ (["", "fresh", "New"] : List Str) := oB c3
   have cl : ∀ x ∈ (["", "fresh", "New"] : List Str), x ∉ um := Q.f
   dsimp only
   rw [asY (cl _ hm), atG, as4, as4]
 split
 . have hm : (["near", "far"] : List Str).getD (c % 2).toNat Str.empty ∈ (["near", "far"] : List Str) := oB c2
   have cl : ∀ x ∈ (["near", "far"] : List Str), ¬ x = "new" := Q.f
   dsimp only
   rw [asM rfl, asY (cl _ hm), atG, as4, as4, as4]
 split
 . have : (dw (c % ((w.al.length : Int) + 1)).toNat (zx (c / 4) m n) w.al).all (ZV n m) = false := F5 (mh.mpr (.inl rfl)) (KL _ _ _).1
   dsimp only
   rw [this, as4, as4, as4, as4]
 . exfalso; omega
theorem ai6 {l : List p8} (c : Int) (m n : Nat) (h : 0 < l.length) : Ic n m 0 (Ec l c m n) = false := by
 obtain ⟨i1, i2⟩ := jH (c / 9) h
 unfold Ec
 dsimp only
 generalize (c / 9 % (l.length : Int)).toNat = i at *
 by_cases h8 : c % 9 = 8
 . rw [asM h8]
   refine bF fun q => ?_
   have := List.pairwise_iff_getElem.mp (L7 q).2 i l.length (by rw [atc, as5]; show i < l.length + 1; omega) (by rw [atc, as5]; show l.length < l.length + 1; omega) i1
   rw [List.getElem_set_self, List.getElem_set_ne Q.a, List.getElem_append_right (as3 _)] at this
   have e : uo (c / 1000) (c % 9) m n (l.getD i Ym) = { l.getD i Ym with src := 1 } := by rw [h8]; rfl
   rw [e] at this
   simp at this
   exact absurd this Q.c
 . rw [asH h8]
   exact ai5 (auH i1 _) (aeD Q.a Q.a)
structure PF (B : Nat) (p : Pt) : Prop where
 k1 : p.ks.length <= B
 e1 : p.es.length <= B
 s1 : p.ss.length <= B
 n1 : ∀ x ∈ p.nm, x.length <= 10 * B
 n2 : p.nm.length <= B
 b1 : ∀ q ∈ p.bs, q.1.length <= 10 * B
 b2 : p.bs.length <= B
 i1 : p.is.length <= B
 o1 : p.os.length <= B
 w1 : p.ws.length <= B
 d1 : ∀ l ∈ p.is ++ p.os ++ p.ws.map (·.dl), l.length <= B /\ ∀ q ∈ l, J6 q
 w2 : ∀ w ∈ p.ws, w.ok /\ w.al.length <= B
variable {B : Nat}
theorem PF.shape (h : PF B p) (hB : B <= 100) : BJ p.bs p.nm p.ks p.is p.os p.ws :=
 ⟨asS h.k1 Q.a, fun x hx => asS (h.n1 x hx) Q.a, asS h.n2 Q.a, fun x hx => asS (h.b1 x hx) Q.a, asS h.b2 Q.a, asS h.i1 Q.a, asS h.o1 Q.a, asS h.w1 hB, fun l hl => (h.d1 l hl).2, fun w hw => (h.w2 w hw).1⟩
theorem KN (l : List α) (i : Nat) (d : α) : l.getD i d ∈ l \/ l.getD i d = d := by
 rcases Nat.lt_or_ge i l.length with h | h
 . exact .inl (oB h)
 . exact .inr (by rw [asU, auF h]; rfl)
theorem tF {l : List α} {x y : α} (h : y ∈ l.set i x) : y ∈ l \/ y = x := List.mem_or_eq_of_mem_set h
theorem aeE (c : Int) (h : PF B p) : PF (B + 2) (jd p c) := by
 have hn : ∀ x ∈ (jd p c).nm, x.length <= 10 * (B + 2) := by
   unfold jd
   dsimp only
   generalize (c / 2 % (p.nm.length : Int)).toNat = i
   have e0 : Str.empty.length = 0 := rfl
   have g : ∀ x ∈ p.nm.set i (qd (c / 100) (p.nm.getD i Str.empty)), x.length <= 10 * (B + 2) := fun x hx => by
     rcases tF hx with z | rfl
     . have := h.n1 x z; omega
     . have b := Ii (c / 100) (p.nm.getD i Str.empty)
       rcases KN p.nm i Str.empty with z | z
       . have := h.n1 _ z; omega
       . rw [z] at b ⊢; omega
   generalize p.nm.set i (qd (c / 100) (p.nm.getD i Str.empty)) = l at g
   split
   . intro x hx
     rcases tF hx with z | rfl
     . exact g x z
     . rcases KN l (((i : Int) + 1 + c / 100 % ((p.nm.length : Int) - 1)) % (p.nm.length : Int)).toNat Str.empty with z | z
       . exact g _ z
       . rw [z, e0]; omega
   . exact g
 have hl : (jd p c).nm.length = p.nm.length := by
   unfold jd
   dsimp only
   split
   . rw [atc, atc]
   . rw [atc]
 exact ⟨asK h.k1, asK h.e1, asK h.s1, hn, by rw [hl]; exact asK h.n2, fun q hq => by have := h.b1 q hq; omega, asK h.b2, asK h.i1, asK h.o1, asK h.w1, fun l hl => ⟨asK (h.d1 l hl).1, (h.d1 l hl).2⟩, fun w hw => ⟨(h.w2 w hw).1, asK (h.w2 w hw).2⟩⟩
theorem Wj (l : Q.C) : 0 < (L5 l).length := by
 unfold L5
 split
 . decide
 . rename_i h; exact auu.mpr h
theorem ai7 (c : Int) (h : PF B p) (hB : 14 <= B) : PF (B + 2) (rO p c) := by
 have w5 : w05.1.length <= 10 * B := asS (show w05.1.length <= 10 by decide +kernel) Q.a
 have g0 : ∀ q ∈ L5 p.bs, q.1.length <= 10 * B := by
   unfold L5
   split
   . intro q hq; cases ati.mp hq; exact w5
   . exact h.b1
 have l0 : (L5 p.bs).length <= B + 1 := by
   unfold L5
   split
   . show 1 <= B + 1; omega
   . exact asK h.b2
 have hb : (∀ q ∈ (rO p c).bs, q.1.length <= 10 * (B + 2)) /\ (rO p c).bs.length <= B + 2 := by
   show (∀ q ∈ Pz (L5 p.bs) c, _) /\ (Pz (L5 p.bs) c).length <= B + 2
   generalize L5 p.bs = l at g0 l0
   unfold Pz
   dsimp only
   generalize (c / 4 % (l.length : Int)).toNat = i
   have gq : (l.getD i w05).1.length <= 10 * B := by
     rcases KN l i w05 with z | z
     . exact g0 _ z
     . rw [z]; exact w5
   have gs : ∀ q : Str × Int, q.1.length <= 10 * (B + 2) -> (∀ r ∈ l.set i q, r.1.length <= 10 * (B + 2)) /\ (l.set i q).length <= B + 2 := fun q hq => ⟨fun r hr => by
     rcases tF hr with z | rfl
     . have := g0 r z; omega
     . exact hq, by rw [atc]; omega⟩
   split
   . exact gs _ (asS (Ii _ _) Q.a)
   . split
     . refine ⟨fun r hr => ?_, by rw [qD]; omega⟩
       rcases mh.mp hr with rfl | z
       . exact asS gq Q.a
       . exact asS (g0 r z) Q.a
     . split
       . exact gs _ (asS gq Q.a)
       . exact gs _ (asS gq Q.a)
 exact ⟨asK h.k1, asK h.e1, asK h.s1, fun q hq => asS (h.n1 q hq) Q.a, asK h.n2, hb.1, hb.2, asK h.i1, asK h.o1, asK h.w1, fun l hl => ⟨asK (h.d1 l hl).1, (h.d1 l hl).2⟩, fun w hw => ⟨(h.w2 w hw).1, asK (h.w2 w hw).2⟩⟩
theorem abx {l : List (List pR)} (c : Int) {d : pR} (hd : J6 d) (i : Nat) (h : ∀ r ∈ l, r.length <= B /\ ∀ q ∈ r, J6 q) : ∀ r ∈ Sd c d l i, r.length <= B + 2 /\ ∀ q ∈ r, J6 q := by
 have g : (l.getD i []).length <= B /\ ∀ q ∈ l.getD i [], J6 q := by
   rcases KN l i [] with z | z
   . exact h _ z
   . rw [z]; exact ⟨ata _, fun q hq => absurd hq as8⟩
 intro r hr
 rcases tF hr with z | rfl
 . exact ⟨asK (h r z).1, (h r z).2⟩
 . refine ⟨by rw [qD]; omega, fun q hq => ?_⟩
   rcases mh.mp hq with rfl | z
   . exact hd
   . exact g.2 q z
theorem GN {l : List (List pR)} (c : Int) (h : ∀ r ∈ l, r.length <= B /\ ∀ q ∈ r, J6 q) : (∀ r ∈ Eb c l, r.length <= B + 2 /\ ∀ q ∈ r, J6 q) /\ (Eb c l).length <= l.length + 1 := by
 have g : ∀ r ∈ l ++ [[]], r.length <= B + 2 /\ ∀ q ∈ r, J6 q := fun r hr => by
   rcases asQ.mp hr with z | z
   . exact ⟨asK (h r z).1, (h r z).2⟩
   . cases ati.mp z
     exact ⟨ata _, fun q hq => absurd hq as8⟩
 have gl : (l ++ [([] : List pR)]).length = l.length + 1 := as5 ..
 unfold Eb
 split
 . exact ⟨fun r hr => g r (aup hr), by rw [atF]; omega⟩
 . exact ⟨g, by omega⟩
theorem aeF (c : Int) (h : PF B p) (hB : 14 <= B) : PF (B + 2) (lz p c) := by
 have hd := (KJ (c / 1000) p.bs.length).2
 have h1 : ∀ r ∈ p.is, r.length <= B /\ ∀ q ∈ r, J6 q := fun r hr => h.d1 r (asL _ (asL _ hr))
 have h2 : ∀ r ∈ p.os, r.length <= B /\ ∀ q ∈ r, J6 q := fun r hr => h.d1 r (asL _ (asJ _ hr))
 have h3 : ∀ r ∈ p.ws.map (·.dl), r.length <= B /\ ∀ q ∈ r, J6 q := fun r hr => h.d1 r (asJ _ hr)
 have mk : ∀ is os : List (List pR), (∀ r ∈ is, r.length <= B + 2 /\ ∀ q ∈ r, J6 q) -> (∀ r ∈ os, r.length <= B + 2 /\ ∀ q ∈ r, J6 q) -> is.length <= B + 2 -> os.length <= B + 2 -> PF (B + 2) { p with is := is, os := os } := fun is os a1 a2 a3 a4 =>
   ⟨asK h.k1, asK h.e1, asK h.s1, fun q hq => asS (h.n1 q hq) Q.a, asK h.n2, fun q hq => asS (h.b1 q hq) Q.a, asK h.b2, a3, a4, asK h.w1, fun l hl => by
     rcases asQ.mp hl with z | z
     . rcases asQ.mp z with z | z
       . exact a1 l z
       . exact a2 l z
     . exact ⟨asK (h3 l z).1, (h3 l z).2⟩, fun w hw => ⟨(h.w2 w hw).1, asK (h.w2 w hw).2⟩⟩
 have up : ∀ {l : List (List pR)}, (∀ r ∈ l, r.length <= B /\ ∀ q ∈ r, J6 q) -> ∀ r ∈ l, r.length <= B + 2 /\ ∀ q ∈ r, J6 q := fun hh r hr => ⟨asK (hh r hr).1, (hh r hr).2⟩
 have li := h.i1
 have lo := h.o1
 unfold lz
 dsimp only
 generalize (c / 4 % (p.is.length : Int)).toNat = i
 split
 . exact mk _ _ (abx _ hd i h1) (up h2) (by unfold Sd; rw [atc]; omega) Q.a
 . split
   . exact mk _ _ (up h1) (abx _ hd i h2) Q.a (by unfold Sd; rw [atc]; omega)
   . split
     . split
       . exact mk _ _ (GN c h1).1 (up h2) (asS (GN c h1).2 Q.a) Q.a
       . exact mk _ _ (up h1) (GN c h2).1 Q.a (asS (GN c h2).2 Q.a)
     . refine ⟨asK h.k1, asK h.e1, asK h.s1, fun q hq => asS (h.n1 q hq) Q.a, asK h.n2, fun q hq => asS (h.b1 q hq) Q.a, asK h.b2, by show p.is.length <= _; omega, by show p.os.length <= _; omega, by show (p.ws ++ [_]).length <= _; rw [as5]; have := h.w1; show p.ws.length + 1 <= _; omega, fun l hl => ?_, fun w hw => ?_⟩
       . rcases asQ.mp hl with z | z
         . rcases asQ.mp z with z | z
           . exact up h1 l z
           . exact up h2 l z
         . obtain ⟨w, hw, rfl⟩ := asW.mp z
           rcases asQ.mp hw with hw | hw
           . exact up h3 _ (asW.mpr ⟨w, hw, rfl⟩)
           . cases ati.mp hw
             refine ⟨by show 2 <= B + 2; omega, fun q hq => ?_⟩
             simp only [asX, as8, auS] at hq
             rcases hq with rfl | rfl
             . show ("go" : Str).length <= 1000; decide +kernel
             . exact hd
       . rcases asQ.mp hw with hw | hw
         . exact ⟨(h.w2 w hw).1, asK (h.w2 w hw).2⟩
         . cases ati.mp hw
           exact ⟨⟨by show ("go" : Str).length <= 1000; decide +kernel, fun q hq => absurd hq as8⟩, ata _⟩
theorem Wk (l : List p8) : 0 < (FQ l).length := by
 unfold FQ
 split
 . decide
 . rename_i h; exact auu.mpr h
def WyB (B : Nat) (w : p8) : Prop := (w.ok /\ w.al.length <= B) /\ (w.dl.length <= B /\ ∀ q ∈ w.dl, J6 q)
theorem aby {t : Int} : WyB B ⟨0, "go", [], [], t, "new"⟩ := ⟨⟨⟨by show ("go" : Str).length <= 1000; decide +kernel, fun q hq => absurd hq as8⟩, ata _⟩, ata _, fun q hq => absurd hq as8⟩
theorem aeG (c k : Int) (m n : Nat) (h : WyB B w) : WyB (B + 2) (uo c k m n w) := by
 obtain ⟨⟨⟨o1, o2⟩, o3⟩, o4, o5⟩ := h
 have u3 : w.al.length <= B + 2 := by omega
 have u4 : w.dl.length <= B + 2 := by omega
 unfold uo
 split
 . exact ⟨⟨⟨o1, o2⟩, u3⟩, u4, o5⟩
 split
 . exact ⟨⟨⟨abw _, o2⟩, u3⟩, u4, o5⟩
 split
 . exact ⟨⟨⟨o1, o2⟩, u3⟩, u4, o5⟩
 split
 . exact ⟨⟨⟨o1, o2⟩, u3⟩, u4, o5⟩
 split
 . exact ⟨⟨⟨o1, o2⟩, u3⟩, u4, o5⟩
 split
 . refine ⟨⟨⟨o1, fun q hq => ?_⟩, by show (dw _ _ _).length <= _; rw [qD]; omega⟩, u4, o5⟩
   rcases mh.mp hq with rfl | z
   . exact (KL _ _ _).2
   . exact o2 q z
 . exact ⟨⟨⟨o1, o2⟩, u3⟩, u4, o5⟩
theorem ai8 (c : Int) (h : PF B p) (hB : 14 <= B) : PF (B + 2) (kD p c) := by
 have g0 : ∀ w ∈ FQ p.ws, WyB B w := by
   unfold FQ
   split
   . intro w hw; cases ati.mp hw; exact aby
   . exact fun w hw => ⟨h.w2 w hw, h.d1 _ (asJ _ (asW.mpr ⟨w, hw, rfl⟩))⟩
 have l0 : (FQ p.ws).length <= B + 1 := by
   unfold FQ
   split
   . show 1 <= B + 1; omega
   . exact asK h.w1
 have hw : (∀ w ∈ (kD p c).ws, WyB (B + 2) w) /\ (kD p c).ws.length <= B + 2 := by
   show (∀ w ∈ Ec (FQ p.ws) c p.bs.length p.nm.length, _) /\ (Ec (FQ p.ws) c p.bs.length p.nm.length).length <= B + 2
   generalize FQ p.ws = l at g0 l0
   unfold Ec
   dsimp only
   generalize (c / 9 % (l.length : Int)).toNat = i
   have g1 : WyB B (l.getD i Ym) := by
     rcases KN l i Ym with z | z
     . exact g0 _ z
     . rw [z]; exact aby
   have up : ∀ w, WyB B w -> WyB (B + 2) w := fun w ⟨⟨a1, a2⟩, a3, a4⟩ => ⟨⟨a1, by omega⟩, by omega, a4⟩
   refine ⟨fun w hw => ?_, ?_⟩
   . rcases tF hw with z | rfl
     . revert z
       split
       . intro z
         rcases asQ.mp z with z | z
         . exact up w (g0 w z)
         . cases ati.mp z; exact aby
       . exact fun z => up w (g0 w z)
     . exact aeG _ _ _ _ g1
   . rw [atc]
     split
     . rw [as5]; show l.length + 1 <= _; omega
     . omega
 exact ⟨asK h.k1, asK h.e1, asK h.s1, fun q hq => asS (h.n1 q hq) Q.a, asK h.n2, fun q hq => asS (h.b1 q hq) Q.a, asK h.b2, asK h.i1, asK h.o1, hw.2, fun l hl => by
   rcases asQ.mp hl with z | z
   . exact ⟨asK (h.d1 l (asL _ z)).1, (h.d1 l (asL _ z)).2⟩
   . obtain ⟨w, hw2, rfl⟩ := asW.mp z
     exact (hw.1 w hw2).2, fun w hw2 => (hw.1 w hw2).1⟩
theorem Wm {l : Q.e} (h : l.length <= B) : (F7 c n l).length <= B + 2 := by
 unfold F7
 have : (l ++ [-1]).length = l.length + 1 := as5 ..
 split
 . rw [atF]; omega
 . omega
theorem aeH (c : Int) (h : PF B p) (hB : 14 <= B) : PF (B + 2) (dP p c) := by
 have k1 := h.k1
 have e1 := h.e1
 have s1 := h.s1
 have mk : ∀ (ks : Q.h) (es ss : Q.e), ks.length <= B + 2 -> es.length <= B + 2 -> ss.length <= B + 2 -> ∀ nm : List Str, nm.length <= B + 2 -> (∀ x ∈ nm, x.length <= 10 * (B + 2)) -> PF (B + 2) { p with ks := ks, es := es, ss := ss, nm := nm } := fun ks es ss a1 a2 a3 nm a4 a5 =>
   ⟨a1, a2, a3, a5, a4, fun q hq => asS (h.b1 q hq) Q.a, asK h.b2, asK h.i1, asK h.o1, asK h.w1, fun l hl => ⟨asK (h.d1 l hl).1, (h.d1 l hl).2⟩, fun w hw => ⟨(h.w2 w hw).1, asK (h.w2 w hw).2⟩⟩
 have n2 : p.nm.length <= B + 2 := asK h.n2
 have n1 : ∀ x ∈ p.nm, x.length <= 10 * (B + 2) := fun q hq => asS (h.n1 q hq) Q.a
 refine ten (c := c) _ (fun e => ?_) (fun e => ?_) (fun e => ?_) (fun e => ?_) (fun e => ?_) (fun e => ?_) (fun e => ?_) (fun e => ?_) (fun e => ?_) (fun e => ?_)
 . rw [st0 e]; exact mk _ _ _ Q.a (by rw [atc]; omega) Q.a _ n2 n1
 . rw [st1 e]; exact mk _ _ _ Q.a (by rw [atc]; omega) Q.a _ n2 n1
 . rw [st2 e]; exact mk _ _ _ Q.a (by rw [atc]; omega) Q.a _ n2 n1
 . rw [st3 e]; exact mk _ _ _ (by rw [atc]; omega) Q.a Q.a _ n2 n1
 . rw [st4 e]; exact mk _ _ _ (by rw [atc]; omega) Q.a (by rw [atc]; omega) _ n2 n1
 . rw [st5 e]; exact mk _ _ _ Q.a Q.a (by rw [atc]; omega) _ n2 n1
 . rw [st6 e]
   refine mk _ _ _ Q.a Q.a Q.a _ (by rw [atF, qD]; have := h.n2; omega) fun x hx => ?_
   rcases mh.mp (aup hx) with rfl | z
   . exact asS (show ("more" : Str).length <= 4 by decide +kernel) Q.a
   . exact n1 x z
 . rw [st7 e]
   split
   . exact mk _ _ _ Q.a (Wm e1) Q.a _ n2 n1
   . exact mk _ _ _ Q.a Q.a (Wm s1) _ n2 n1
 . rw [st8 e]
   exact ⟨ata _, ata _, ata _, fun x hx => absurd hx as8, ata _, fun q hq => asS (h.b1 q hq) Q.a, asK h.b2, ata _, ata _, asK h.w1, fun l hl => by
     have hl : l ∈ ([] ++ [] ++ p.ws.map (·.dl) : List (List pR)) := hl
     have := h.d1 l (List.mem_append_right _ (by simpa using hl))
     exact ⟨asK this.1, this.2⟩, fun w hw => ⟨(h.w2 w hw).1, asK (h.w2 w hw).2⟩⟩
 . rw [st9 e]
   have cl : ∀ x ∈ n14, x.length <= 3 := Q.f
   exact mk _ _ _ (asS (show k14.length <= 14 by decide +kernel) Q.a) (asS (show e14.length <= 14 by decide +kernel) Q.a) (asS (show s14.length <= 14 by decide +kernel) Q.a) _ (asS (show n14.length <= 14 by decide +kernel) Q.a) fun x hx => asS (cl x hx) Q.a
theorem L8 {x : Str} (h : dO x = true) : PyData.strOk x = true := by
 unfold dO at h
 simp only [asZ] at h
 have h := atk.mp h.2.2.2.2
 unfold PyData.strOk
 rw [← Array.all_toList, atk]
 intro c hc
 have := h c hc
 unfold isLt uh at this
 simp only [Bool.or_eq_true, asZ, atZ] at this
 refine asN ?_
 omega
theorem Sf {x : Str} {l : Q.h} (h : x ∈ l) (hl : l.all (fun y => PyData.strOk y) = true) : PyData.strOk x = true := atk.mp hl x h
theorem Sg {x y : L3.D} (h1 : rG n x) (h2 : rG n y) : rG (n + 1) (.tup [x, y]) := .tup fun d hd => by
 simp only [asX, as8, auS] at hd
 rcases hd with rfl | rfl
 . exact h1
 . exact h2
theorem ai9 {x y z : L3.D} (h1 : rG n x) (h2 : rG n y) (h3 : rG n z) : rG (n + 1) (.tup [x, y, z]) := .tup fun d hd => by
 simp only [asX, as8, auS] at hd
 rcases hd with rfl | rfl | rfl
 . exact h1
 . exact h2
 . exact h3
structure StW (w : p8) : Prop where
 a : PyData.strOk w.sign = true
 b : ∀ q ∈ w.al, ∀ k, rG (k + 2) (yL q)
 c : ∀ q ∈ w.dl, ∀ k, rG (k + 2) (F6 q)
 d : PyData.strOk w.mode = true
theorem StW.dep (h : StW w) : rG 59 (jG w) := .tup fun d hd => by
 simp only [asX, as8, auS] at hd
 rcases hd with rfl | rfl | rfl | rfl | rfl | rfl
 . exact .int _ _
 . exact .str _ _ h.a
 . refine .tup fun d hq => ?_
   obtain ⟨q, hm, rfl⟩ := asW.mp hq
   exact h.b q hm _
 . refine .tup fun d hq => ?_
   obtain ⟨q, hm, rfl⟩ := asW.mp hq
   exact h.c q hm _
 . exact .int _ _
 . exact .str _ _ h.d
theorem StW.deps {ws : List p8} (h : ∀ v ∈ ws, StW v) : rG 60 (.lst (ws.map jG)) := .lst fun d hd => by
 obtain ⟨w, hw, rfl⟩ := asW.mp hd
 exact (h w hw).dep
theorem aeI {bs : Q.C} (h : pS bs = true) : rG 60 (.lst (bs.map kH)) := .lst fun d hd => by
 obtain ⟨q, hq, rfl⟩ := asW.mp hd
 unfold pS mC at h
 simp only [asZ] at h
 have := atk.mp h.2.1 q.1 (asW.mpr ⟨q, hq, rfl⟩)
 exact Sg (.str _ _ (L8 this)) (.int _ _)
structure vz (w B : Nat) (p : Pt) : Prop where
 sh : PF B p
 b14 : 14 <= B
 tr : Ea p.ks p.es p.ss p.nm.length = true
 nms : 2 <= w -> mC p.nm = true
 bxs : 2 <= w -> pS p.bs = true
 stw : 3 <= w -> ∀ v ∈ p.ws, StW v
 li : 3 <= w -> p.is.length = p.nm.length /\ p.os.length = p.nm.length
 Wn : 4 <= w -> om p.nm.length p.bs.length p.is p.os p.ws = true
def spK (w : Nat) (p : Pt) (c : Int) : Pt := if w = 0 then dP p c else if w = 1 then jd p c else if w = 2 then rO p c else if w = 3 then lz p c else kD p c
theorem vz.pos {w : Nat} (h : vz w B p) : 0 < p.nm.length := by
 obtain ⟨h0, h1, h2, h3, _⟩ := mG.mp h.tr
 omega
theorem ajb {w : Nat} (c : Int) (h : vz w B p) : PF (B + 2) (spK w p c) := by
 unfold spK
 split
 . exact aeH c h.sh h.b14
 split
 . exact aeE c h.sh
 split
 . exact ai7 c h.sh h.b14
 split
 . exact aeF c h.sh h.b14
 . exact ai8 c h.sh h.b14
theorem Sh : (jd p c).nm.length = p.nm.length := by
 unfold jd
 dsimp only
 split
 . rw [atc, atc]
 . rw [atc]
theorem Yn (p : Pt) (c : Int) : ∃ is os ws, lz p c = { p with is := is, os := os, ws := ws } := by
 unfold lz
 dsimp only
 split
 . exact ⟨_, _, _, rfl⟩
 split
 . exact ⟨_, _, _, rfl⟩
 split
 . split
   . exact ⟨_, _, _, rfl⟩
   . exact ⟨_, _, _, rfl⟩
 . exact ⟨_, _, _, rfl⟩
theorem aeJ {w : Nat} (c : Int) (h : vz w B p) (hw : w <= 4) : (spK w p c).ref = (w : Int) := by
 have hn := h.pos
 have tT : ¬ Ea p.ks p.es p.ss p.nm.length = false := by rw [h.tr]; decide
 have hc : w = 0 \/ w = 1 \/ w = 2 \/ w = 3 \/ w = 4 := by omega
 rcases hc with rfl | rfl | rfl | rfl | rfl
 . show (dP p c).ref = 0
   unfold Pt.ref ig
   rw [asM (aez c h.tr)]
 . show (jd p c).ref = 1
   unfold Pt.ref ig
   rw [asH (show ¬ Ea (jd p c).ks (jd p c).es (jd p c).ss (jd p c).nm.length = false by rw [Sh]; exact tT), asM (aeA c hn)]
 . show (rO p c).ref = 2
   unfold Pt.ref ig
   rw [asH (show ¬ Ea (rO p c).ks (rO p c).es (rO p c).ss (rO p c).nm.length = false from tT), asH (show ¬ mC (rO p c).nm = false by show ¬ mC p.nm = false; rw [h.nms Q.a]; decide), asM (show pS (rO p c).bs = false from ai2 c (Wj _))]
 . show (lz p c).ref = 3
   obtain ⟨hi, ho⟩ := h.li Q.a
   have hd := aeC c hn hi ho
   obtain ⟨is, os, ws, e⟩ := Yn p c
   unfold Pt.ref ig
   rw [e] at hd ⊢
   rw [asH tT, asH (show ¬ mC p.nm = false by rw [h.nms Q.a]; decide), asH (show ¬ pS p.bs = false by rw [h.bxs Q.a]; decide), asM hd]
 . show (kD p c).ref = 4
   have hd := h.Wn Q.a
   have hdl : (Ec (FQ p.ws) c p.bs.length p.nm.length).map (·.dl) = (Ec (FQ p.ws) c p.bs.length p.nm.length).map (·.dl) := rfl
   have hw2 : om p.nm.length p.bs.length p.is p.os (Ec (FQ p.ws) c p.bs.length p.nm.length) = true := by
     unfold om at hd ⊢
     simp only [asZ] at hd ⊢
     refine ⟨hd.1, hd.2.1, ?_⟩
     have hd3 := atk.mp hd.2.2
     refine atk.mpr fun l hl => ?_
     rcases asQ.mp hl with z | z
     . exact hd3 l (asL _ z)
     . obtain ⟨w, hw2, rfl⟩ := asW.mp z
       have g0 : ∀ w ∈ FQ p.ws, w.dl.all (Yl p.bs.length) = true := by
         unfold FQ
         split
         . intro w hw; cases ati.mp hw; rfl
         . exact fun w hw => hd3 _ (asJ _ (asW.mpr ⟨w, hw, rfl⟩))
       revert hw2
       generalize FQ p.ws = l at g0
       unfold Ec
       dsimp only
       generalize (c / 9 % (l.length : Int)).toNat = i
       intro hw2
       rcases tF hw2 with z | rfl
       . revert z
         split
         . intro z
           rcases asQ.mp z with z | z
           . exact g0 w z
           . cases ati.mp z; rfl
         . exact fun z => g0 w z
       . have e : ∀ (a b : Int) (m n : Nat) (v : p8), (uo a b m n v).dl = v.dl := fun a b m n v => by
           unfold uo
           split
           . rfl
           split
           . rfl
           split
           . rfl
           split
           . rfl
           split
           . rfl
           split
           . rfl
           . rfl
         rw [e]
         rcases KN l i Ym with z | z
         . exact g0 _ z
         . rw [z]; rfl
   unfold Pt.ref ig
   rw [asH (show ¬ Ea (kD p c).ks (kD p c).es (kD p c).ss (kD p c).nm.length = false from tT), asH (show ¬ mC (kD p c).nm = false by show ¬ mC p.nm = false; rw [h.nms Q.a]; decide), asH (show ¬ pS (kD p c).bs = false by show ¬ pS p.bs = false; rw [h.bxs Q.a]; decide), asH (show ¬ om (kD p c).nm.length (kD p c).bs.length (kD p c).is (kD p c).os (kD p c).ws = false by show ¬ om p.nm.length p.bs.length p.is p.os (Ec (FQ p.ws) c p.bs.length p.nm.length) = false; rw [hw2]; decide), asM (show Ic (kD p c).nm.length (kD p c).bs.length 0 (kD p c).ws = false from ai6 c _ _ (Wk _))]
seal L3.dY L3.TSv L3.dH L3.eF L3.xP L3.XM L3.BAv
abbrev xT : Stmt := top 45
abbrev xU : Type := List Int × Int
def gi : xU -> List L3.D := fun (ns, j) => [.lst (ns.map .int), .int j]
def gj : xU -> Prop := fun (ns, j) => 0 <= j
def gk : xU -> T := fun (ns, j) => (.sh (.int (cB ns j)) : T)
structure Yo (X : Cx) (CL : Q.g) : Prop extends cN X where
 bT : Ln X 0 "script"
 vK : Ln X 1 "k"
 cQ : Gl X "len"
 cP : X.mg "len" = none
variable {X : Cx} {CL : Q.g}
theorem Yp {b : Bx} (E : Yo X CL) {cz : xU} (h : gj cz) :
   aN X CL b xT ["script", "k"] (gi cz) (gk cz) := by
 obtain ⟨ns, j⟩ := cz
 dsimp only [aN, gj, gi, gk] at h ⊢
 refine b5 (Kp (aL E.vK) (ai (VR E.cP (aL E.bT) E.cQ))).1 (fun hp => ?_) (fun hp => ?_)
 . have e : j < ns.length := by simpa using of_decide_eq_true hp
   refine bu (b9 (bD (aL E.bT) (aL E.vK) (fS h e)) rfl) ?_
   show T.sh _ = T.sh (.int (cB ns j))
   rw [cB, asM e]
 . have e : ¬ j < ns.length := by simpa using of_decide_eq_false hp
   refine ak (bu aj ?_)
   show T.sh _ = T.sh (.int (cB ns j))
   rw [cB, asH e]
theorem zy : pM (az xT) ([("script", aF), ("k", aF), ("len", aE)]) = true := Q.f
theorem Si : aY ["script", "k"] ["script", "k"] (az xT) := bz
abbrev uq : Stmt := top 46
abbrev ur : Type := List Int × Int
def qe : ur -> List L3.D := fun (es, m) => [.lst (es.map .int), .int m]
def j5 : ur -> Prop := fun (es, m) => D3 es /\ 0 <= m /\ m < es.length /\ es.length <= 1000
def qf : ur -> T := fun (es, m) => (.lst (((oq es m).map .int).map T.sh) : T)
structure Sj (X : Cx) (CL : Q.g) : Prop extends cN X where
 dI : Ln X 0 "elders"
 eN : Ln X 1 "at"
 uv : Ln X 2 "found"
theorem Sl {b : Bx} (E : Sj X CL) {cz : ur} (h : j5 cz) :
   aN X CL b uq ["elders", "at", "found"] (qe cz) (qf cz) := by
 obtain ⟨es, m⟩ := cz
 dsimp only [aN, j5, qe, qf] at h ⊢
 obtain ⟨ht, h0, h1, hlen⟩ := h
 refine bf E.g E.uv (cS c7 (ata _)) ?_
 refine V1 E.g (fun n δ => ∃ (k : Int) (l : Q.e), δ = [some (.sh (.lst (es.map .int))), some (.sh (.int k)), some (.lst ((l.map .int).map T.sh))] /\ 0 <= k /\ k < n /\ k < es.length /\ l ++ oq es k = oq es m /\ l.length + n <= es.length + 1) (es.length + 1)
   ⟨m, [], rfl, h0, by omega, h1, rfl, by simp⟩ ?_
 rintro n δ ⟨k, l, rfl, k0, k1, k2, k3, k4⟩
 have ha := ht.at k0 k2
 have he := LV ht k0 k2
 refine ⟨_, _, (pP (bD (aL E.dI) (aL E.eN) (fS k0 k2)) (ai Q.u)).1, fun hp => ?_, fun hp => ?_⟩
 . have hk : ¬ es.getD k.toNat 0 = -1 := by simpa using hp
   rw [asH hk] at he
   cases n with
   | zero => omega
   | succ n =>
     refine bf E.g E.eN (b9 (bD (aL E.dI) (aL E.eN) (fS k0 k2)) rfl) ?_
     refine yU E.uv.1 rfl (v_ E.eN.1) rfl (by simp; omega) ?_
     refine ak ⟨n, auK _, es.getD k.toNat 0, l ++ [es.getD k.toNat 0], ?_, by omega, by omega, by omega, ?_, by simp; omega⟩
     . show [_, _, some (T.lst (((l.map D.int).map T.sh) ++ [T.sh (.int (es.getD k.toNat 0))]))] = _
       simp
     . rw [← k3, he, asO]
       rfl
 . have hk : es.getD k.toNat 0 = -1 := by simpa using hp
   rw [asM hk] at he
   have e : l = oq es m := by rw [← k3, he, atw]
   subst e
   exact bu (vM E.uv.1) rfl
theorem wu : pM (az uq) ([("elders", aF), ("at", aF), ("found", aF)]) = true := Q.f
theorem PJ : aY ["elders", "at", "found"] ["elders", "at"] (az uq) := bz
def Yq (es : Q.e) (j : Nat) : List Int := ((j : Int) :: oq es j).filter fun a => decide (((oq es a).length : Int) < 12)
def ZZ (s es : Q.e) (j : Nat) : Int := (Yq es j).getD (cB s (1 + (j : Int)) % ((Yq es j).length : Int)).toNat 0
def yN (s : Q.e) : Nat -> List Int
 | 0 => [-1]
 | j + 1 => yN s j ++ [ZZ s (yN s j) j]
theorem Wo {es : Q.e} (h : tD es) : ∀ (n : Nat) {m : Int}, 0 <= m -> m < es.length -> m < n -> m = 0 \/ 0 ∈ oq es m
 | 0, m, h0, _, hn => by omega
 | n + 1, m, h0, h1, hn => by
   by_cases hm : m = 0
   . exact .inl hm
   have hp := h.2 (m.toNat - 1) Q.a
   rw [show m.toNat - 1 + 1 = m.toNat by omega] at hp
   have ha := h.1.at h0 h1
   have hk0 : 0 <= es.getD m.toNat 0 := by
     rcases hp with z | z
     . omega
     . have := GJ h.1 (m := ((m.toNat - 1 : Nat) : Int)) Q.a Q.a z
       omega
   refine .inr ?_
   rw [LV h.1 h0 h1, asH Q.a]
   rcases Wo h n (m := es.getD m.toNat 0) hk0 Q.a Q.a with z | z
   . exact asX.mpr (.inl z.symm)
   . exact asV _ z
theorem abB (h : tD es) (hj : j < es.length) : 0 ∈ Yq es j := by
 have e0 := h.1.at (k := 0) Q.a Q.a
 have c0 : oq es 0 = [] := by rw [LV h.1 Q.a Q.a, asM Q.a]
 refine auw.mpr ⟨?_, by rw [c0]; rfl⟩
 rcases Wo h (j + 1) (m := (j : Int)) Q.a Q.a Q.a with z | z
 . exact asX.mpr (.inl z.symm)
 . exact asV _ z
theorem Wq (h : tD es) (hj : j < es.length) : 0 < (Yq es j).length := List.length_pos_of_mem (abB h hj)
variable {s : Q.e}
theorem aeK (h : tD es) (hj : j < es.length) : ZZ s es j ∈ Yq es j := by
 have h0 := Wq h hj
 have a := as9 (cB s (1 + (j : Int))) (b := ((Yq es j).length : Int)) Q.a
 have b := as1 (cB s (1 + (j : Int))) (b := ((Yq es j).length : Int)) Q.a
 unfold ZZ
 rw [asU, as2 Q.a]
 exact at8 _
theorem ajc (h : tD es) (hj : j < es.length) : (ZZ s es j = j \/ ZZ s es j ∈ oq es j) /\ (oq es (ZZ s es j)).length < 12 := by
 have hm := auw.mp (aeK (s := s) h hj)
 have h2 := asI hm.2
 exact ⟨asX.mp hm.1, by omega⟩
theorem aeL : tD [-1] := ⟨fun k hk => by
   have : k = 0 := by simpa using hk
   subst this
   exact ⟨auN _, show (-1 : Int) < ((0 : Nat) : Int) by decide⟩, fun k hk => by simp at hk⟩
theorem Ij (s : Q.e) : ∀ j, (yN s j).length = j + 1 /\ tD (yN s j) /\ ∀ m : Int, 0 <= m -> m < (yN s j).length -> (oq (yN s j) m).length <= 12
 | 0 => ⟨rfl, aeL, fun m h0 h1 => by
     have h1 : m < 1 := h1
     have : m = 0 := by omega
     subst this
     exact ata _⟩
 | j + 1 => by
   obtain ⟨h1, h2, h3⟩ := Ij s j
   obtain ⟨p1, p2⟩ := ajc (s := s) h2 (show j < (yN s j).length by omega)
   have est : yN s (j + 1) = yN s j ++ [ZZ s (yN s j) j] := rfl
   rw [est]
   generalize yN s j = es at h1 h2 h3 p1 p2 ⊢
   generalize ZZ s es j = x at p1 p2 ⊢
   have hx : 0 <= x /\ x < es.length := by
     rcases p1 with z | z
     . omega
     . have := GJ h2.1 (m := (j : Int)) Q.a Q.a z
       omega
   have hs := h2.snoc h1.symm p1
   have hl : (es ++ [x]).length = es.length + 1 := by rw [as5]; rfl
   refine ⟨by omega, hs, fun m m0 m1 => ?_⟩
   by_cases hm : m < es.length
   . rw [LW h2.1 m0 hm]
     exact h3 m m0 hm
   . have e : m.toNat = es.length := by omega
     have eg : (es ++ [x]).getD m.toNat 0 = x := by rw [e, asU, at7 (as3 _), Nat.sub_self]; rfl
     rw [LV hs.1 m0 m1, eg, asH Q.a, LW h2.1 hx.1 hx.2, atE]
     omega
abbrev BP : Stmt := top 47
abbrev BQ : Type := List Int × Nat
def uw : BQ -> List L3.D := fun (s, n) => [.lst (s.map .int), .int n]
def qR : BQ -> Prop := fun (s, n) => 1 <= n /\ n <= 900
def ux : BQ -> T := fun (s, n) => (.lst (((yN s (n - 1)).map .int).map T.sh) : T)
structure abD (X : Cx) (CL : Q.g) : Prop extends cN X where
 bT : Ln X 0 "script"
 bq : Ln X 1 "many"
 dI : Ln X 2 "elders"
 wA : X.env.kindOf "elders" = some .cell
 vK : Ln X 3 "k"
 BR : Ln X 4 "chain"
 di : Gl X "range"
 Ma : Gl X "_law_above"
 bP : Gl X "_law_cell_at"
 cQ : Gl X "len"
 dm : X.mg "range" = none
 Ik : Fc X CL "_law_above" 1 2 qe j5 qf
 c6 : Fc X CL "_law_cell_at" 1 2 gi gj gk
 cP : X.mg "len" = none
theorem abE {b : Bx} (E : abD X CL) {cz : BQ} (h : qR cz) :
   aN X CL b BP ["script", "many", "elders", "k", "chain"] (uw cz) (ux cz) := by
 obtain ⟨s, n⟩ := cz
 dsimp only [aN, qR, uw, ux] at h ⊢
 obtain ⟨n1, n2⟩ := h
 refine bf E.g E.dI (fM (ay Q.u bH) Q.i) ?_
 refine pC E.g E.vK (fun j δ => ∃ o3 o4, δ = [some (.sh (.lst (s.map .int))), some (.sh (.int n)), some (.lst (((yN s j).map .int).map T.sh)), o3, o4])
   (DS E.dm Q.b (aL E.bq) Q.a E.di) ⟨_, _, rfl⟩ Q.ao ?turn ?fin
 case turn =>
   rintro j d δ hj ⟨o3, o4, rfl⟩
   obtain ⟨rfl, GO⟩ := mE hj
   obtain ⟨hl, hp, _⟩ := Ij s j
   have est : yN s (j + 1) = yN s j ++ [ZZ s (yN s j) j] := rfl
   show dY X CL b _ _ { nx := fun δ => ∃ o3 o4, δ = [_, _, some (.lst (((yN s (j + 1)).map .int).map T.sh)), o3, o4], rt := _, bk := _, ct := _ }
   rw [est]
   generalize yN s j = es at hl hp ⊢
   have ht := hp.1
   have hjn : j + 1 < n := by simp at GO; omega
   have hcl : (oq es (j : Int)).length <= es.length + 1 := LX _ _ _
   have ej : (1 + (j : Int)) - 1 = (j : Int) := by omega
   have abF := Wq hp (show j < es.length by omega)
   have hck : (Yq es j).length <= es.length + 2 := asS (List.length_filter_le _ _) (by rw [atE]; omega)
   refine bf E.g E.BR (aK (ua (ds := [.int (j : Int)]) (V0 := (oq es (j : Int)).map .int) (bK (ds := [.int (j : Int)]) (aK (cS (bL (eW (aL E.vK) Q.b) c7) Q.i) (by rw [ej]; rfl)))
     (bK (aK (c_ (es, (j : Int)) E.Ik E.Ma (ao (vL E.dI.1) (ao (Bw (ai (eW (aL E.vK) Q.b)) (congrArg L3.D.int ej)) aG)) (by dsimp only [j5]; exact ⟨ht, by omega, by omega, by omega⟩) (ly _)) rfl)) rfl (gf _) (Nat.le_of_lt (cR (by simp; omega)))) (t2 := .lst ((((j : Int) :: oq es (j : Int)).map .int).map T.sh)) rfl) ?_
   refine LJ (p := fun d => decide (((oq es d.Hv).length : Int) < 12)) (gg := fun d => T.sh d) E.g E.BR (eX (.cons E.dI.1 (.inl E.wA) .nil) Q.d) (t8 (vFL E.BR.1 rfl)) (.inl ⟨rfl, fun d hd => by obtain ⟨i, _, rfl⟩ := asW.mp hd; rfl⟩) (fun C s0 H0 f0 b' d hd => ?Yr) (atJ (cR (by simp; omega))) ?rest (by exact asR rfl) (Bs ⟨_, rfl⟩)
   case Yr =>
     obtain ⟨i, hi, rfl⟩ := asW.mp hd
     have hib : 0 <= i /\ i < es.length := by
       rcases asX.mp hi with z | z
       . omega
       . have := GJ ht (m := (j : Int)) Q.a Q.a z
         omega
     exact ⟨(Kp (ai (cT (n := (oq es i).length) (List.length_map ..) (by exact E.cP) (bK (aK (c_ (es, i) (Bt E.Ik) (qb Q.d) (ao (Bw (ai (v_ (pQ (i := 1) rfl Q.d))) (bI _)) (ao Q.ae aG)) (by dsimp only [j5]; exact ⟨ht, by omega, by omega, by omega⟩) (ly _)) (t2 := .lst (((oq es i).map .int).map T.sh)) rfl)) (qb Q.d))) Q.b).1, fun _ => v_ (kF (i := 0) rfl Q.d)⟩
   case rest =>
   have em : ((((j : Int) :: oq es (j : Int)).map L3.D.int).filter (fun d => decide (((oq es d.Hv).length : Int) < 12))).map (fun d => T.sh d) = ((Yq es j).map L3.D.int).map T.sh := by
     rw [List.filter_map]
     rfl
   rw [em]
   have c1 := as9 (cB s (1 + (j : Int))) (b := ((Yq es j).length : Int)) Q.a
   have c2 := as1 (cB s (1 + (j : Int))) (b := ((Yq es j).length : Int)) Q.a
   have hl2 : ((Yq es j).map L3.D.int).length = (Yq es j).length := asG ..
   have e1 : ((es.map L3.D.int).map T.sh) ++ [T.sh (.int (ZZ s es j))] = ((es ++ [ZZ s es j]).map L3.D.int).map T.sh := by simp
   refine yU E.dI.1 rfl (aK (b9 (bD (vL E.BR.1) (ai (aQ (ai (c_ ((s, 1 + (j : Int))) E.c6 E.bP (ao (aL E.bT) (ao (aL E.vK) aG)) (show (0 : Int) <= 1 + (j : Int) by omega) rfl)) (ai (cT (hl2) E.cP (vL E.BR.1) E.cQ)) Q.a)) (fS c1 c2)) rfl) (t2 := .sh (.int (ZZ s es j))) rfl) rfl (by simp; omega) (ak ?_)
   rw [e1]
   exact ⟨_, _, rfl⟩
 case fin =>
   rintro δ ⟨o3, o4, rfl⟩
   refine bu (vM E.dI.1) ?_
   have e : (cW 1 ((n : Int) - 1).toNat).length = n - 1 := by simp [cW]
   rw [e]
theorem iZ : pM (az BP) ([("script", aF), ("many", aF), ("elders", .cell), ("k", aF), ("chain", aF), ("range", aE), ("_law_above", aE), ("_law_cell_at", aE), ("len", aE)]) = true := Q.f
theorem Ys : aY ["script", "many", "elders", "k", "chain"] ["script", "many"] (az BP) := bz
def knA (s es : Q.e) (k : Nat) : Str := if yK es k = [] then "leaf" else if (cB s k / 13 + k) % 2 = 0 then "all" else "one"
def stA (s es : Q.e) (k : Nat) : Int := if yK es k = [] then -1 else if (cB s k / 13 + k) % 2 = 0 then -1 else (yK es k).getD (cB s k / 26 % ((yK es k).length : Int)).toNat 0
def wB (s es : Q.e) (n : Nat) : List Str := (List.range n).map (knA s es)
def wC (s es : Q.e) (n : Nat) : List Int := (List.range n).map (stA s es)
theorem Wr : yK es k = [] ↔ (k : Int) ∉ es := by
 constructor
 . intro h hk
   obtain ⟨i, hi, e⟩ := List.getElem_of_mem hk
   have : (i : Int) ∈ yK es k := aes Q.a Q.a (by rw [ato, asU, as2 hi]; exact e)
   rw [h] at this
   cases this
 . intro h
   refine List.eq_nil_iff_forall_not_mem.mpr fun x hx => h ?_
   have hb := Wd hx
   rw [← hb.2.2, asU, as2 Q.a]
   exact at8 _
theorem Ws (s es : Q.e) (h : k < n) : (wB s es n).getD k Str.empty = knA s es k := by
 unfold wB
 rw [asU, atf, aud h]
 rfl
theorem aeM (s es : Q.e) (h : k < n) : (wC s es n).getD k 0 = stA s es k := by
 unfold wC
 rw [asU, atf, aud h]
 rfl
theorem PK (s es : Q.e) (n : Nat) : (wB s es n).length = n := by unfold wB; rw [asG, ats]
theorem PL (s es : Q.e) (n : Nat) : (wC s es n).length = n := by unfold wC; rw [asG, ats]
theorem abt.drawn (h : tD es) (h1 : 1 <= es.length) (h2 : es.length <= 900) (hd : ∀ m : Int, 0 <= m -> m < es.length -> (oq es m).length <= 12) : abt (wB s es es.length) es (wC s es es.length) where
 pre := h
 n1 := h1
 n2 := h2
 deep := hd
 kl := PK _ _ _
 sl := PL _ _ _
 kinds := fun m hm => by
   rw [Ws s es hm]
   unfold knA
   by_cases e : yK es m = []
   . rw [asM e, asY (Wr.mp e)]
     exact ⟨by decide +kernel, by decide +kernel⟩
   . have e2 : (m : Int) ∈ es := by
       by_cases z : (m : Int) ∈ es
       . exact z
       . exact absurd (Wr.mpr z) e
     rw [asH e, asN e2]
     split
     . exact ⟨by decide +kernel, by decide +kernel⟩
     . exact ⟨by decide +kernel, by decide +kernel⟩
 starts := fun m hm => by
   rw [Ws s es hm, aeM s es hm]
   unfold knA stA
   by_cases e : yK es m = []
   . rw [asM e, asM e]
     exact .inl ⟨by decide +kernel, rfl⟩
   . rw [asH e, asH e]
     split
     . exact .inl ⟨by decide +kernel, rfl⟩
     . have hp := auu.mpr e
       have a := as9 (cB s m / 26) (b := ((yK es m).length : Int)) Q.a
       have b := as1 (cB s m / 26) (b := ((yK es m).length : Int)) Q.a
       have hx : (yK es m).getD (cB s m / 26 % ((yK es m).length : Int)).toNat 0 ∈ yK es m := by
         rw [asU, as2 Q.a]
         exact at8 _
       have hb := Wd hx
       refine .inr ⟨rfl, ?_, hb.2.2⟩
       unfold rN
       rw [asN hb.1, asN hb.2.1]
       rfl
abbrev GP : Stmt := top 54
abbrev GQ : Type := List Int × List Int
def xV : GQ -> List L3.D := fun (s, es) => [.lst (s.map .int), .lst (es.map .int)]
def xW : GQ -> Prop := fun (s, es) => es.length <= 900
def xX : GQ -> T := fun (s, es) => (.tup [.lst (((wB s es es.length).map .str).map T.sh), .lst (((wC s es es.length).map .int).map T.sh)] : T)
structure aeN (X : Cx) (CL : Q.g) : Prop extends cN X where
 bT : Ln X 0 "script"
 dI : Ln X 1 "elders"
 wA : X.env.kindOf "elders" = some .cell
 qg : Ln X 2 "kinds"
 tG : Ln X 3 "starts"
 vK : Ln X 4 "k"
 k_k : X.env.kindOf "k" = some .cell
 Il : Ln X 5 "near"
 di : Gl X "range"
 cQ : Gl X "len"
 bP : Gl X "_law_cell_at"
 dm : X.mg "range" = none
 cP : X.mg "len" = none
 c6 : Fc X CL "_law_cell_at" 1 2 gi gj gk
theorem aeO {b : Bx} (E : aeN X CL) {cz : GQ} (h : xW cz) :
   aN X CL b GP ["script", "elders", "kinds", "starts", "k", "near"] (xV cz) (xX cz) := by
 obtain ⟨s, es⟩ := cz
 dsimp only [aN, xW, xV, xX] at h ⊢
 have hl : es.length <= 900 := h
 refine bf E.g E.qg (cS c7 (ata _)) ?_
 refine bf E.g E.tG (cS c7 (ata _)) ?_
 refine pC E.g E.vK (fun j δ => ∃ o4 o5, δ = [some (.sh (.lst (s.map .int))), some (.sh (.lst (es.map .int))), some (.lst (((wB s es j).map .str).map T.sh)), some (.lst (((wC s es j).map .int).map T.sh)), o4, o5])
   (gb E.dm (ai (cT (asG ..) E.cP (aL E.dI) E.cQ)) Q.a E.di) ⟨_, _, rfl⟩ Q.ao ?turn ?fin
 case turn =>
   rintro j d δ hj ⟨o4, o5, rfl⟩
   obtain ⟨rfl, GO⟩ := mE hj
   rw [at6]
   have hjn : j < es.length := by simpa using GO
   refine LJ (p := fun d => decide (es.getD d.Hv.toNat 0 = (j : Int))) (gg := fun d => T.sh d) E.g E.Il (eX (.cons E.dI.1 (.inl E.wA) (.cons E.vK.1 (.inl E.k_k) .nil)) Q.d) (gb E.dm (ai (cT (asG ..) E.cP (aL E.dI) E.cQ)) Q.a E.di) (.inr rfl) (fun C s0 H0 f0 b' d hd => ?Yr) (atJ (cR (by simp [cW]; omega))) ?rest (by exact asR rfl) (Bs ⟨_, rfl⟩)
   case Yr =>
     obtain ⟨i, hi, rfl⟩ := asW.mp hd
     have hi' : i < es.length := by simpa using hi
     exact ⟨(bG (bD (ai (v_ (pQ (i := 1) rfl Q.d))) Q.ae (fS (show (0 : Int) <= 0 + (i : Int) by omega) (show 0 + (i : Int) < es.length by omega))) (ai (v_ (pQ (i := 2) rfl Q.d)))).1, fun _ => v_ (kF (i := 0) rfl Q.d)⟩
   case rest =>
   have hin : ((cW 0 (es.length : Int).toNat).filter fun d => decide (es.getD d.Hv.toNat 0 = (j : Int))).map (fun d => T.sh d) = ((yK es (j : Int)).map L3.D.int).map T.sh := by
     unfold cW yK
     rw [List.filter_map, ath, ath, ath, ato]
     have e1 : ((fun d : L3.D => decide (es.getD d.Hv.toNat 0 = (j : Int))) ∘ fun (k : Nat) => L3.D.int (0 + (k : Int))) = fun (i : Nat) => decide (es.getD i 0 = (j : Int)) := by
       funext i
       show decide (es.getD (0 + (i : Int)).toNat 0 = (j : Int)) = _
       rw [at6, ato]
     rw [e1]
     congr 1
     funext i
     show T.sh (.int (0 + (i : Int))) = T.sh (.int i)
     rw [at6]
   rw [hin]
   have hml := aer es (j : Int)
   have kl := PK s es j
   have sl := PL s es j
   have ek : wB s es (j + 1) = wB s es j ++ [knA s es j] := by simp [wB, aum]
   have esn : wC s es (j + 1) = wC s es j ++ [stA s es j] := by simp [wC, aum]
   show dY X CL b _ _ { nx := fun δ => ∃ o4 o5, δ = [_, _, some (.lst (((wB s es (j + 1)).map .str).map T.sh)), some (.lst (((wC s es (j + 1)).map .int).map T.sh)), o4, o5], rt := _, bk := _, ct := _ }
   rw [ek, esn]
   generalize wB s es j = ks at kl ⊢
   generalize wC s es j = ss at sl ⊢
   have aS : ∀ (l : Q.h) (x : Str), (l.map L3.D.str).map T.sh ++ [T.sh (.str x)] = ((l ++ [x]).map L3.D.str).map T.sh := by intros; simp
   have aI : ∀ (l : Q.e) (x : Int), (l.map L3.D.int).map T.sh ++ [T.sh (.int x)] = ((l ++ [x]).map L3.D.int).map T.sh := by intros; simp
   refine yU E.qg.1 rfl bx rfl (by simp; omega) ?_
   rw [aS]
   refine yU E.tG.1 rfl Q.u rfl (by simp; omega) ?_
   rw [aI]
   have alZ : ∀ (x y : Str), (((ks ++ [x]).map L3.D.str).map T.sh).set j (T.sh (.str y)) = ((ks ++ [y]).map L3.D.str).map T.sh := fun x y => by
     rw [← auT, ← auT, List.set_append, asH Q.a, kl, Nat.sub_self]; rfl
   have al0 : ∀ (x y : Int), (((ss ++ [x]).map L3.D.int).map T.sh).set j (T.sh (.int y)) = ((ss ++ [y]).map L3.D.int).map T.sh := fun x y => by
     rw [← auT, ← auT, List.set_append, asH Q.a, sl, Nat.sub_self]; rfl
   have al1 : ∀ (l : Q.h) (x : Str), l.length = j -> xM (((l ++ [x]).map L3.D.str).map T.sh).length (j : Int) = some j := fun l x e => by
     rw [asG, asG, as5]; unfold xM; rw [asM Q.a, asM (by simp; omega), ato]
   have ao4 : ∀ (l : Q.e) (x : Int), l.length = j -> xM (((l ++ [x]).map L3.D.int).map T.sh).length (j : Int) = some j := fun l x e => by
     rw [asG, asG, as5]; unfold xM; rw [asM Q.a, asM (by simp; omega), ato]
   have aeP : RL (.lst ((yK es (j : Int)).map L3.D.int)) (.lst []) = decide (yK es (j : Int) = []) := by
     generalize yK es (j : Int) = l
     cases l with
     | nil => rw [asN rfl]; exact O7 (pG [])
     | cons x l => rfl
   refine b5 (t6 (sL (Lq E.u (vL E.Il.1) (bK (ds := []) (cS c7 (ata _))) (pG _) (pG [])).1 (fun _ => Br (bG (ai (aQ (ai (bZ (ai (aT (ai (c_ ((s, (j : Int))) E.c6 E.bP (ao (aL E.bT) (ao (aL E.vK) aG)) ((show (0 : Int) <= (j : Int) by omega)) rfl)) Q.b ⟨by decide, by decide⟩)) (aL E.vK))) Q.b Q.c)) Q.b).1))) (fun hp => ?_) (fun hp => ?_)
   . rw [asZ, aeP] at hp
     have p1 : ¬ yK es (j : Int) = [] := by simpa using hp.1
     have p2 := asI hp.2
     refine aaV E.qg.1 bx (aL E.vK) rfl (al1 ks _ kl) (ak (ak ?_))
     rw [alZ, show knA s es j = "all" by unfold knA; rw [asH p1, asM p2], show stA s es j = -1 by unfold stA; rw [asH p1, asM p2]]
     exact ⟨_, _, rfl⟩
   . rw [aeP] at hp
     refine b5 (Lq E.u (vL E.Il.1) (bK (ds := []) (cS c7 (ata _))) (pG _) (pG [])).1 (fun hq => ?_) (fun hq => ?_)
     . rw [aeP] at hq
       have p1 : ¬ yK es (j : Int) = [] := by simpa using hq
       have p2 : ¬ (cB s (j : Int) / 13 + j) % 2 = 0 := fun z => by
         rw [asY p1] at hp
         exact absurd z (asP hp)
       have abF := auu.mpr p1
       have c1 := as9 (cB s (j : Int) / 26) (b := ((yK es (j : Int)).length : Int)) Q.a
       have c2 := as1 (cB s (j : Int) / 26) (b := ((yK es (j : Int)).length : Int)) Q.a
       have hl2 : ((yK es (j : Int)).map L3.D.int).length = (yK es (j : Int)).length := asG ..
       have e2 : stA s es j = (yK es (j : Int)).getD (cB s (j : Int) / 26 % ((yK es (j : Int)).length : Int)).toNat 0 := by unfold stA; rw [asH p1, asH p2]
       refine aaV E.qg.1 bx (aL E.vK) rfl (al1 ks _ kl) ?_
       refine aaV E.tG.1 (aK (b9 (bD (vL E.Il.1) (ai (aQ (ai (aT (ai (c_ ((s, (j : Int))) E.c6 E.bP (ao (aL E.bT) (ao (aL E.vK) aG)) (show (0 : Int) <= (j : Int) by omega) rfl)) Q.b ⟨by decide, by decide⟩)) (ai (cT (hl2) E.cP (vL E.Il.1) E.cQ)) Q.a)) (fS c1 c2)) rfl) (t2 := .sh (.int (stA s es j))) (by rw [e2])) (aL E.vK) rfl (ao4 ss _ sl) (ak (ak (ak ?_)))
       rw [alZ, al0, show knA s es j = "one" by unfold knA; rw [asH p1, asH p2]]
       exact ⟨_, _, rfl⟩
     . rw [aeP] at hq
       have p1 : yK es (j : Int) = [] := by simpa using hq
       refine ak (ak (ak ?_))
       rw [show knA s es j = "leaf" by unfold knA; rw [asM p1], show stA s es j = -1 by unfold stA; rw [asM p1]]
       exact ⟨_, _, rfl⟩
 case fin =>
   rintro δ ⟨o4, o5, rfl⟩
   rw [show (cW 0 (es.length : Int).toNat).length = es.length by simp [cW]]
   exact bu (aaP (bL (vM E.qg.1) (bL (vM E.tG.1) c7)) Q.i) rfl
theorem jI : pM (az GP) ([("script", aF), ("elders", .cell), ("kinds", aF), ("starts", aF), ("k", .cell), ("near", aF), ("range", aE), ("len", aE), ("_law_cell_at", aE)]) = true := Q.f
theorem abI : aY ["script", "elders", "kinds", "starts", "k", "near"] ["script", "elders"] (az GP) := bz
def Wt : Str := "qzvkjwgmxqz"
def Z6 : Str := "7z0kjwgm3xq"
def abC : Str := "abcdefghijklmnopqrstuvwxyz"
def ltC (k : Nat) : Str := ⟨#[abC.cps.toList.getD ((k : Int) % 26).toNat 0]⟩
def BU (k : Int) : Str := toString k
def Oq (c : Int) : Int := 2 + c % 11
def atK (c : Int) : Int := c / 11 % (Oq c - 1)
def Mb (c : Int) (k : Nat) : Int := ((k : Int) / 26 + c / 121) % 10
def tH (c : Int) (k : Nat) : Str := Txt.slice Wt none (some (atK c)) ++ (ltC k ++ BU (Mb c k)) ++ Txt.slice Z6 none (some (Oq c - atK c - 2))
def dB (c : Int) (n : Nat) : List Str := (List.range n).map (tH c)
theorem zA (c : Int) (n : Nat) : (dB c n).length = n := by unfold dB; rw [asG, ats]
theorem BV (x y : Str) : (x ++ y).cps.toList = x.cps.toList ++ y.cps.toList := by
 show (x.cps ++ y.cps).toList = _
 rw [auO]
theorem aeQ : ∀ n : Nat, n < 12 -> (Txt.slice Wt none (some (n : Int))).cps.toList = Wt.cps.toList.take n := Q.f
theorem aeR : ∀ n : Nat, n < 12 -> (Txt.slice Z6 none (some (n : Int))).cps.toList = Z6.cps.toList.take n := Q.f
theorem Wu : ∀ n : Nat, n < 10 -> (BU (n : Int)).cps.toList = [48 + n] := Q.f
theorem PN : ∀ n : Nat, n < 10 -> (BU (n : Int)).length = 1 /\ (n : Int).natAbs.log2 < 1920 := Q.f
theorem aje : ∀ n : Nat, n < 26 -> abC.cps.toList.getD n 0 = 97 + n := Q.f
theorem KP (c : Int) : 2 <= Oq c /\ Oq c <= 12 := by unfold Oq; omega
theorem Wv (c : Int) : 0 <= atK c /\ atK c <= Oq c - 2 := by
 have h := KP c
 have a := as9 (c / 11) (b := Oq c - 1) Q.a
 have b := as1 (c / 11) (b := Oq c - 1) Q.a
 unfold atK
 omega
theorem PR (c : Int) (k : Nat) : 0 <= Mb c k /\ Mb c k < 10 := by unfold Mb; omega
theorem xY (c : Int) (k : Nat) : (tH c k).cps.toList = Wt.cps.toList.take (atK c).toNat ++ [97 + k % 26, 48 + (Mb c k).toNat] ++ Z6.cps.toList.take (Oq c - atK c - 2).toNat := by
 have h1 := KP c
 have h2 := Wv c
 have h3 := PR c k
 have e1 := aeQ (atK c).toNat Q.a
 have e2 := aeR (Oq c - atK c - 2).toNat Q.a
 have e3 := Wu (Mb c k).toNat Q.a
 rw [show (((atK c).toNat : Nat) : Int) = atK c by omega] at e1
 rw [show (((Oq c - atK c - 2).toNat : Nat) : Int) = Oq c - atK c - 2 by omega] at e2
 rw [show (((Mb c k).toNat : Nat) : Int) = Mb c k by omega] at e3
 have e4 : (ltC k).cps.toList = [97 + k % 26] := by
   show [abC.cps.toList.getD ((k : Int) % 26).toNat 0] = _
   rw [show ((k : Int) % 26).toNat = k % 26 by omega, aje _ Q.a]
 unfold tH
 rw [BV, BV, BV, e1, e2, e3, e4]
 rfl
theorem Ww (x : Str) : x.length = x.cps.toList.length := rfl
theorem aeS : Wt.cps.toList.length = 11 := Q.f
theorem aeT : Z6.cps.toList.length = 11 := Q.f
theorem KQ (c : Int) (k : Nat) : ((tH c k).length : Int) = Oq c := by
 have h1 := KP c
 have h2 := Wv c
 rw [Ww, xY, as5, as5, atF, atF, aeS, aeT]
 show (((min _ _ + 2 + min _ _ : Nat)) : Int) = _
 omega
theorem abJ : BH.all (fun w => w.cps.toList.all isLt) = true := Q.f
theorem PV {x : Str} {l r : List Nat} {d : Nat} (h : x.cps.toList = l ++ d :: r) (hd : isLt d = false) : decide (x ∈ BH) = false := by
 refine asY fun hx => ?_
 have := atk.mp abJ x hx
 rw [h, auB, atV, hd] at this
 simp at this
theorem aeU : Wt.cps.toList.all (fun c => isLt c || uh c) = true := Q.f
theorem aeV : Z6.cps.toList.all (fun c => isLt c || uh c) = true := Q.f
theorem Im {p : α -> Bool} {l : List α} (n : Nat) (h : l.all p = true) : (l.take n).all p = true := by
 rw [atk] at h ⊢
 exact fun x hx => h x (aup hx)
theorem abK (c : Int) (k : Nat) : dO (tH c k) = true := by
 have h1 := KP c
 have h2 := Wv c
 have h3 := PR c k
 have hl := KQ c k
 have hc := xY c k
 have l1 : isLt (97 + k % 26) = true := by unfold isLt; rw [asN Q.a, asN Q.a]; rfl
 have l2 : uh (48 + (Mb c k).toNat) = true := by unfold uh; rw [asN Q.a, asN Q.a]; rfl
 have l3 : isLt (48 + (Mb c k).toNat) = false := by unfold isLt; rw [asY Q.a]; rfl
 unfold dO
 rw [asN (show 1 <= (tH c k).length by omega), asN (show (tH c k).length <= 12 by omega)]
 rw [PV (l := Wt.cps.toList.take (atK c).toNat ++ [97 + k % 26]) (d := 48 + (Mb c k).toNat) (r := Z6.cps.toList.take (Oq c - atK c - 2).toNat) (by rw [hc]; simp) l3, hc]
 rw [auB, auB, Im _ aeU, Im _ aeV, atV, atV, l1, l2]
 have hf : isLt ((Wt.cps.toList.take (atK c).toNat ++ [97 + k % 26, 48 + (Mb c k).toNat] ++ Z6.cps.toList.take (Oq c - atK c - 2).toNat).getD 0 0) = true := by
   generalize (atK c).toNat = n
   cases n with
   | zero => exact l1
   | succ n =>
     have e : Wt.cps.toList = 113 :: Wt.cps.toList.tail := Q.f
     rw [e]
     rfl
 rw [hf, l3]
 rfl
theorem Sn (c : Int) (hk : k < 200) (hj : j < 200) (h : tH c k = tH c j) : k = j := by
 have h3 := PR c k
 have h4 := PR c j
 have e : (tH c k).cps.toList = (tH c j).cps.toList := by rw [h]
 rw [xY, xY, asO, asO] at e
 have e := List.append_cancel_left e
 simp only [att, aub, List.cons.injEq] at e
 obtain ⟨e1, e2, _⟩ := e
 unfold Mb at e2 h3 h4
 omega
theorem Yt (c : Int) (h : n <= 200) : (dB c n).Nodup := by
 unfold dB
 refine auZ.mpr (auU (fun {a b} ha hb hab e => ?_) List.pairwise_lt_range)
 have := Sn c (by have := atp.mp ha; omega) (by have := atp.mp hb; omega) e
 omega
theorem Sq {x : Str} (h : x ∈ dB c n) : x.length <= 12 /\ dO x = true := by
 obtain ⟨k, _, rfl⟩ := asW.mp h
 have := KQ c k
 have := KP c
 exact ⟨by omega, abK c k⟩
abbrev GR : Stmt := top 48
abbrev GU : Type := Int × Nat
def xZ : GU -> List L3.D := fun (c, n) => [.int c, .int n]
def tK : GU -> Prop := fun (c, n) => 0 <= c /\ c < 1000000000 /\ n <= 100
def x6 : GU -> T := fun (c, n) => (.lst (((dB c n).map .str).map T.sh) : T)
structure aeW (X : Cx) (CL : Q.g) : Prop extends cN X where
 aH : Ln X 0 "cell"
 bq : Ln X 1 "many"
 Ss : Ln X 2 "size"
 eN : Ln X 3 "at"
 Wx : Ln X 4 "codes"
 dX : Ln X 5 "names"
 vK : Ln X 6 "k"
 abL : Ln X 7 "code"
 di : Gl X "range"
 al3 : Gl X "str"
 dm : X.mg "range" = none
 PX : X.mg "str" = none
theorem aeX {b : Bx} (E : aeW X CL) {cz : GU} (h : tK cz) :
   aN X CL b GR ["cell", "many", "size", "at", "codes", "names", "k", "code"] (xZ cz) (x6 cz) := by
 obtain ⟨c, n⟩ := cz
 dsimp only [aN, tK, xZ, x6] at h ⊢
 obtain ⟨c0, c1, hn⟩ := h
 have h1 := KP c
 have h2 := Wv c
 refine bf E.g E.Ss (aK (bZ Q.b (ai Q.N)) (t2 := .sh (.int (Oq c))) rfl) ?_
 refine bf E.g E.eN (aK (aQ (ai Q.E) (ai (eW (aL E.Ss) Q.b)) Q.a) (t2 := .sh (.int (atK c))) rfl) ?_
 refine bf E.g E.Wx (aK bx (t2 := .sh (.str abC)) rfl) ?_
 refine bf E.g E.dX (cS c7 (ata _)) ?_
 refine pC E.g E.vK (fun j δ => ∃ o6 o7, δ = [some (.sh (.int c)), some (.sh (.int n)), some (.sh (.int (Oq c))), some (.sh (.int (atK c))), some (.sh (.str abC)), some (.lst (((dB c j).map .str).map T.sh)), o6, o7])
   (gb E.dm (aL E.bq) Q.a E.di) ⟨_, _, rfl⟩ Q.ao ?turn ?fin
 case turn =>
   rintro j d δ hj ⟨o6, o7, rfl⟩
   obtain ⟨rfl, GO⟩ := mE hj
   rw [at6]
   have hjn : j < n := by simpa using GO
   have h3 := PR c j
   obtain ⟨sl, sg⟩ := PN (Mb c j).toNat Q.a
   rw [show (((Mb c j).toNat : Nat) : Int) = Mb c j by omega] at sl sg
   have a26 : abC.cps.toList.length = 26 := Q.f
   have nl := zA c j
   have hz : Wt.length <= sizeLine /\ Z6.length <= sizeLine /\ abC.length <= sizeLine := by rw [atP]; decide +kernel
   have q1 := auG Wt none (some (atK c))
   have q2 := auG Z6 none (some (Oq c - atK c - 2))
   have la : Wt.length = 11 := Q.f
   have lb : Z6.length = 11 := Q.f
   have lc : (ltC j ++ BU (Mb c j)).length = 2 := by rw [str_len, sl]; rfl
   refine bf E.g E.abL (aK (tZ (ai (aK (aaQ (aL E.Wx) (ai (aQ (aL E.vK) Q.b Q.c)) hz.2.2 (aaX 0 (show (0 : Int) <= (j : Int) % 26 by omega) (by rw [a26]; omega))) (t2 := .sh (.str (ltC j))) rfl)) (ai (aK (Ls E.PX E.al3 (ai (aQ (ai (bZ (ai (aT (aL E.vK) Q.b ⟨by decide, by decide⟩)) (ai Q.E))) Q.b Q.c)) sg) (t2 := .sh (.str (BU (Mb c j)))) rfl)) (by rw [sl, atP]; show 1 + 1 <= _; decide)) (t2 := .sh (.str (ltC j ++ BU (Mb c j)))) rfl) ?_
   refine yU E.dX.1 rfl (aK (tZ (ai (tZ (ai (DW (ai (aK bx (t2 := .sh (.str Wt)) rfl)) hz.1 oV (oW (aL E.eN)))) (aL E.abL) (by rw [lc, atP]; omega))) (ai (DW (ai (aK bx (t2 := .sh (.str Z6)) rfl)) hz.2.1 oV (oW (ai (eW (ai (eW (aL E.Ss) (aL E.eN))) Q.b))))) (by rw [str_len, lc, atP]; omega)) (t2 := .sh (.str (tH c j))) rfl) rfl (by rw [asG, asG]; omega) (ak ?_)
   have e : ((dB c j).map L3.D.str).map T.sh ++ [T.sh (.str (tH c j))] = ((dB c (j + 1)).map L3.D.str).map T.sh := by unfold dB; simp [aum]
   rw [e]
   exact ⟨_, _, rfl⟩
 case fin =>
   rintro δ ⟨o6, o7, rfl⟩
   rw [show (cW 0 (n : Int).toNat).length = n by simp [cW]]
   exact bu (vM E.dX.1) rfl
theorem kO : pM (az GR) ([("cell", aF), ("many", aF), ("size", aF), ("at", aF), ("codes", aF), ("names", aF), ("k", aF), ("code", aF), ("range", aE), ("str", aE)]) = true := Q.f
theorem abM : aY ["cell", "many", "size", "at", "codes", "names", "k", "code"] ["cell", "many"] (az GR) := bz
def abN (c : Int) : List Int := [0, c / 4 % (2 * 10 ^ (30 : Int).toNat - 1) - (10 ^ (30 : Int).toNat - 1), 10 ^ (30 : Int).toNat - 1, 1 - 10 ^ (30 : Int).toNat]
def uy (c : Int) : Int := (abN c).getD (c % 4).toNat 0
abbrev Wy : Stmt := top 49
abbrev abO : Type := Int
def BW : abO -> List L3.D := fun c => [.int c]
def BX : abO -> Prop := fun c => True
def BZ : abO -> T := fun c => (.sh (.int (uy c)) : T)
structure al4 (X : Cx) (CL : Q.g) : Prop extends cN X where
 aH : Ln X 0 "cell"
 Io : Ln X 1 "some"
theorem al5 {b : Bx} (E : al4 X CL) {c} (h : BX c) :
   aN X CL b Wy ["cell", "some"] (BW c) (BZ c) := by
 dsimp only [aN, BX, BW, BZ] at h ⊢
 refine bf E.g E.Io (aK (cS (bL aj (bL (eW (ai (aQ (ai Q.E) (ai (eW (ai (RJ Q.b (ai Q.M) (.inl ⟨by decide, by decide⟩))) Q.b)) Q.c)) (ai (eW (ai Q.M) Q.b))) (bL (eW (ai Q.M) Q.b) (bL (eW Q.b (ai Q.M)) c7)))) Q.i) (t2 := .lst (((abN c).map .int).map T.sh)) rfl) ?_
 exact bu (b9 (bD (vL E.Io.1) (ai Q.N) (fS (bs := abN c) (k := c % 4) (show (0 : Int) <= c % 4 by omega) (by have e4 : (abN c).length = 4 := rfl; rw [e4]; omega))) rfl) rfl
theorem abP : pM (az Wy) ([("cell", aF), ("some", aF)]) = true := Q.f
theorem ajf : aY ["cell", "some"] ["cell"] (az Wy) := bz
abbrev Mf : Stmt := top 50
abbrev Mg : Type := Int × Nat
def wF : Mg -> List L3.D := fun (c, n) => [.int c, .int n]
def wG : Mg -> Prop := fun (c, n) => n <= 1000
def wH : Mg -> T := fun (c, n) => (.sh (.tup [.int (c % ((n : Int) + 1) - 1), .int (uy (c / ((n : Int) + 1)))]) : T)
structure ajg (X : Cx) (CL : Q.g) : Prop extends cN X where
 aH : Ln X 0 "cell"
 bq : Ln X 1 "many"
 Sv : Gl X "_law_far"
 abQ : Fc X CL "_law_far" 1 1 BW BX BZ
theorem ajh {b : Bx} (E : ajg X CL) {cz : Mg} (h : wG cz) :
   aN X CL b Mf ["cell", "many"] (wF cz) (wH cz) := by
 obtain ⟨c, n⟩ := cz
 dsimp only [aN, wG, wF, wH] at h ⊢
 have h : n <= 1000 := h
 exact bu (bE (ay (eW (ai (aQ (aL E.aH) (ai (bZ (aL E.bq) Q.b)) Q.a)) Q.b) (ay (aK (c_ (c / ((n : Int) + 1)) E.abQ E.Sv (ao (ai (aT (aL E.aH) (ai (bZ (aL E.bq) Q.b)) (⟨by omega, by omega⟩))) aG) trivial rfl) (t2 := .sh (.int (uy (c / ((n : Int) + 1))))) rfl) bH)) Q.i) rfl
theorem Mh : pM (az Mf) ([("cell", aF), ("many", aF), ("_law_far", aE)]) = true := Q.f
theorem aeY : aY ["cell", "many"] ["cell", "many"] (az Mf) := bz
def Ip (c : Int) (n : Nat) (x : Str) : D7 := if c % 3 = 0 /\ 0 < n then .put (c / 3 % (n : Int)) (c / 3 / (n : Int) % ((n : Int) + 1) - 1) (uy (c / 3 / (n : Int) / ((n : Int) + 1))) else if c % 3 = 1 then .say x (c / 3 % ((n : Int) + 1) - 1) (uy (c / 3 / ((n : Int) + 1))) else .call x
abbrev Mi : Stmt := top 51
abbrev Mj : Type := Int × Nat × Str
def wI : Mj -> List L3.D := fun (c, n, x) => [.int c, .int n, .str x]
def wJ : Mj -> Prop := fun (c, n, x) => n <= 1000
def wK : Mj -> T := fun (c, n, x) => (.sh (L0 (Ip c n x)) : T)
structure aji (X : Cx) (CL : Q.g) : Prop extends cN X where
 aH : Ln X 0 "cell"
 bq : Ln X 1 "many"
 je : Ln X 2 "name"
 bM : Ln X 3 "way"
 pH : Gl X "_law_term"
 Iq : Fc X CL "_law_term" 2 2 wF wG wH
theorem ajj {b : Bx} (E : aji X CL) {cz : Mj} (h : wJ cz) :
   aN X CL b Mi ["cell", "many", "name", "way"] (wI cz) (wK cz) := by
 obtain ⟨c, n, x⟩ := cz
 dsimp only [aN, wJ, wI, wK] at h ⊢
 have h : n <= 1000 := h
 show dY X CL b _ _ { nx := _, rt := fun LK _ => LK = T.sh (L0 (Ip c n x)), bk := _, ct := _ }
 refine bf E.g E.bM Q.N ?_
 refine bf E.g E.aH Q.E ?_
 refine b5 (t6 (sL (bG (aL E.bM) Q.b).1 (fun hb => (Br (OV (aL E.bq) Q.b).1)))) (fun hp => ?_) (fun hp => ak ?_)
 . rw [asZ] at hp
   have p1 := asI hp.1
   have p2 := asI hp.2
   refine bu (bE (ay bx (ay (aQ (aL E.aH) (aL E.bq) Q.a) (ay (aK (c_ (c / 3 / (n : Int), n) E.Iq E.pH (ao (ai (aT (aL E.aH) (aL E.bq) (⟨by omega, by omega⟩))) (ao (aL E.bq) aG)) h rfl) rfl) bH))) Q.i) ?_
   unfold Ip
   rw [asM ⟨p1, by omega⟩]
   rfl
 . have hp2 : ¬ (c % 3 = 0 /\ 0 < n) := fun ⟨z1, z2⟩ => by
     rw [asN z1, asN (show (0 : Int) < (n : Int) by omega)] at hp
     exact absurd hp Q.c
   unfold Ip
   rw [asH hp2]
   refine b5 (bG (aL E.bM) Q.b).1 (fun hq => ?_) (fun hq => ak ?_)
   . rw [asM (asI hq)]
     exact bu (bE (ay bx (ay (v_ E.je.1) (ay (aK (c_ (c / 3, n) E.Iq E.pH (ao (aL E.aH) (ao (aL E.bq) aG)) h rfl) rfl) bH))) Q.i) rfl
   . rw [asH (asP hq)]
     exact bu (bE (ay bx (ay (v_ E.je.1) bH)) Q.i) rfl
theorem B3 : pM (az Mi) ([("cell", aF), ("many", aF), ("name", aF), ("way", aF), ("_law_term", aE)]) = true := Q.f
theorem aeZ : aY ["cell", "many", "name", "way"] ["cell", "many", "name"] (az Mi) := bz
def rcK (s : Q.e) (y : Nat) (k : Nat) : Int := cB s (7 + (k : Int)) % 10 ^ (60 : Int).toNat / (y : Int)
def rdK (c : Int) (n : Nat) (x : Str) (j : Nat) : D7 := Ip (c / (6 + (j : Int))) n x
def rwK (s : Q.e) (n : Nat) (nm : Q.h) (y k : Nat) : List D7 := (List.range (rcK s y k % 3).toNat).map (rdK (rcK s y k) n (nm.getD k Str.empty))
def iT (s : Q.e) (n : Nat) (nm : Q.h) (y m : Nat) : List (List D7) := (List.range m).map (rwK s n nm y)
def Rl (l : List D7) : L3.D := .tup (l.map L0)
abbrev Ml : Stmt := top 55
abbrev Mm : Type := List Int × Nat × List Str × Nat
def B4 : Mm -> List L3.D := fun (s, n, nm, y) => [.lst (s.map .int), .int n, .lst (nm.map .str), .int y]
def tL : Mm -> Prop := fun (s, n, nm, y) => n <= 1000 /\ nm.length <= 500 /\ 1 <= y /\ y <= 10
def B5 : Mm -> T := fun (s, n, nm, y) => (.lst (((iT s n nm y nm.length).map Rl).map T.sh) : T)
structure ajk (X : Cx) (CL : Q.g) : Prop extends cN X where
 bT : Ln X 0 "script"
 bq : Ln X 1 "many"
 ajl : X.env.kindOf "many" = some .cell
 dX : Ln X 2 "names"
 Mp : X.env.kindOf "names" = some .cell
 ao6 : Ln X 3 "by"
 Ir : Ln X 4 "rows"
 vK : Ln X 5 "k"
 k_k : X.env.kindOf "k" = some .cell
 aH : Ln X 6 "cell"
 ajm : X.env.kindOf "cell" = some .cell
 di : Gl X "range"
 cQ : Gl X "len"
 bP : Gl X "_law_cell_at"
 rP : Gl X "tuple"
 dm : X.mg "range" = none
 cP : X.mg "len" = none
 c6 : Fc X CL "_law_cell_at" 1 2 gi gj gk
 rQ : X.mg "tuple" = none
 Sw : Fc X CL "_law_deed" 3 3 wI wJ wK
theorem ajn {b : Bx} (E : ajk X CL) {cz : Mm} (h : tL cz) :
   aN X CL b Ml ["script", "many", "names", "by", "rows", "k", "cell"] (B4 cz) (B5 cz) := by
 obtain ⟨s, n, nm, y⟩ := cz
 dsimp only [aN, tL, B4, B5] at h ⊢
 obtain ⟨h1, h2, h3, h4⟩ := h
 refine bf E.g E.Ir (cS c7 (ata _)) ?_
 refine pC E.g E.vK (fun j δ => ∃ o5 o6, δ = [some (.sh (.lst (s.map .int))), some (.sh (.int n)), some (.sh (.lst (nm.map .str))), some (.sh (.int y)), some (.lst (((iT s n nm y j).map Rl).map T.sh)), o5, o6])
   (gb E.dm (ai (cT (asG ..) E.cP (aL E.dX) E.cQ)) Q.a E.di) ⟨_, _, rfl⟩ Q.ao ?turn ?fin
 case turn =>
   rintro j d δ hj ⟨o5, o6, rfl⟩
   obtain ⟨rfl, GO⟩ := mE hj
   rw [at6]
   have hjn : j < nm.length := by simpa using GO
   refine bf E.g E.aH (aK (aT (ai (aQ (ai (c_ ((s, 7 + (j : Int))) E.c6 E.bP (ao (aL E.bT) (ao (ai (bZ Q.b (aL E.vK))) aG)) (show (0 : Int) <= 7 + (j : Int) by omega) rfl)) (ai Q.M) Q.c)) (aL E.ao6) (⟨by omega, by omega⟩)) (t2 := .sh (.int (rcK s y j))) rfl) ?_
   have er : iT s n nm y (j + 1) = iT s n nm y j ++ [rwK s n nm y j] := by simp [iT, aum]
   have lr : (iT s n nm y j).length = j := by unfold iT; rw [asG, ats]
   show dY X CL b _ _ { nx := fun δ => ∃ o5 o6, δ = [_, _, _, _, some (.lst (((iT s n nm y (j + 1)).map Rl).map T.sh)), o5, o6], rt := _, bk := _, ct := _ }
   rw [er]
   generalize iT s n nm y j = rw at lr ⊢
   unfold rwK
   generalize rcK s y j = c
   have c0 := as9 c (b := 3) Q.c
   have c1 := as1 c (b := 3) Q.c
   have Yu : Bc (nm.map L3.D.str) (j : Int) = some (.str (nm.getD j Str.empty)) := (gY Str.empty Q.a Q.a).trans (by rw [ato])
   have ddi : ∀ l : List D7, D.cV (l.map L0) = true := fun l => bS (fun q => by cases q <;> rfl) l
   refine yU E.Ir.1 rfl (tu E.rQ (bK (ds := ((List.range (c % 3).toNat).map (rdK c n (nm.getD j Str.empty))).map L0) (aK (rK (p := fun _ => true) (g := fun d => T.sh (L0 (rdK c n (nm.getD j Str.empty) d.Hv.toNat))) (eX (.cons E.aH.1 (.inl E.ajm) (.cons E.vK.1 (.inl E.k_k) (.cons E.bq.1 (.inl E.ajl) (.cons E.dX.1 (.inl E.Mp) .nil)))) Q.d) E.g.calm (gb E.dm (ai Q.N) ((show -(2 ^ 62) <= c % 3 /\ c % 3 < 2 ^ 62 by omega)) E.di) (.inr rfl) (fun C s0 H0 f0 b' d hd => ?Yr) (atJ (cR (by simp [cW]; omega)))) ?ceq)) (ddi _) E.rP) rfl (by rw [asG, asG]; omega) (ak ?_)
   case Yr =>
     obtain ⟨i, hi, rfl⟩ := asW.mp hd
     have hi2 : i < (c % 3).toNat := atp.mp hi
     have hi3 : i < 3 := by omega
     refine ⟨rfl, fun _ => aK (c_ (c / (6 + (0 + (i : Int))), n, nm.getD j Str.empty) (Bt E.Sw) (qb Q.d) (ao (ai (aT (ai (v_ (pQ (i := 1) rfl Q.d))) (ai (bZ Q.b Q.ae)) (⟨by omega, by omega⟩))) (ao (ai (v_ (pQ (i := 3) rfl Q.d))) (ao (bD (ai (v_ (pQ (i := 4) rfl Q.d))) (ai (v_ (pQ (i := 2) rfl Q.d))) (Yu)) aG))) h1 (by show D.qa _ = true; generalize Ip _ _ _ = q; cases q <;> rfl)) ?_⟩
     show T.sh _ = T.sh (L0 (rdK c n (nm.getD j Str.empty) (0 + (i : Int)).toNat))
     unfold rdK
     rw [show (((0 + (i : Int)).toNat : Nat) : Int) = 0 + (i : Int) by omega]
   case ceq =>
     rw [lZ]
     unfold cW
     rw [ath, ath, ath]
     congr 1
     refine atU fun k _ => ?_
     show T.sh (L0 (rdK c n _ (0 + (k : Int)).toNat)) = _
     rw [show (0 + (k : Int)).toNat = k by omega]
     rfl
   have e : (rw.map Rl).map T.sh ++ [T.sh (.tup (((List.range (c % 3).toNat).map (rdK c n (nm.getD j Str.empty))).map L0))] = ((rw ++ [(List.range (c % 3).toNat).map (rdK c n (nm.getD j Str.empty))]).map Rl).map T.sh := by
     rw [aul, aul]
     rfl
   rw [e]
   exact ⟨_, _, rfl⟩
 case fin =>
   rintro δ ⟨o5, o6, rfl⟩
   rw [show (cW 0 (nm.length : Int).toNat).length = nm.length by simp [cW]]
   exact bu (vM E.Ir.1) rfl
theorem iB : pM (az Ml) ([("script", aF), ("many", .cell), ("names", .cell), ("by", aF), ("rows", aF), ("k", .cell), ("cell", .cell), ("range", aE), ("len", aE), ("_law_cell_at", aE), ("tuple", aE)]) = true := Q.f
theorem ae0 : aY ["script", "many", "names", "by", "rows", "k", "cell"] ["script", "many", "names", "by"] (az Ml) := bz
def PY (c : Int) (n m : Nat) : ZU :=
 if c % 6 < 2 then .R6 ((["open", "shut"] : List Str).getD (c % 6).toNat Str.empty) (c / 6 % (m : Int))
 else .num ((["<", "<=", "=", "!="] : List Str).getD (c % 6 - 2).toNat Str.empty) (c / 6 % 10 ^ (33 : Int).toNat % ((n : Int) + 1) - 1) (uy (c / 6 % 10 ^ (33 : Int).toNat / ((n : Int) + 1))) (c / 6 / 10 ^ (33 : Int).toNat % ((n : Int) + 1) - 1) (uy (c / 6 / 10 ^ (33 : Int).toNat / ((n : Int) + 1)))
abbrev Wz : Stmt := top 52
abbrev WB : Type := Int × Nat × Nat
def GV : WB -> List L3.D := fun (c, n, m) => [.int c, .int n, .int m]
def B6 : WB -> Prop := fun (c, n, m) => n <= 1000 /\ 1 <= m /\ m <= 1000
def GX : WB -> T := fun (c, n, m) => (.sh (yL (PY c n m)) : T)
structure al6 (X : Cx) (CL : Q.g) : Prop extends cN X where
 aH : Ln X 0 "cell"
 bq : Ln X 1 "many"
 eS : Ln X 2 "moods"
 bM : Ln X 3 "way"
 ag1 : Ln X 4 "one"
 pH : Gl X "_law_term"
 Iq : Fc X CL "_law_term" 2 2 wF wG wH
theorem al7 {b : Bx} (E : al6 X CL) {cz : WB} (h : B6 cz) :
   aN X CL b Wz ["cell", "many", "moods", "way", "one"] (GV cz) (GX cz) := by
 obtain ⟨c, n, m⟩ := cz
 dsimp only [aN, B6, GV, GX] at h ⊢
 obtain ⟨h1, h2, h3⟩ := h
 show dY X CL b _ _ { nx := _, rt := fun LK _ => LK = T.sh (yL (PY c n m)), bk := _, ct := _ }
 refine bf E.g E.bM Q.N ?_
 refine bf E.g E.aH Q.E ?_
 unfold PY
 refine b5 (Kp (aL E.bM) Q.b).1 (fun hp => ?_) (fun hp => ak ?_)
 . have hp := asI hp
   rw [asM hp]
   exact bu (bE (ay (b9 (bD (bK (ds := (["open", "shut"] : List Str).map .str) (cS (iA rfl) Q.i)) (aL E.bM) (gY (f := L3.D.str) (l := ["open", "shut"]) Str.empty (show (0 : Int) <= c % 6 by omega) hp)) rfl) (ay (aQ (aL E.aH) (aL E.eS) Q.a) bH)) Q.i) rfl
 . have hp := asP hp
   rw [asH hp]
   refine bf E.g E.ag1 (aK (c_ (c / 6 % 10 ^ (33 : Int).toNat, n) E.Iq E.pH (ao (ai (aQ (aL E.aH) (ai Q.M) Q.c)) (ao (aL E.bq) aG)) h1 rfl) rfl) ?_
   exact bu (bE (ay (b9 (bD (bK (ds := (["<", "<=", "=", "!="] : List Str).map .str) (cS (iA rfl) Q.i)) (ai (eW (aL E.bM) Q.b)) (gY (f := L3.D.str) (l := ["<", "<=", "=", "!="]) Str.empty (show (0 : Int) <= c % 6 - 2 by omega) (show c % 6 - 2 < ((4 : Nat) : Int) by omega))) rfl) (ay (v_ E.ag1.1) (ay (aK (c_ (c / 6 / 10 ^ (33 : Int).toNat, n) E.Iq E.pH (ao (ai (abf (aL E.aH) (ai Q.M) Q.d)) (ao (aL E.bq) aG)) h1 rfl) rfl) bH))) Q.i) rfl
theorem Ed : pM (az Wz) ([("cell", aF), ("many", aF), ("moods", aF), ("way", aF), ("one", aF), ("_law_term", aE)]) = true := Q.f
theorem ajp : aY ["cell", "many", "moods", "way", "one"] ["cell", "many", "moods"] (az Wz) := bz
def PZ (s : Q.e) (i : Int) : Int := cB s i % 10 ^ (60 : Int).toNat
def P0 (s : Q.e) (i : Int) (n m k : Nat) : ZU := PY (cB s (i + 1 + (k : Int)) % 10 ^ (64 : Int).toNat) n m
def Sx (s : Q.e) (i : Int) (n : Nat) (x : Str) (k : Nat) : D7 := Ip (cB s (i + 2 + (k : Int)) % 10 ^ (60 : Int).toNat) n x
def Mq (c : Int) (m : Nat) : Int := c / 9 % ((m : Int) + 1) - 1
def J7 (c : Int) (m : Nat) : Str := if Mq c m = -1 then "new" else (["new", "near", "far"] : List Str).getD (c / 9 / ((m : Int) + 1) % 3).toNat Str.empty
def Sy (s : Q.e) (i src : Int) (n m : Nat) (x : Str) : Px := ⟨src, x, (List.range (PZ s i % 3).toNat).map (P0 s i n m), (List.range (PZ s i / 3 % 3).toNat).map (Sx s i n x), Mq (PZ s i) m, J7 (PZ s i) m⟩
abbrev WC : Stmt := top 53
abbrev WD : Type := List Int × Int × Int × Nat × Nat × Str
def GY : WD -> List L3.D := fun (s, i, src, n, m, x) => [.lst (s.map .int), .int i, .int src, .int n, .int m, .str x]
def B7 : WD -> Prop := fun (s, i, src, n, m, x) => 0 <= i /\ n <= 1000 /\ 1 <= m /\ m <= 1000
def GZ : WD -> T := fun (s, i, src, n, m, x) => (.sh (Yj (Sy s i src n m x)) : T)
structure al8 (X : Cx) (CL : Q.g) : Prop extends cN X where
 bT : Ln X 0 "script"
 eN : Ln X 1 "at"
 wL : Ln X 2 "source"
 bq : Ln X 3 "many"
 eS : Ln X 4 "moods"
 je : Ln X 5 "name"
 aH : Ln X 6 "cell"
 Sz : Ln X 7 "asks"
 vK : Ln X 8 "k"
 x8 : Ln X 9 "deeds"
 qS : Ln X 10 "target"
 zB : Ln X 11 "mode"
 bP : Gl X "_law_cell_at"
 di : Gl X "range"
 SD : Gl X "_law_ask"
 P1 : Gl X "_law_deed"
 rP : Gl X "tuple"
 c6 : Fc X CL "_law_cell_at" 1 2 gi gj gk
 dm : X.mg "range" = none
 al9 : Fc X CL "_law_ask" 3 3 GV B6 GX
 Sw : Fc X CL "_law_deed" 3 3 wI wJ wK
 rQ : X.mg "tuple" = none
theorem ama {b : Bx} (E : al8 X CL) {cz : WD} (h : B7 cz) :
   aN X CL b WC ["script", "at", "source", "many", "moods", "name", "cell", "asks", "k", "deeds", "target", "mode"] (GY cz) (GZ cz) := by
 obtain ⟨s, i, src, n, m, x⟩ := cz
 dsimp only [aN, B7, GY, GZ] at h ⊢
 obtain ⟨h0, h1, h2, h3⟩ := h
 show dY X CL b _ _ { nx := _, rt := fun LK _ => LK = T.sh (Yj (Sy s i src n m x)), bk := _, ct := _ }
 refine bf E.g E.aH (aK (aQ (ai (c_ ((s, i)) E.c6 E.bP (ao (aL E.bT) (ao (aL E.eN) aG)) (h0) rfl)) (ai Q.M) Q.c) (t2 := .sh (.int (PZ s i))) rfl) ?_
 unfold Sy
 generalize PZ s i = c
 refine bf E.g E.Sz (cS c7 (ata _)) ?_
 have c0 : 0 <= c % 3 /\ c % 3 < 3 := by omega
 have d0 : 0 <= c / 3 % 3 /\ c / 3 % 3 < 3 := by omega
 refine pC E.g E.vK (fun j δ => ∃ o8 o9 o10 o11, δ = [some (.sh (.lst (s.map .int))), some (.sh (.int i)), some (.sh (.int src)), some (.sh (.int n)), some (.sh (.int m)), some (.sh (.str x)), some (.sh (.int c)), some (.lst ((((List.range j).map (P0 s i n m)).map yL).map T.sh)), o8, o9, o10, o11])
   (gb E.dm (ai Q.N) ((show -(2 ^ 62) <= c % 3 /\ c % 3 < 2 ^ 62 by omega)) E.di) ⟨_, _, _, _, rfl⟩ (fun j δ ⟨_, _, _, _, e⟩ => by subst e; exact asR rfl) ?turn ?fin
 case turn =>
   rintro j d δ hj ⟨o8, o9, o10, o11, rfl⟩
   obtain ⟨rfl, GO⟩ := mE hj
   have hj3 : j < 3 := by have GO : j < (c % 3).toNat := GO; omega
   rw [at6]
   refine yU E.Sz.1 rfl (aK (c_ (cB s (i + 1 + (j : Int)) % 10 ^ (64 : Int).toNat, n, m) E.al9 E.SD (ao (ai (aQ (ai (c_ ((s, i + 1 + (j : Int))) E.c6 E.bP (ao (aL E.bT) (ao (ai (bZ (ai (bZ (aL E.eN) Q.b)) (aL E.vK))) aG)) ((show (0 : Int) <= i + 1 + (j : Int) by omega)) rfl)) (ai Q.M) Q.c)) (ao (aL E.bq) (ao (aL E.eS) aG))) (by dsimp only [B6]; exact ⟨h1, h2, h3⟩) (by show D.qa _ = true; generalize PY _ _ _ = q; cases q <;> rfl)) (t2 := .sh (yL (P0 s i n m j))) rfl) rfl (by simp; omega) (ak ?_)
   have e : (((List.range j).map (P0 s i n m)).map yL).map T.sh ++ [T.sh (yL (P0 s i n m j))] = (((List.range (j + 1)).map (P0 s i n m)).map yL).map T.sh := by simp [aum]
   rw [e]
   exact ⟨_, _, _, _, rfl⟩
 case fin =>
 rintro δ ⟨o8, o9, o10, o11, rfl⟩
 rw [show (cW 0 (c % 3).toNat).length = (c % 3).toNat by simp [cW]]
 refine bf E.g E.x8 (cS c7 (ata _)) ?_
 refine pC E.g E.vK (fun j δ => ∃ o8 o10 o11, δ = [some (.sh (.lst (s.map .int))), some (.sh (.int i)), some (.sh (.int src)), some (.sh (.int n)), some (.sh (.int m)), some (.sh (.str x)), some (.sh (.int c)), some (.lst ((((List.range (c % 3).toNat).map (P0 s i n m)).map yL).map T.sh)), o8, some (.lst ((((List.range j).map (Sx s i n x)).map L0).map T.sh)), o10, o11])
   (gb E.dm Q.R ((show -(2 ^ 62) <= c / 3 % 3 /\ c / 3 % 3 < 2 ^ 62 by omega)) E.di) ⟨_, _, _, rfl⟩ Q.aK ?P4 ?fin2
 case P4 =>
   rintro j d δ hj ⟨o8, o10, o11, rfl⟩
   obtain ⟨rfl, GO⟩ := mE hj
   have hj3 : j < 3 := by have GO : j < (c / 3 % 3).toNat := GO; omega
   rw [at6]
   refine yU E.x8.1 rfl (aK (c_ (cB s (i + 2 + (j : Int)) % 10 ^ (60 : Int).toNat, n, x) E.Sw E.P1 (ao (ai (aQ (ai (c_ ((s, i + 2 + (j : Int))) E.c6 E.bP (ao (aL E.bT) (ao (ai (bZ (ai (bZ (aL E.eN) Q.b)) (aL E.vK))) aG)) ((show (0 : Int) <= i + 2 + (j : Int) by omega)) rfl)) (ai Q.M) Q.c)) (ao (aL E.bq) (ao (aL E.je) aG))) h1 (by show D.qa _ = true; generalize Ip _ _ _ = q; cases q <;> rfl)) (t2 := .sh (L0 (Sx s i n x j))) rfl) rfl (by simp; omega) (ak ?_)
   have e : (((List.range j).map (Sx s i n x)).map L0).map T.sh ++ [T.sh (L0 (Sx s i n x j))] = (((List.range (j + 1)).map (Sx s i n x)).map L0).map T.sh := by simp [aum]
   rw [e]
   exact ⟨_, _, _, rfl⟩
 case fin2 =>
 rintro δ ⟨o8, o10, o11, rfl⟩
 rw [show (cW 0 (c / 3 % 3).toNat).length = (c / 3 % 3).toNat by simp [cW]]
 refine bf E.g E.qS (aK (eW (ai (aQ (ai Q.E) (ai (bZ (aL E.eS) Q.b)) Q.a)) Q.b) (t2 := .sh (.int (Mq c m))) rfl) ?_
 have m0 := as9 (c / 9 / ((m : Int) + 1)) (b := 3) Q.c
 have m1 := as1 (c / 9 / ((m : Int) + 1)) (b := 3) Q.c
 refine bf E.g E.zB (b9 (bD (bK (ds := (["new", "near", "far"] : List Str).map .str) (cS (iA rfl) Q.i)) (ai (aQ (ai (aT (ai Q.E) (ai (bZ (aL E.eS) Q.b)) (⟨by omega, by omega⟩))) Q.b Q.c)) (gY (f := L3.D.str) (l := ["new", "near", "far"]) Str.empty m0 m1)) rfl) ?_
 refine Kr (fun δ => δ = [some (.sh (.lst (s.map .int))), some (.sh (.int i)), some (.sh (.int src)), some (.sh (.int n)), some (.sh (.int m)), some (.sh (.str x)), some (.sh (.int c)), some (.lst ((((List.range (c % 3).toNat).map (P0 s i n m)).map yL).map T.sh)), o8, some (.lst ((((List.range (c / 3 % 3).toNat).map (Sx s i n x)).map L0).map T.sh)), some (.sh (.int (Mq c m))), some (.sh (.str (J7 c m)))]) (bG (aL E.qS) (ai Q.u)).1 (fun hp => ?_) (fun hp => ?_) ?_
 . refine bf E.g E.zB bx (ak ?_)
   rw [show J7 c m = "new" by unfold J7; rw [asM (asI hp)]]
   rfl
 . refine ak ?_
   rw [show J7 c m = (["new", "near", "far"] : List Str).getD (c / 9 / ((m : Int) + 1) % 3).toNat Str.empty by unfold J7; rw [asH (asP hp)]]
   rfl
 rintro δ rfl
 exact bu (bE (ay (v_ E.wL.1) (ay (v_ E.je.1) (ay (tu E.rQ (vL E.Sz.1) (bS (fun q => by cases q <;> rfl) _) E.rP) (ay (tu E.rQ (vL E.x8.1) (bS (fun q => by cases q <;> rfl) _) E.rP) (ay (v_ E.qS.1) (ay (v_ E.zB.1) bH)))))) Q.i) rfl
theorem jJ : pM (az WC) ([("script", aF), ("at", aF), ("source", aF), ("many", aF), ("moods", aF), ("name", aF), ("cell", aF), ("asks", aF), ("k", aF), ("deeds", aF), ("target", aF), ("mode", aF), ("_law_cell_at", aE), ("range", aE), ("_law_ask", aE), ("_law_deed", aE), ("tuple", aE)]) = true := Q.f
theorem ajs : aY ["script", "at", "source", "many", "moods", "name", "cell", "asks", "k", "deeds", "target", "mode"] ["script", "at", "source", "many", "moods", "name"] (az WC) := bz
def DI (s : Q.e) : Int := cB s 0 % 10 ^ (9 : Int).toNat
def mdI (c : Int) : Int := if c / 12 % 4 = 1 then 1 + c / 48 % 45 else 1 + c % 12
def kE (c : Int) : Nat := (mdI c).toNat
theorem abS (c : Int) : (kE c : Int) = mdI c /\ 1 <= kE c /\ kE c <= 45 := by
 unfold kE
 have : 1 <= mdI c /\ mdI c <= 45 := by unfold mdI; split <;> omega
 omega
def G0 (c : Int) : Nat := (c / 3 % 5).toNat
theorem WG (c : Int) : (G0 c : Int) = c / 3 % 5 /\ G0 c <= 4 := by unfold G0; omega
def SG : Str := "qzvkjw"
def ahK (c : Int) : Str := Txt.slice SG none (some (c / 7 % 7))
def bxK (s : Q.e) (c : Int) (k : Nat) : Str × Int := ((ahK c ++ ("b" : Str)) ++ BU (k : Int), uy (cB s (2 + (k : Int))))
def J8 (s : Q.e) (c : Int) : List (Str × Int) := (List.range (G0 c)).map (bxK s c)
def srK (s : Q.e) (m : Nat) (k : Nat) : Int := cB s (20 + 4 * (k : Int)) / 7 % (m : Int)
def sO (s : Q.e) (c : Int) (m : Nat) : List Int := sortI ((List.range (c / 15 % 7).toNat).map (srK s m))
def wyK (s : Q.e) (ns : Q.h) (sr : Q.e) (n m k : Nat) : Px := Sy s (21 + 4 * (k : Int)) (sr.getD k 0) n m (ns.getD (sr.getD k 0).toNat Str.empty)
def zC (s : Q.e) (ns : Q.h) (sr : Q.e) (n m j : Nat) : List Px := (List.range j).map (wyK s ns sr n m)
theorem abU (c : Int) : Rj (uy c) = true := by
 have p : (10 : Int) ^ (30 : Int).toNat = 1000000000000000000000000000000 := Q.f
 have h : -(10 ^ (30 : Int).toNat) < uy c /\ uy c < 10 ^ (30 : Int).toNat := by
   unfold uy abN
   rw [p]
   have : c % 4 = 0 \/ c % 4 = 1 \/ c % 4 = 2 \/ c % 4 = 3 := by omega
   rcases this with e | e | e | e <;> rw [e]
   . show _ < (0 : Int) /\ (0 : Int) < _; omega
   . show _ < (c / 4 % _ - _ : Int) /\ (c / 4 % _ - _ : Int) < _; omega
   . show _ < (_ - 1 : Int) /\ (_ - 1 : Int) < _; omega
   . show _ < (1 - _ : Int) /\ (1 - _ : Int) < _; omega
 unfold Rj
 rw [asN h.1, asN h.2]
 rfl
theorem WH (c : Int) (h : 0 < n) : rN (c % (n : Int)) n = true := by
 unfold rN
 rw [asN (as9 _ Q.a), asN (as1 _ Q.a)]
 rfl
theorem G3 (c d : Int) (n : Nat) : D6 n (c % ((n : Int) + 1) - 1) (uy d) = true := by
 have a := as9 c (b := (n : Int) + 1) Q.a
 have b := as1 c (b := (n : Int) + 1) Q.a
 unfold D6
 rw [abU]
 by_cases e : c % ((n : Int) + 1) - 1 = -1
 . rw [asN e]; rfl
 . unfold rN
   rw [asN (show 0 <= c % ((n : Int) + 1) - 1 by omega), asN (show c % ((n : Int) + 1) - 1 < (n : Int) by omega)]
   simp
theorem WK (c : Int) (n : Nat) {x : Str} (h : x.length <= 12 /\ dO x = true) : ddL (Ip c n x) /\ ddI n (Ip c n x) = true := by
 unfold Ip
 split
 . rename_i e
   refine ⟨trivial, ?_⟩
   show (rN _ n && D6 n _ _) = true
   rw [WH _ e.2, G3]
   rfl
 . split
   . refine ⟨show x.length <= 1000 by omega, ?_⟩
     show (dO x && D6 n _ _) = true
     rw [h.2, G3]
     rfl
   . exact ⟨show x.length <= 1000 by omega, h.2⟩
theorem ae1 (c : Int) (n : Nat) {m : Nat} (h : 1 <= m) : R7 (PY c n m) /\ ZV m n (PY c n m) = true := by
 unfold PY
 split
 . rename_i e
   refine ⟨?_, WH _ Q.a⟩
   have : c % 6 = 0 \/ c % 6 = 1 := by omega
   show (["open", "shut"] : List Str).getD (c % 6).toNat Str.empty ∈ (["open", "shut"] : List Str)
   rcases this with e | e <;> rw [e] <;> decide +kernel
 . rename_i e
   have : c % 6 = 2 \/ c % 6 = 3 \/ c % 6 = 4 \/ c % 6 = 5 := by omega
   have hm : (["<", "<=", "=", "!="] : List Str).getD (c % 6 - 2).toNat Str.empty ∈ (["<", "<=", "=", "!="] : List Str) /\ ¬ (["<", "<=", "=", "!="] : List Str).getD (c % 6 - 2).toNat Str.empty ∈ (["open", "shut"] : List Str) := by
     rcases this with e | e | e | e <;> rw [e] <;> decide +kernel
   refine ⟨hm.2, ?_⟩
   show (decide (_ ∈ _) && (D6 n _ _ && D6 n _ _)) = true
   rw [asN hm.1, G3, G3]
   rfl
theorem ae2 (s : Q.e) (i src : Int) (n : Nat) {m : Nat} {x : Str} (h : 1 <= m) (hs : rN src m = true) (hx : x.length <= 12 /\ dO x = true) : (Sy s i src n m x).Ok m n /\ ∀ q ∈ (Sy s i src n m x).dl, ddL q /\ ddI n q = true := by
 refine ⟨⟨hs, ⟨show x.length <= 1000 by omega, hx.2⟩, ?_, ?_, fun q hq => ?_⟩, fun q hq => ?_⟩
 . show J7 (PZ s i) m ∈ _
   unfold J7
   have : PZ s i / 9 / ((m : Int) + 1) % 3 = 0 \/ PZ s i / 9 / ((m : Int) + 1) % 3 = 1 \/ PZ s i / 9 / ((m : Int) + 1) % 3 = 2 := by omega
   split
   . decide +kernel
   . rcases this with e | e | e <;> rw [e] <;> decide +kernel
 . show (Mq (PZ s i) m = -1 /\ J7 (PZ s i) m = "new") \/ (Mq (PZ s i) m ≠ -1 /\ rN (Mq (PZ s i) m) m = true)
   by_cases e : Mq (PZ s i) m = -1
   . refine .inl ⟨e, ?_⟩
     unfold J7
     rw [asM e]
   . refine .inr ⟨e, ?_⟩
     unfold Mq at e ⊢
     have a := as9 (PZ s i / 9) (b := (m : Int) + 1) Q.a
     have b := as1 (PZ s i / 9) (b := (m : Int) + 1) Q.a
     unfold rN
     rw [asN Q.a, asN Q.a]
     rfl
 . obtain ⟨k, _, rfl⟩ := asW.mp hq
   exact ae1 _ n h
 . obtain ⟨k, _, rfl⟩ := asW.mp hq
   exact WK _ n hx
theorem ae3 : ∀ n : Nat, n < 7 -> (Txt.slice SG none (some (n : Int))).cps.toList = SG.cps.toList.take n := Q.f
theorem ae4 (c : Int) : (ahK c).cps.toList = SG.cps.toList.take (c / 7 % 7).toNat := by
 have e := ae3 (c / 7 % 7).toNat Q.a
 rw [show (((c / 7 % 7).toNat : Nat) : Int) = c / 7 % 7 by omega] at e
 exact e
theorem Mr (s : Q.e) (c : Int) (h : k < 10) : (bxK s c k).1.cps.toList = SG.cps.toList.take (c / 7 % 7).toNat ++ [98] ++ [48 + k] := by
 show ((ahK c ++ ("b" : Str)) ++ BU (k : Int)).cps.toList = _
 rw [BV, BV, ae4, Wu k h]
 rfl
theorem ae5 : SG.cps.toList.all (fun c => isLt c || uh c) = true := Q.f
theorem ajv (s : Q.e) (c : Int) (h : k < 10) : (bxK s c k).1.length <= 12 /\ dO (bxK s c k).1 = true := by
 have hc := Mr s c h
 have hl : 2 <= (bxK s c k).1.length /\ (bxK s c k).1.length <= 9 := by
   rw [Ww, hc, as5, as5, atF, show SG.cps.toList.length = 6 by decide +kernel]
   show 2 <= min _ 6 + 1 + 1 /\ min _ 6 + 1 + 1 <= 9
   omega
 have l2 : uh (48 + k) = true := by unfold uh; rw [asN Q.a, asN Q.a]; rfl
 have l3 : isLt (48 + k) = false := by unfold isLt; rw [asY Q.a]; rfl
 refine ⟨by omega, ?_⟩
 unfold dO
 rw [asN (show 1 <= (bxK s c k).1.length by omega), asN (show (bxK s c k).1.length <= 12 by omega)]
 rw [PV (l := SG.cps.toList.take (c / 7 % 7).toNat ++ [98]) (d := 48 + k) (r := []) hc l3, hc]
 rw [auB, auB, Im _ ae5, atV, atV, l2, l3]
 have hf : isLt ((SG.cps.toList.take (c / 7 % 7).toNat ++ [98] ++ [48 + k]).getD 0 0) = true := by
   generalize (c / 7 % 7).toNat = n
   cases n with
   | zero => rfl
   | succ n =>
     have e : SG.cps.toList = 113 :: SG.cps.toList.tail := Q.f
     rw [e]
     rfl
 rw [hf]
 rfl
theorem ae6 (s : Q.e) (c : Int) : ((J8 s c).map (·.1)).Nodup := by
 have hm := WG c
 unfold J8
 rw [ath]
 refine auZ.mpr (auU (fun {a b} ha hb hab e => ?_) List.pairwise_lt_range)
 have ha := atp.mp ha
 have hb := atp.mp hb
 have e : (bxK s c a).1.cps.toList = (bxK s c b).1.cps.toList := congrArg (fun x : Str => x.cps.toList) e
 rw [Mr s c Q.a, Mr s c Q.a] at e
 have e := List.append_cancel_left e
 simp at e
 omega
structure Drawn (bs : Q.C) (nm ks : Q.h) (es ss : Q.e) (is os : List (List D7)) (ws : List Px) : Prop where
 tr : abt ks es ss /\ nm.length = es.length /\ es.length <= 400
 nms : (∀ x ∈ nm, x.length <= 12 /\ dO x = true) /\ nm.Nodup
 bxs : (∀ q ∈ bs, (q.1.length <= 12 /\ dO q.1 = true) /\ Rj q.2 = true) /\ (bs.map (·.1)).Nodup /\ bs.length <= 1000
 Wn : is.length = nm.length /\ os.length = nm.length /\ ws.length <= 100 /\ (∀ l ∈ is ++ os ++ ws.map (·.dl), ∀ q ∈ l, ddL q /\ ddI bs.length q = true)
 wys : ∀ w ∈ ws, w.Ok nm.length bs.length
 srt : ws.Pairwise (fun a c => a.src <= c.src)
theorem WL {nm : Q.h} {y m : Nat} (hn : ∀ x ∈ nm, x.length <= 12 /\ dO x = true) (hm : m <= nm.length) {l : List D7} (hl : l ∈ iT s n nm y m) : ∀ q ∈ l, ddL q /\ ddI n q = true := by
 obtain ⟨k, hk, rfl⟩ := asW.mp hl
 have hk := atp.mp hk
 intro q hq
 obtain ⟨j, _, rfl⟩ := asW.mp hq
 refine WK _ n (hn _ ?_)
 rw [asU, as2 Q.a]
 exact at8 _
theorem abV (s : Q.e) (c d : Int) : Drawn (J8 s c) (dB d (kE c)) (wB s (yN s (kE c - 1)) (kE c)) (yN s (kE c - 1)) (wC s (yN s (kE c - 1)) (kE c)) (iT s (G0 c) (dB d (kE c)) 1 (kE c)) (iT s (G0 c) (dB d (kE c)) 3 (kE c)) (zC s (dB d (kE c)) (sO s c (kE c)) (G0 c) (kE c) (sO s c (kE c)).length) := by
 obtain ⟨_, m1, m2⟩ := abS c
 obtain ⟨_, n2⟩ := WG c
 have hbl : (J8 s c).length = G0 c := by unfold J8; rw [asG, ats]
 obtain ⟨e1, e2, e3⟩ := Ij s (kE c - 1)
 generalize kE c = m at m1 m2 e1 e2 e3 ⊢
 have e1 : (yN s (m - 1)).length = m := by omega
 generalize yN s (m - 1) = es at e1 e2 e3 ⊢
 subst e1
 have hnl := zA d es.length
 have Yu : ∀ x ∈ dB d es.length, x.length <= 12 /\ dO x = true := fun x hx => Sq hx
 have hnd := Yt d (n := es.length) Q.a
 generalize dB d es.length = nm at hnl Yu hnd ⊢
 have hsr : ∀ x ∈ sO s c es.length, 0 <= x /\ x < es.length := fun x hx => by
   obtain ⟨k, _, rfl⟩ := asW.mp (Kv.mp hx)
   exact ⟨as9 _ Q.a, as1 _ Q.a⟩
 have hsl : (sO s c es.length).length <= 6 := by
   unfold sO
   rw [xQ, asG, ats]
   omega
 have hss : (sO s c es.length).Pairwise (· <= ·) := ud _
 generalize sO s c es.length = sr at hsr hsl hss ⊢
 have hat : ∀ k, k < sr.length -> 0 <= sr.getD k 0 /\ sr.getD k 0 < es.length := fun k hk => by
   rw [asU, as2 hk]
   exact hsr _ (at8 _)
 have hwy : ∀ w ∈ zC s nm sr (G0 c) es.length sr.length, w.Ok es.length (G0 c) /\ ∀ q ∈ w.dl, ddL q /\ ddI (G0 c) q = true := fun w hw => by
   obtain ⟨k, hk, rfl⟩ := asW.mp hw
   have hk := atp.mp hk
   obtain ⟨a0, a1⟩ := hat k hk
   refine ae2 _ _ _ _ m1 ?_ (Yu _ ?_)
   . unfold rN
     rw [asN a0, asN a1]
     rfl
   . rw [asU, as2 Q.a]
     exact at8 _
 refine ⟨⟨abt.drawn e2 m1 Q.a e3, hnl, by omega⟩, ⟨Yu, hnd⟩, ⟨fun q hq => ?_, ae6 s c, by omega⟩, ⟨?_, ?_, ?_, fun l hl => ?_⟩, fun w hw => ?_, ?_⟩
 . obtain ⟨k, hk, rfl⟩ := asW.mp hq
   have hk := atp.mp hk
   exact ⟨ajv s c Q.a, abU _⟩
 . unfold iT; rw [asG, ats, hnl]
 . unfold iT; rw [asG, ats, hnl]
 . unfold zC; rw [asG, ats]; omega
 . rw [hbl]
   rcases asQ.mp hl with hl | hl
   . rcases asQ.mp hl with hl | hl
     . exact WL Yu Q.a hl
     . exact WL Yu Q.a hl
   . obtain ⟨w, hw, rfl⟩ := asW.mp hl
     exact (hwy w hw).2
 . rw [hbl, hnl]
   exact (hwy w hw).1
 . refine auZ.mpr (auU (fun {a b} ha hb hab => ?_) List.pairwise_lt_range)
   have ha := atp.mp ha
   have hb := atp.mp hb
   show sr.getD a 0 <= sr.getD b 0
   rw [asU, asU, as2 ha, as2 hb]
   exact List.pairwise_iff_getElem.mp hss a b ha hb hab
def abW (bs : Q.C) (nm ks : Q.h) (es ss : Q.e) (is os : List (List D7)) (ws : List Px) : List (List L3.D) := [bs.map kH, nm.map .str, ks.map .str, es.map .int, ss.map .int, is.map Rl, os.map Rl, ws.map Yj]
def SJ (s : Q.e) (c d : Int) : List (List L3.D) := abW (J8 s c) (dB d (kE c)) (wB s (yN s (kE c - 1)) (kE c)) (yN s (kE c - 1)) (wC s (yN s (kE c - 1)) (kE c)) (iT s (G0 c) (dB d (kE c)) 1 (kE c)) (iT s (G0 c) (dB d (kE c)) 3 (kE c)) (zC s (dB d (kE c)) (sO s c (kE c)) (G0 c) (kE c) (sO s c (kE c)).length)
theorem ae8 (w : Px) : D.qa (Yj w) = true := by
 have e1 := bS (f := yL) (fun q => by cases q <;> rfl) w.al
 have e2 := bS (f := L0) (fun q => by cases q <;> rfl) w.dl
 unfold Yj
 simp [D.qa, D.cV, e1, e2]
theorem ae9 {l : List α} (h : l.length <= k) : cutD l none (some (k : Int)) = l := by
 unfold cutD
 have e1 : HT.DP l.length 0 none = 0 := rfl
 have e2 : HT.DP l.length l.length (some (k : Int)) = l.length := by
   unfold HT.DP
   simp
   split <;> omega
 rw [e1, e2]
 simp
def vN : D7 -> pR
 | .put i a c => .put i a c
 | .say x a c => .say "say" x a c
 | .call x => .call x
theorem ajx (q : D7) : F6 (vN q) = L0 q := by cases q <;> rfl
theorem ajy (n : Nat) (q : D7) : Yl n (vN q) = ddI n q := by
 cases q with
 | put i a c => rfl
 | say x a c =>
   show (decide (("say" : Str) = "say") && _) = _
   rw [asN rfl]
   rfl
 | call x => rfl
theorem ajz {q : D7} (h : ddL q) : J6 (vN q) := by
 cases q with
 | put i a c => trivial
 | say x a c => exact ⟨by decide +kernel, h⟩
 | call x => exact h
def Iu (w : Px) : p8 := ⟨w.src, w.sign, w.al, w.dl.map vN, w.tgt, w.mode⟩
theorem WM (l : List D7) : bW (l.map vN) = Rl l := by
 unfold bW Rl
 rw [ath]
 congr 1
 exact atU fun q _ => ajx q
theorem ajA (w : Px) : jG (Iu w) = Yj w := by
 unfold jG Yj Iu
 dsimp only
 rw [WM]
 rfl
def Yv (bs : Q.C) (nm ks : Q.h) (es ss : Q.e) (is os : List (List D7)) (ws : List Px) : Pt := ⟨bs, nm, ks, es, ss, is.map (·.map vN), os.map (·.map vN), ws.map Iu⟩
theorem ajB (bs : Q.C) (nm ks : Q.h) (es ss : Q.e) (is os : List (List D7)) (ws : List Px) : T.lst ((abW bs nm ks es ss is os ws).map fun l => T.lst (l.map T.sh)) = vv (Yv bs nm ks es ss is os ws) := by
 have e1 : ∀ l : List (List D7), (l.map (·.map vN)).map bW = l.map Rl := fun l => by
   rw [ath]
   exact atU fun q _ => WM q
 have e2 : (ws.map Iu).map jG = ws.map Yj := by
   rw [ath]
   exact atU fun q _ => ajA q
 unfold vv Rk Yv
 dsimp only
 rw [e1, e1, e2]
 rfl
theorem abX {es : Q.e} (h : tD es) (hd : ∀ m : Int, 0 <= m -> m < es.length -> (oq es m).length <= 12) (h0 : es.getD 0 0 = -1) : ∀ {j : Nat}, j < es.length -> GK es j = true
 | 0, _ => asN h0
 | j + 1, hj => by
   rw [GK, abX h hd h0 Q.a, Bool.true_and, asN (show es.getD (j + 1) 0 ∈ (j : Int) :: oq es (j : Int) from by
     rcases h.2 j hj with z | z
     . rw [z]; exact asT
     . exact asV _ z), asN (hd ((j : Int) + 1) Q.a Q.a)]
   rfl
theorem abY (h : abt ks es ss) (h0 : es.getD 0 0 = -1) (hn : nl = es.length) : Ea ks es ss nl = true := by
 have n1 := h.n1
 refine mG.mpr ⟨by rw [h.kl]; omega, h.kl.symm, h.sl.trans h.kl.symm, hn.trans h.kl.symm, abX h.pre h.deep h0 Q.a, ?_, ?_⟩
 . refine atk.mpr fun m hm => ?_
   have hm := atp.mp hm
   rw [h.kl] at hm
   obtain ⟨a1, a2⟩ := h.kinds m hm
   unfold kdO
   rw [asN (show ks.getD m Str.empty ∈ D9 from a1), a2, auq]
   rfl
 . refine atk.mpr fun m hm => ?_
   have hm := atp.mp hm
   rw [h.sl] at hm
   unfold ZY
   rcases h.starts m hm with ⟨a1, a2⟩ | ⟨a1, a2, a3⟩
   . rw [asH a1, asN a2]
   . rw [asM a1, a2, asN a3]
     rfl
theorem abZ {n m : Nat} : ∀ {ws : List p8} {l : Int}, (∀ w ∈ ws, l <= w.src /\ R8 n m w = true) -> ws.Pairwise (fun a b => a.src <= b.src) -> Ic n m l ws = true
 | [], _, _, _ => rfl
 | w :: ws, l, h, hp => by
   obtain ⟨h1, h2⟩ := h w asT
   cases hp with
   | cons a b =>
     rw [Ic, asY (show ¬ w.src < l by omega), h2, abZ (fun v hv => ⟨a v hv, (h v (asV _ hv)).2⟩) b]
     rfl
theorem ab0 {m : Nat} {w : Px} (h : w.Ok n m) : R8 n m (Iu w) = true := by
 obtain ⟨h1, ⟨_, h2⟩, h3, h4, h5⟩ := h
 have ht : (if w.tgt = -1 then decide (w.mode = "new") else rN w.tgt n) = true := by
   rcases h4 with ⟨a1, a2⟩ | ⟨a1, a2⟩
   . rw [asM a1, asN a2]
   . rw [asH a1, a2]
 unfold R8 Iu
 dsimp only
 rw [h1, h2, asN (show w.mode ∈ um from h3), ht, atk.mpr fun q hq => (h5 q hq).2]
 rfl
theorem ajC {q : D7} (h : ddI n q = true) : rG (k + 2) (F6 (vN q)) := by
 cases q with
 | put i a c => exact ai9 (.str _ _ Q.d) (.int _ _) (Sg (.int _ _) (.int _ _))
 | say x a c =>
   have h : (dO x && D6 n a c) = true := h
   rw [asZ] at h
   exact ai9 (.str _ _ Q.d) (.str _ _ (L8 h.1)) (Sg (.int _ _) (.int _ _))
 | call x => exact Sg (.str _ _ Q.d) (.str _ _ (L8 h))
theorem ajD {m : Nat} {q : ZU} (h : R7 q /\ ZV n m q = true) : rG (k + 2) (yL q) := by
 cases q with
 | R6 x i => exact Sg (.str _ _ (Sf h.1 Q.d)) (.int _ _)
 | num mk a c a2 c2 =>
   have h : (decide (mk ∈ (["<", "<=", "=", "!="] : List Str)) && (D6 m a c && D6 m a2 c2)) = true := h.2
   rw [asZ] at h
   exact ai9 (.str _ _ (Sf (asI h.1) Q.d)) (Sg (.int _ _) (.int _ _)) (Sg (.int _ _) (.int _ _))
structure ag2 (bs : Q.C) (es : Q.e) (is os : List (List D7)) (ws : List Px) : Prop where
 e0 : es.getD 0 0 = -1
 e1 : es.length <= 45
 b1 : bs.length <= 4
 w1 : ws.length <= 6
 r1 : ∀ l ∈ is ++ os ++ ws.map (·.dl), l.length <= 2
 a1 : ∀ w ∈ ws, w.al.length <= 2
theorem Drawn.amc {bs : Q.C} {nm : Q.h} {is os : List (List D7)} {ws : List Px} (h : Drawn bs nm ks es ss is os ws) {l : List pR} (hl : l ∈ is.map (·.map vN) ++ os.map (·.map vN) ++ (ws.map Iu).map (·.dl)) : ∃ r ∈ is ++ os ++ ws.map (·.dl), l = r.map vN := by
 rcases asQ.mp hl with z | z
 . rcases asQ.mp z with z | z
   . obtain ⟨r, hr, rfl⟩ := asW.mp z
     exact ⟨r, asL _ (asL _ hr), rfl⟩
   . obtain ⟨r, hr, rfl⟩ := asW.mp z
     exact ⟨r, asL _ (asJ _ hr), rfl⟩
 . obtain ⟨w, hw, rfl⟩ := asW.mp z
   obtain ⟨v, hv, rfl⟩ := asW.mp hw
   exact ⟨v.dl, asJ _ (asW.mpr ⟨v, hv, rfl⟩), rfl⟩
theorem P5 {bs : Q.C} {nm : Q.h} {is os : List (List D7)} {ws : List Px} (h : Drawn bs nm ks es ss is os ws) (z : ag2 bs es is os ws) : (∀ w, vz w 50 (Yv bs nm ks es ss is os ws)) /\ (Yv bs nm ks es ss is os ws).ref = -1 := by
 obtain ⟨t1, t2, t3⟩ := h.tr
 have e1 := z.e1
 have tr : Ea ks es ss nm.length = true := abY t1 z.e0 t2
 have nms : mC nm = true := by
   unfold mC
   rw [atk.mpr fun x hx => (h.nms.1 x hx).2, asN h.nms.2]
   rfl
 have bxs : pS bs = true := by
   unfold pS mC
   rw [atk.mpr fun q hq => (h.bxs.1 q hq).2, atk.mpr fun x hx => (by obtain ⟨q, hq, rfl⟩ := asW.mp hx; exact (h.bxs.1 q hq).1.2), asN h.bxs.2.1]
   rfl
 have Wn : om nm.length bs.length (is.map (·.map vN)) (os.map (·.map vN)) (ws.map Iu) = true := by
   unfold om
   rw [asN (show (is.map (·.map vN)).length = nm.length by rw [asG]; exact h.Wn.1), asN (show (os.map (·.map vN)).length = nm.length by rw [asG]; exact h.Wn.2.1)]
   refine atk.mpr fun l hl => ?_
   obtain ⟨r, hr, rfl⟩ := h.amc hl
   refine atk.mpr fun q hq => ?_
   obtain ⟨q2, hq2, rfl⟩ := asW.mp hq
   rw [ajy]
   exact (h.Wn.2.2.2 r hr q2 hq2).2
 have wys : Ic nm.length bs.length 0 (ws.map Iu) = true := abZ (fun w hw => by
   obtain ⟨v, hv, rfl⟩ := asW.mp hw
   refine ⟨?_, ab0 (h.wys v hv)⟩
   have := (h.wys v hv).1
   unfold rN at this
   rw [asZ] at this
   exact asI this.1) (auZ.mpr h.srt)
 have b1 := z.b1
 have w1 := z.w1
 have sh : PF 50 (Yv bs nm ks es ss is os ws) := ⟨by show ks.length <= 50; rw [t1.kl]; omega, by show es.length <= 50; omega, by show ss.length <= 50; rw [t1.sl]; omega, fun x hx => asS (h.nms.1 x hx).1 Q.a, by show nm.length <= 50; omega, fun q hq => asS (h.bxs.1 q hq).1.1 Q.a, by show bs.length <= 50; omega,
   by show (is.map _).length <= 50; rw [asG, h.Wn.1]; omega, by show (os.map _).length <= 50; rw [asG, h.Wn.2.1]; omega, by show (ws.map _).length <= 50; rw [asG]; omega, fun l hl => by
     obtain ⟨r, hr, rfl⟩ := h.amc hl
     refine ⟨by rw [asG]; exact asS (z.r1 r hr) Q.a, fun q hq => ?_⟩
     obtain ⟨q2, hq2, rfl⟩ := asW.mp hq
     exact ajz (h.Wn.2.2.2 r hr q2 hq2).1, fun w hw => by
     obtain ⟨v, hv, rfl⟩ := asW.mp hw
     exact ⟨⟨(h.wys v hv).2.1.1, fun q hq => ((h.wys v hv).2.2.2.2 q hq).1⟩, asS (z.a1 v hv) Q.a⟩⟩
 refine ⟨fun w => ⟨sh, by omega, tr, fun _ => nms, fun _ => bxs, fun _ v hv => ?_, fun _ => ⟨by show (is.map _).length = nm.length; rw [asG]; exact h.Wn.1, by show (os.map _).length = nm.length; rw [asG]; exact h.Wn.2.1⟩, fun _ => Wn⟩, ?_⟩
 . obtain ⟨u, hu, rfl⟩ := asW.mp hv
   obtain ⟨_, ⟨_, g2⟩, g3, _, g5⟩ := h.wys u hu
   refine ⟨L8 g2, fun q hq k => ajD (g5 q hq), fun q hq k => ?_, Sf g3 Q.d⟩
   obtain ⟨q2, hq2, rfl⟩ := asW.mp hq
   exact ajC (h.Wn.2.2.2 u.dl (asJ _ (asW.mpr ⟨u, hu, rfl⟩)) q2 hq2).2
 . unfold Pt.ref ig
   show (if Ea ks es ss nm.length = false then (0 : Int) else if mC nm = false then 1 else if pS bs = false then 2 else if om nm.length bs.length (is.map (·.map vN)) (os.map (·.map vN)) (ws.map Iu) = false then 3 else if Ic nm.length bs.length 0 (ws.map Iu) = false then 4 else -1) = -1
   rw [tr, nms, bxs, Wn, wys]
   rfl
theorem P6 (s : Q.e) (c d : Int) : ag2 (J8 s c) (yN s (kE c - 1)) (iT s (G0 c) (dB d (kE c)) 1 (kE c)) (iT s (G0 c) (dB d (kE c)) 3 (kE c)) (zC s (dB d (kE c)) (sO s c (kE c)) (G0 c) (kE c) (sO s c (kE c)).length) := by
 obtain ⟨_, m1, m2⟩ := abS c
 obtain ⟨_, n2⟩ := WG c
 obtain ⟨e1, e2, e3⟩ := Ij s (kE c - 1)
 have l2 : ∀ x : Int, (x % 3).toNat <= 2 := fun x => by omega
 have rl : ∀ y, ∀ l ∈ iT s (G0 c) (dB d (kE c)) y (kE c), l.length <= 2 := fun y l hl => by
   obtain ⟨k, _, rfl⟩ := asW.mp hl
   unfold rwK
   rw [asG, ats]
   exact l2 _
 have wl : ∀ w ∈ zC s (dB d (kE c)) (sO s c (kE c)) (G0 c) (kE c) (sO s c (kE c)).length, w.al.length <= 2 /\ w.dl.length <= 2 := fun w hw => by
   obtain ⟨k, _, rfl⟩ := asW.mp hw
   unfold wyK Sy
   dsimp only
   rw [asG, ats, asG, ats]
   exact ⟨l2 _, l2 _⟩
 refine ⟨by have := e2.1 0 Q.a; omega, by omega, ?_, ?_, fun l hl => ?_, fun w hw => (wl w hw).1⟩
 . unfold J8; rw [asG, ats]; exact n2
 . unfold zC sO
   rw [asG, ats, xQ, asG, ats]
   omega
 . rcases asQ.mp hl with z | z
   . rcases asQ.mp z with z | z
     . exact rl _ l z
     . exact rl _ l z
   . obtain ⟨w, hw, rfl⟩ := asW.mp z
     exact (wl w hw).2
abbrev G4 : Stmt := top 56
abbrev Ms : Type := List Int
def x9 : Ms -> List L3.D := fun s => [.lst (s.map .int)]
def yb : Ms -> Prop := fun s => s.length <= 100
def yc : Ms -> T := fun s => (.lst ((SJ s (DI s) Q.ai).map fun l => T.lst (l.map T.sh)) : T)
structure afa (X : Cx) (CL : Q.g) : Prop extends cN X where
 bT : Ln X 0 "script"
 P7 : X.env.kindOf "script" = some .cell
 uz : Ln X 1 "shape"
 eS : Ln X 2 "moods"
 afb : X.env.kindOf "moods" = some .cell
 dI : Ln X 3 "elders"
 SK : Ln X 4 "both"
 dX : Ln X 5 "names"
 bq : Ln X 6 "many"
 WN : Ln X 7 "ahead"
 afc : X.env.kindOf "ahead" = some .cell
 vK : Ln X 8 "k"
 fN : Ln X 9 "boxes"
 WO : Ln X 10 "ins"
 Mt : Ln X 11 "outs"
 yd : Ln X 12 "sources"
 qT : Ln X 13 "ways"
 bP : Gl X "_law_cell_at"
 J9 : Gl X "_law_elders"
 Mu : Gl X "_law_kinds"
 Mv : Gl X "_law_names"
 di : Gl X "range"
 FT : Gl X "_law_rows"
 ab1 : Gl X "sorted"
 cQ : Gl X "len"
 SM : Gl X "_law_way"
 c6 : Fc X CL "_law_cell_at" 1 2 gi gj gk
 ab2 : Fc X CL "_law_elders" 2 2 uw qR ux
 afd : Fc X CL "_law_kinds" 2 2 xV xW xX
 afe : Fc X CL "_law_names" 1 2 xZ tK x6
 dm : X.mg "range" = none
 ab3 : Fc X CL "_law_rows" 4 4 B4 tL B5
 ab4 : X.mg "sorted" = none
 cP : X.mg "len" = none
 amd : Fc X CL "_law_way" 4 6 GY B7 GZ
 PX : X.mg "str" = none
 abQ : Fc X CL "_law_far" 1 1 BW BX BZ
theorem afg {b : Bx} (E : afa X CL) {s} (h : yb s) :
   aN X CL b G4 ["script", "shape", "moods", "elders", "both", "names", "many", "ahead", "k", "boxes", "ins", "outs", "sources", "ways"] (x9 s) (yc s) := by
 dsimp only [aN, yb, x9, yc] at h ⊢
 have hs : s.length <= 100 := h
 have hsl : (s.map L3.D.int).length <= 120 := by rw [asG]; omega
 refine bf E.g E.bT (Lw (aK (qN (h := some 120) (aL E.bT) (gf _) oV (oW Q.b)) (by rw [show (120 : Int) = ((120 : Nat) : Int) from rfl, ae9 hsl]))) ?_
 refine bf E.g E.uz (aK (aQ (ai (c_ ((s, 0)) E.c6 E.bP (ao (aL E.bT) (ao Q.b aG)) (show (0 : Int) <= 0 by omega) rfl)) (ai Q.M) Q.c) (t2 := .sh (.int (DI s))) rfl) ?_
 have c0 : 0 <= DI s := as9 _ Q.d
 have c1 : DI s < 1000000000 := as1 _ Q.d
 generalize DI s = c at c0 c1 ⊢
 obtain ⟨m0, m1, m2⟩ := abS c
 obtain ⟨n0, n1⟩ := WG c
 refine bf E.g E.eS (bZ Q.b (ai (aQ (aL E.uz) Q.b Q.c))) ?_
 refine Kr (fun δ => δ = [some (.sh (.lst (s.map .int))), some (.sh (.int c)), some (.sh (.int (kE c : Nat))), none, none, none, none, none, none, none, none, none, none, none]) (bG (ai Q.aO) Q.b).1 (fun hp => ?_) (fun hp => ?_) ?_
 . refine bf E.g E.eS (aK (bZ Q.b (ai Q.aO)) (t2 := .sh (.int (kE c : Nat))) ?_) (ak rfl)
   rw [m0]; unfold mdI; rw [asM (asI hp)]
 . refine ak ?_
   rw [m0]; unfold mdI; rw [asH (asP hp)]
   rfl
 rintro δ rfl
 obtain ⟨el1, _, _⟩ := Ij s (kE c - 1)
 unfold SJ
 generalize kE c = m at m0 m1 m2 el1 ⊢
 have hel : (yN s (m - 1)).length = m := by omega
 refine bf E.g E.dI (aK (c_ ((s, m)) E.ab2 E.J9 (ao (aL E.bT) (ao (aL E.eS) aG)) (by dsimp only [qR]; exact (⟨m1, by omega⟩)) (ly _)) (t2 := .lst (((yN s (m - 1)).map .int).map T.sh)) rfl) ?_
 generalize yN s (m - 1) = es at hel ⊢
 refine bf E.g E.SK (aK (c_ (s, es) E.afd E.Mu (ao (aL E.bT) (ao (vL E.dI.1) aG)) (show es.length <= 900 by omega) (by show T.eV [T.lst _, T.lst _] = true; rw [T.eV, T.eV, T.eV, zv, ly]; rfl)) (t2 := .tup [.lst (((wB s es m).map .str).map T.sh), .lst (((wC s es m).map .int).map T.sh)]) (by rw [← hel]; rfl)) ?_
 generalize wB s es m = ks
 generalize wC s es m = ss
 have d0 : 0 <= cB s 1 % 10 ^ (9 : Int).toNat := as9 _ Q.d
 have d1 : cB s 1 % 10 ^ (9 : Int).toNat < 1000000000 := as1 _ Q.d
 refine bf E.g E.dX (aK (c_ (cB s 1 % 10 ^ (9 : Int).toNat, m) E.afe E.Mv (ao (ai (aQ (ai (c_ ((s, 1)) E.c6 E.bP (ao (aL E.bT) (ao Q.b aG)) (show (0 : Int) <= 1 by omega) rfl)) (ai Q.M) Q.c)) (ao (aL E.eS) aG)) (by dsimp only [tK]; exact ⟨d0, d1, by omega⟩) (zv _)) (t2 := .lst (((dB Q.ai m).map .str).map T.sh)) rfl) ?_
 have hnl := zA Q.ai m
 generalize dB Q.ai m = nm at hnl ⊢
 refine bf E.g E.bq (aK Q.aO (t2 := .sh (.int (G0 c : Nat))) (by rw [n0])) ?_
 have ha7 : SG.length <= sizeLine := by rw [atP]; decide +kernel
 have hal := auG SG none (some (c / 7 % 7))
 have ha6 : SG.length = 6 := Q.f
 refine bf E.g E.WN (aK (DW (ai (aK bx (t2 := .sh (.str SG)) rfl)) ha7 oV (oW (ai Q.aO))) (t2 := .sh (.str (ahK c))) rfl) ?_
 have hak : (ahK c).length <= 6 := by unfold ahK; omega
 unfold J8 bxK
 generalize ahK c = ah at hak ⊢
 generalize G0 c = n at n0 n1 ⊢
 refine LJ (p := fun _ => true) (gg := fun d => T.sh (kH ((ah ++ ("b" : Str)) ++ BU (d.Hv.toNat : Int), uy (cB s (2 + (d.Hv.toNat : Int)))))) E.g E.fN (eX (.cons E.WN.1 (.inl E.afc) (.cons E.bT.1 (.inl E.P7) .nil)) Q.d) (gb E.dm (aL E.bq) Q.a E.di) (.inr rfl) (fun C s0 H0 f0 b' d hd => ?Yr) (atJ (cR (by simp [cW]; omega))) ?rest (by exact asR rfl) (Bs ⟨_, rfl⟩)
 case Yr =>
   obtain ⟨i, hi, rfl⟩ := asW.mp hd
   have hi2 : i < n := by simpa using hi
   obtain ⟨sl, sg⟩ := PN i Q.a
   have ei : (0 + (i : Int)) = (i : Int) := at6 _
   have et : (L3.D.int (0 + (i : Int))).Hv.toNat = i := by show (0 + (i : Int)).toNat = i; omega
   have sl2 : (toString (i : Int) : Str).length = 1 := sl
   refine ⟨rfl, fun _ => aK (bE (ay (tZ (ai (tZ (ai (v_ (pQ (i := 1) rfl Q.d))) (ai bx) ((by rw [atP]; show ah.length + 1 <= _; omega)))) (ai (Ls E.PX (qb Q.d) Q.ae ((by rw [ei]; exact sg)))) ((by rw [ei, str_len, sl2, atP]; show ah.length + 1 + 1 <= _; omega))) (ay (c_ (cB s (2 + (0 + (i : Int)))) (Bt E.abQ) (qb Q.d) (ao (ai (c_ ((s, 2 + (0 + (i : Int)))) (Bt E.c6) (qb Q.d) (ao (ai (v_ (pQ (i := 2) rfl Q.d))) (ao (ai (bZ Q.b Q.ae)) aG)) (show (0 : Int) <= 2 + (0 + (i : Int)) by omega) rfl)) aG) (trivial) rfl) bH)) Q.i) ?_⟩
   show T.sh _ = T.sh (kH ((ah ++ ("b" : Str)) ++ BU ((L3.D.int (0 + (i : Int))).Hv.toNat : Int), uy (cB s (2 + ((L3.D.int (0 + (i : Int))).Hv.toNat : Int)))))
   rw [et, ei]
   rfl
 case rest =>
 have em : ((cW 0 (n : Int).toNat).filter fun _ => true).map (fun d => T.sh (kH ((ah ++ ("b" : Str)) ++ BU (d.Hv.toNat : Int), uy (cB s (2 + (d.Hv.toNat : Int)))))) = (((List.range n).map fun k : Nat => ((ah ++ ("b" : Str)) ++ BU (k : Int), uy (cB s (2 + (k : Int))))).map kH).map T.sh := by
   rw [lZ]
   unfold cW
   rw [ath, ath, ath, ato]
   refine atU fun k _ => ?_
   show T.sh (kH ((ah ++ ("b" : Str)) ++ BU ((0 + (k : Int)).toNat : Int), uy (cB s (2 + ((0 + (k : Int)).toNat : Int))))) = _
   rw [show (0 + (k : Int)).toNat = k by omega]
   rfl
 rw [em]
 generalize ((List.range n).map fun k : Nat => ((ah ++ ("b" : Str)) ++ BU (k : Int), uy (cB s (2 + (k : Int))))) = bs
 have cdl : ∀ l : List (List D7), (T.lst ((l.map Rl).map T.sh)).clean = true := fun l => cj (bS (f := Rl) (fun q => show D.cV (q.map L0) = true from bS (fun q => by cases q <;> rfl) _) l)
 refine bf E.g E.WO (aK (c_ (s, n, nm, 1) E.ab3 E.FT (ao (aL E.bT) (ao (aL E.bq) (ao (vL E.dX.1) (ao Q.b aG)))) (by dsimp only [tL]; exact ⟨by omega, by omega, by omega, by omega⟩) (cdl _)) (t2 := .lst (((iT s n nm 1 m).map Rl).map T.sh)) (by rw [← hnl]; rfl)) ?_
 refine bf E.g E.Mt (aK (c_ (s, n, nm, 3) E.ab3 E.FT (ao (aL E.bT) (ao (aL E.bq) (ao (vL E.dX.1) (ao Q.b aG)))) (by dsimp only [tL]; exact ⟨by omega, by omega, by omega, by omega⟩) (cdl _)) (t2 := .lst (((iT s n nm 3 m).map Rl).map T.sh)) (by rw [← hnl]; rfl)) ?_
 generalize iT s n nm 1 m = is
 generalize iT s n nm 3 m = os
 have q0 := as9 (c / 15) (b := 7) Q.c
 have q1 := as1 (c / 15) (b := 7) Q.c
 refine bf E.g E.yd (aK (RT (l := (List.range (c / 15 % 7).toNat).map (srK s m)) E.ab4 (bK (aK (rK (p := fun _ => true) (g := fun d => T.sh (.int (srK s m d.Hv.toNat))) (eX (.cons E.eS.1 (.inl E.afb) (.cons E.bT.1 (.inl E.P7) .nil)) Q.d) E.g.calm (gb E.dm (ai Q.aO) ((show -(2 ^ 62) <= c / 15 % 7 /\ c / 15 % 7 < 2 ^ 62 by omega)) E.di) (.inr rfl) (fun C s0 H0 f0 b' d hd => ?ajE) (atJ (cR (by simp [cW]; omega)))) ?ceq)) (by rw [asG, ats]; omega) E.ab1) (t2 := .lst (((sO s c m).map .int).map T.sh)) rfl) ?_
 case ajE =>
   obtain ⟨i, hi, rfl⟩ := asW.mp hd
   have et : (L3.D.int (0 + (i : Int))).Hv.toNat = i := by show (0 + (i : Int)).toNat = i; omega
   refine ⟨rfl, fun _ => aK (aQ (ai (aT (ai (c_ ((s, 20 + 4 * (0 + (i : Int)))) (Bt E.c6) (qb Q.d) (ao (ai (v_ (pQ (i := 2) rfl Q.d))) (ao (ai (bZ Q.b (ai (RJ Q.b (ai (v_ (kF (i := 0) rfl Q.d))) (.inl ⟨by decide, by decide⟩))))) aG)) (show (0 : Int) <= 20 + 4 * (0 + (i : Int)) by omega) rfl)) Q.b ⟨by decide, by decide⟩)) (ai (v_ (pQ (i := 1) rfl Q.d))) Q.a) ?_⟩
   show T.sh _ = T.sh (.int (srK s m (L3.D.int (0 + (i : Int))).Hv.toNat))
   rw [et]
   unfold srK
   rw [at6]
 case ceq =>
   rw [lZ]
   unfold cW
   rw [ath, ath, ath]
   congr 1
   refine atU fun k _ => ?_
   show T.sh (.int (srK s m (0 + (k : Int)).toNat)) = _
   rw [show (0 + (k : Int)).toNat = k by omega]
   rfl
 have hsr : ∀ x ∈ sO s c m, 0 <= x /\ x < m := fun x hx => by
   obtain ⟨k, _, rfl⟩ := asW.mp (Kv.mp hx)
   exact ⟨as9 _ Q.a, as1 _ Q.a⟩
 have ao8 : (sO s c m).length <= 6 := by
   unfold sO
   rw [xQ, asG, ats]
   omega
 generalize sO s c m = sr at hsr ao8 ⊢
 refine bf E.g E.qT (cS c7 (ata _)) ?_
 refine pC E.g E.vK (fun j δ => ∃ o8, δ = [some (.sh (.lst (s.map .int))), some (.sh (.int c)), some (.sh (.int m)), some (.lst ((es.map .int).map T.sh)), some (.tup [.lst ((ks.map .str).map T.sh), .lst ((ss.map .int).map T.sh)]), some (.lst ((nm.map .str).map T.sh)), some (.sh (.int n)), some (.sh (.str ah)), o8, some (.lst ((bs.map kH).map T.sh)), some (.lst ((is.map Rl).map T.sh)), some (.lst ((os.map Rl).map T.sh)), some (.lst ((sr.map .int).map T.sh)), some (.lst (((zC s nm sr n m j).map Yj).map T.sh))])
   (gb E.dm (ai (cT (asG ..) E.cP (vL E.yd.1) E.cQ)) Q.a E.di) ⟨_, rfl⟩ (fun j δ ⟨_, e⟩ => by subst e; exact asR rfl) ?turn ?fin
 case turn =>
   rintro j d δ hj ⟨o8, rfl⟩
   obtain ⟨rfl, GO⟩ := mE hj
   rw [at6]
   have hjn : j < sr.length := by simpa using GO
   obtain ⟨x0, x1⟩ : 0 <= sr.getD j 0 /\ sr.getD j 0 < m := hsr _ (by
     rw [asU, as2 hjn]
     exact at8 _)
   have hat : Bc (sr.map L3.D.int) (j : Int) = some (.int (sr.getD j 0)) := (fS Q.a Q.a).trans (by rw [ato])
   have lw : (zC s nm sr n m j).length = j := by unfold zC; rw [asG, ats]
   refine yU E.qT.1 rfl (aK (c_ (s, 21 + 4 * (j : Int), sr.getD j 0, n, m, nm.getD (sr.getD j 0).toNat Str.empty) E.amd E.SM (ao (aL E.bT) (ao (ai (bZ Q.b (ai (RJ Q.b (aL E.vK) (.inl ⟨by decide, by decide⟩))))) (ao (bD (vL E.yd.1) (aL E.vK) (hat)) (ao (aL E.bq) (ao (aL E.eS) (ao (bD (vL E.dX.1) (bD (vL E.yd.1) (aL E.vK) (hat)) (gY Str.empty x0 Q.a)) aG)))))) (by dsimp only [B7]; exact ⟨by omega, by omega, by omega, by omega⟩) (ae8 _)) (t2 := .sh (Yj (wyK s nm sr n m j))) rfl) rfl (by rw [List.length_map, List.length_map]; omega) (ak ?_)
   have e : ((zC s nm sr n m j).map Yj).map T.sh ++ [T.sh (Yj (wyK s nm sr n m j))] = ((zC s nm sr n m (j + 1)).map Yj).map T.sh := by
     unfold zC
     simp [aum]
   rw [e]
   exact ⟨_, rfl⟩
 case fin =>
   rintro δ ⟨o8, rfl⟩
   rw [show (cW 0 (sr.length : Int).toNat).length = sr.length by simp [cW]]
   generalize zC s nm sr n m sr.length = ws
   exact bu (cS (bL (vM E.fN.1) (bL (vM E.dX.1) (bL (VX 0 E.SK.1 rfl rfl) (bL (vM E.dI.1) (bL (VX 1 E.SK.1 rfl rfl) (bL (vM E.WO.1) (bL (vM E.Mt.1) (bL (vM E.qT.1) c7)))))))) Q.i) rfl
theorem cu : pM (az G4) ([("script", .cell), ("shape", aF), ("moods", .cell), ("elders", aF), ("both", aF), ("names", aF), ("many", aF), ("ahead", .cell), ("k", aF), ("boxes", aF), ("ins", aF), ("outs", aF), ("sources", aF), ("ways", aF), ("_law_cell_at", aE), ("_law_elders", aE), ("_law_kinds", aE), ("_law_names", aE), ("range", aE), ("_law_rows", aE), ("sorted", aE), ("len", aE), ("_law_way", aE)]) = true := Q.f
theorem ab5 : aY ["script", "shape", "moods", "elders", "both", "names", "many", "ahead", "k", "boxes", "ins", "outs", "sources", "ways"] ["script"] (az G4) := bz
theorem oY (h : i < n) : xM n (i : Int) = some i := by
 unfold xM
 rw [asM Q.a, asM Q.a, ato]
theorem fH {f : α -> L3.D} {l : List α} {v : α} : ((l.map f).map T.sh).set i (T.sh (f v)) = ((l.set i v).map f).map T.sh := by rw [auT, auT]
theorem dg {f : α -> L3.D} {l : List α} : ((l.map f).map T.sh).length = l.length := by rw [asG, asG]
theorem pI {f : α -> L3.D} {l : List α} {v : α} : (l.map f).map T.sh ++ [T.sh (f v)] = ((l ++ [v]).map f).map T.sh := by simp
theorem P8 {f : α -> L3.D} {l : List α} {v : α} : dw k (T.sh (f v)) ((l.map f).map T.sh) = ((dw k v l).map f).map T.sh := by rw [oA, oA]
theorem keepsP {X : T} {y : Addr} {δ : Q.n} {d : L3.D} (h : X = .pin y (vv p)) : Keeps (some X :: δ) [.pin y (vv p), .sh d] := by
 subst h
 exact DZ (ds := [d])
theorem B8 {l : List α} {z : Int} (hz : z = (k : Int)) : cutD l none (some z) = l.take k := by
 subst hz
 unfold cutD
 have e1 : HT.DP l.length 0 none = 0 := rfl
 have e2 : HT.DP l.length l.length (some (k : Int)) = min k l.length := by
   unfold HT.DP
   simp
   intro hk
   omega
 rw [e1, e2]
 simp [List.take_eq_take_iff]
def emp (p : Pt) : Nat -> List T
 | 0 => Rk p
 | j + 1 => (emp p j).set (j + 1) (.lst [])
theorem WQ (p : Pt) : ∀ j, (emp p j).length = 8
 | 0 => rfl
 | j + 1 => by rw [emp, atc, WQ p j]
abbrev qh : Stmt := top 58
abbrev qi : Type := Addr × Pt × Int × Nat
def jK : qi -> List T := fun (y, p, c, B) => [.pin y (vv p), .sh (.int c)]
def g6 : qi -> List T := fun (y, p, c, B) => [.pin y (vv (dP p c)), .sh (.int c)]
def mH : qi -> Prop := fun (y, p, c, B) => vz 0 B p /\ B <= 100
def jL : qi -> T := fun (y, p, c, B) => (.sh .non : T)
structure Mw (X : Cx) (CL : Q.g) : Prop extends cN X where
 aO : Ln X 0 "parts"
 aH : Ln X 1 "cell"
 bq : Ln X 2 "many"
 eN : Ln X 3 "at"
 bM : Ln X 4 "way"
 vK : Ln X 5 "k"
 cQ : Gl X "len"
 ab6 : Gl X "int"
 di : Gl X "range"
 cP : X.mg "len" = none
 ab7 : X.mg "int" = none
 dm : X.mg "range" = none
 PX : X.mg "str" = none
theorem Mx {b : Bx} (E : Mw X CL) (y p c B) (h : mH (y, p, c, B)) :
   dY X CL b (dW qh) (wk ["parts", "cell", "many", "at", "way", "k"] (jK (y, p, c, B))) { nx := fun δ => jL (y, p, c, B) = .sh .non /\ Keeps δ (g6 (y, p, c, B)), rt := fun LK δ => LK = jL (y, p, c, B) /\ Keeps δ (g6 (y, p, c, B)) } := by
 dsimp only [mH, jK, jL, g6] at h ⊢
 obtain ⟨hA, hB⟩ := h
 have hn := hA.pos
 obtain ⟨h0, h1, h2, h3, _⟩ := mG.mp hA.tr
 have JV := hA.sh
 have b1 := JV.n2
 obtain ⟨i1, i2⟩ : iY p c < p.nm.length /\ ((iY p c : Nat) : Int) = c / 10 % (p.nm.length : Int) := jH (c / 10) hn
 have r0 := as9 (c / 700) (b := 2) Q.c
 have r1 := as1 (c / 700) (b := 2) Q.c
 have q0 := as9 (c / 700) (b := 4) Q.c
 have q1 := as1 (c / 700) (b := 4) Q.c
 refine bf E.g E.bq (cT (n := p.nm.length) (asG ..) E.cP Q.aN E.cQ) ?_
 refine bf E.g E.eN (aK (aQ (ai Q.E) (aL E.bq) Q.a) (t2 := .sh (.int (iY p c : Nat))) (by rw [i2])) ?_
 refine bf E.g E.bM Q.N ?_
 have he : xM ((p.es.map L3.D.int).map T.sh).length (iY p c : Int) = some (iY p c) := by rw [dg]; exact oY Q.a
 have hk : xM ((p.ks.map L3.D.str).map T.sh).length (iY p c : Int) = some (iY p c) := by rw [dg]; exact oY Q.a
 have hs : xM ((p.ss.map L3.D.int).map T.sh).length (iY p c : Int) = some (iY p c) := by rw [dg]; exact oY Q.a
 have hks : Bc (p.ks.map L3.D.str) (iY p c : Int) = some (.str (p.ks.getD (iY p c) Str.empty)) := (gY Str.empty Q.a Q.a).trans (by rw [ato])
 refine b5 (bG (aL E.bM) Q.b).1 (fun hp => ?_) (fun Yh => ?_)
 . refine cY (v_ E.eN.1) (ck (j := 3) Q.t rfl rfl Q.b rfl) (aL E.eN) rfl rfl he (ak (ak ⟨rfl, keepsP ?_⟩))
   rw [st0 (asI hp), fH]
   rfl
 refine b5 (bG (aL E.bM) Q.b).1 (fun hp => ?_) (fun ZT => ?_)
 . refine cY (bZ (aL E.eN) Q.b) (ck (j := 3) Q.t rfl rfl Q.b rfl) (aL E.eN) rfl rfl he (ak (ak (ak ⟨rfl, keepsP ?_⟩)))
   rw [st1 (asI hp), fH]
   rfl
 refine b5 (bG (aL E.bM) Q.b).1 (fun hp => ?_) (fun hp2 => ?_)
 . refine cY (aK (eW (ai Q.u) (ai (Lr E.ab7 (ai (bG (aL E.eN) Q.b).2) E.ab6))) (t2 := .sh (.int (if iY p c = 0 then -2 else -1))) ?_) (ck (j := 3) Q.t rfl rfl Q.b rfl) (aL E.eN) rfl rfl he (ak (ak (ak (ak ⟨rfl, keepsP ?_⟩))))
   . by_cases hz : iY p c = 0
     . rw [asM hz, hz]; rfl
     . rw [asH hz, asY (show ¬ ((iY p c : Nat) : Int) = 0 by omega)]; rfl
   rw [st2 (asI hp), fH]
   rfl
 refine b5 (bG (aL E.bM) Q.b).1 (fun hp => ?_) (fun hp3 => ?_)
 . refine cY (b9 (bD (bK (fM (iA (l := kwL) rfl) Q.i)) Q.R (gY Str.empty (l := kwL) q0 (show c / 700 % 4 < 4 by omega))) rfl) (ck (j := 2) Q.t rfl rfl Q.b rfl) (aL E.eN) rfl rfl hk (ak (ak (ak (ak (ak ⟨rfl, keepsP ?_⟩)))))
   rw [st3 (asI hp), fH]
   rfl
 refine b5 (bG (aL E.bM) Q.b).1 (fun hp => ?_) (fun hp4 => ?_)
 . refine cY (b9 (bD (bK (fM (iA (l := (["leaf", "all"] : List Str)) rfl) Q.i)) (ai (Lr E.ab7 (ai (qM (bD (cZ (p := [.ix 2]) (ck (j := 2) Q.t rfl rfl Q.b rfl) rfl rfl (bI _)) (aL E.eN) hks) (ai bx)).2) E.ab6)) (show Bc ((["leaf", "all"] : List Str).map L3.D.str) (if decide (p.ks.getD (iY p c) Str.empty = "leaf") = true then 1 else 0) = some (.str (if p.ks.getD (iY p c) Str.empty = "leaf" then "all" else "leaf")) from ?_)) rfl) (ck (j := 2) Q.t rfl rfl Q.b rfl) (aL E.eN) rfl rfl hk ?_
   . by_cases hz : p.ks.getD (iY p c) Str.empty = "leaf"
     . rw [asM hz, asM (asN hz)]; rfl
     . rw [asH hz, asH (by rw [asY hz]; decide)]; rfl
   rw [fH]
   refine cY Q.u (ck (j := 4) Q.t rfl rfl Q.b rfl) (aL E.eN) rfl rfl hs (ak (ak (ak (ak (ak (ak ⟨rfl, keepsP ?_⟩))))))
   rw [st4 (asI hp), fH]
   rfl
 refine b5 (bG (aL E.bM) Q.b).1 (fun hp => ?_) (fun hp5 => ?_)
 . refine cY (b9 (bD (bK (fM (ds := [.int (([0, (p.nm.length : Int)] : List Int).getD (c / 700 % 2).toNat 0), .int (([-1, (iY p c : Int)] : List Int).getD (c / 700 % 2).toNat 0)]) (ay (b9 (bD (bK (aK (cS (bL aj (bL (v_ E.bq.1) c7)) Q.i) (t2 := .lst ((([0, (p.nm.length : Int)] : List Int).map .int).map T.sh)) rfl)) Q.R (fS (bs := [0, (p.nm.length : Int)]) (k := c / 700 % 2) r0 (show c / 700 % 2 < 2 by omega))) rfl) (ay (b9 (bD (bK (aK (cS (bL Q.u (bL (v_ E.eN.1) c7)) Q.i) (t2 := .lst ((([-1, (iY p c : Int)] : List Int).map .int).map T.sh)) rfl)) Q.R (fS (bs := [-1, (iY p c : Int)]) (k := c / 700 % 2) r0 (show c / 700 % 2 < 2 by omega))) rfl) bH)) Q.i)) (ai (Lr E.ab7 (ai (qM (bD (cZ (p := [.ix 2]) (ck (j := 2) Q.t rfl rfl Q.b rfl) rfl rfl (bI _)) (aL E.eN) hks) (ai bx)).2) E.ab6)) (show Bc [L3.D.int (([0, (p.nm.length : Int)] : List Int).getD (c / 700 % 2).toNat 0), .int (([-1, (iY p c : Int)] : List Int).getD (c / 700 % 2).toNat 0)] (if decide (p.ks.getD (iY p c) Str.empty = "one") = true then 1 else 0) = some (.int Q.aR) from ?_)) rfl) (ck (j := 4) Q.t rfl rfl Q.b rfl) (aL E.eN) rfl rfl hs (ak (ak (ak (ak (ak (ak (ak ⟨rfl, keepsP ?_⟩)))))))
   . by_cases hz : p.ks.getD (iY p c) Str.empty = "one"
     . rw [asM hz, asM (asN hz)]; rfl
     . rw [asH hz, asH (by rw [asY hz]; decide)]; rfl
   rw [st5 (asI hp), fH]
   rfl
 refine b5 (bG (aL E.bM) Q.b).1 (fun hp => ?_) (fun hp6 => ?_)
 . refine R1 (iY p c) (ck (j := 1) Q.t rfl rfl Q.b rfl) rfl rfl (aL E.eN) bx rfl rfl rfl (by rw [dg]; omega) (by rw [dg]; omega) ?_
   rw [P8]
   have hv : ([(p.nm.length : Int) + 1, (p.nm.length : Int) - 1] : List Int).getD (c / 700 % 2).toNat 0 = ((if c / 700 % 2 = 0 then p.nm.length + 1 else p.nm.length - 1 : Nat) : Int) := by
     have hc : c / 700 % 2 = 0 \/ c / 700 % 2 = 1 := by omega
     rcases hc with z | z
     . rw [z, asM rfl]; show (p.nm.length : Int) + 1 = _; omega
     . rw [z, asH Q.c]; show (p.nm.length : Int) - 1 = _; omega
   refine cY (qN (ds := (dw (iY p c) ("more" : Str) p.nm).map .str) Q.aN (pD _) oV (oW (bD (bK (aK (cS (bL (bZ (aL E.bq) Q.b) (bL (eW (aL E.bq) Q.b) c7)) Q.i) (t2 := .lst ((([(p.nm.length : Int) + 1, (p.nm.length : Int) - 1] : List Int).map .int).map T.sh)) rfl)) Q.R (fS (bs := [(p.nm.length : Int) + 1, (p.nm.length : Int) - 1]) (k := c / 700 % 2) r0 (show c / 700 % 2 < 2 by omega))))) Q.t Q.b rfl rfl (j := 1) rfl (ak (ak (ak (ak (ak (ak (ak (ak ⟨rfl, keepsP ?_⟩))))))))
   rw [B8 hv, st6 (asI hp), ← auM]
   rfl
 refine b5 (bG (aL E.bM) Q.b).1 (fun hp => ?_) (fun hp7 => ?_)
 . have lE : ((p.es ++ [-1]).take (p.nm.length - 1)) = (p.es ++ [-1]).take (p.nm.length - 1) := rfl
   by_cases hr : c / 700 % 2 = 0
   . have h8 : xM (Rk p).length (3 + c / 700 % 2) = some 3 := by rw [hr]; rfl
     refine wm (p := [.ix 3]) (Rh := (p.es.map .int).map T.sh) (tl := (p.es.map .int).map T.sh) Q.as rfl rfl Q.u rfl rfl (by rw [dg]; omega) ?_
     rw [pI]
     show dY X CL b _ [some (.pin y (vv { p with es := p.es ++ [-1] })), some (.sh (.int c)), some (.sh (.int p.nm.length)), some (.sh (.int (iY p c : Nat))), some (.sh (.int (c % 10))), none] _
     refine b5 (bG Q.R Q.b).1 (fun hq => ?_) (fun hq => ak (ak (ak (ak (ak (ak (ak (ak (ak (ak ⟨rfl, keepsP ?_⟩))))))))))
     . refine cY (qN (ds := List.map L3.D.int (p.es ++ [-1])) (cZ (p := [.ix 3]) (u := T.lst ((List.map L3.D.int (p.es ++ [-1])).map T.sh)) Q.as rfl rfl (bI _)) (gf _) oV (oW (ai (eW (aL E.bq) Q.b)))) Q.t (ai (bZ Q.b Q.R)) rfl rfl h8 (ak (ak (ak (ak (ak (ak (ak (ak (ak (ak ⟨rfl, keepsP ?_⟩))))))))))
       rw [B8 (k := p.nm.length - 1) Q.a, st7 (asI hp), asM hr, ← auM]
       unfold F7
       rw [asM (asI hq)]
       rfl
     . rw [st7 (asI hp), asM hr]
       unfold F7
       rw [asH (asP hq)]
   . have hr1 : c / 700 % 2 = 1 := by omega
     have h8 : xM (Rk p).length (3 + c / 700 % 2) = some 4 := by rw [hr1]; rfl
     refine wm (p := [.ix 4]) (Rh := (p.ss.map .int).map T.sh) (tl := (p.ss.map .int).map T.sh) Q.as rfl rfl Q.u rfl rfl (by rw [dg]; omega) ?_
     rw [pI]
     show dY X CL b _ [some (.pin y (vv { p with ss := p.ss ++ [-1] })), some (.sh (.int c)), some (.sh (.int p.nm.length)), some (.sh (.int (iY p c : Nat))), some (.sh (.int (c % 10))), none] _
     refine b5 (bG Q.R Q.b).1 (fun hq => ?_) (fun hq => ak (ak (ak (ak (ak (ak (ak (ak (ak (ak ⟨rfl, keepsP ?_⟩))))))))))
     . refine cY (qN (ds := List.map L3.D.int (p.ss ++ [-1])) (cZ (p := [.ix 4]) (u := T.lst ((List.map L3.D.int (p.ss ++ [-1])).map T.sh)) Q.as rfl rfl (bI _)) (gf _) oV (oW (ai (eW (aL E.bq) Q.b)))) Q.t (ai (bZ Q.b Q.R)) rfl rfl h8 (ak (ak (ak (ak (ak (ak (ak (ak (ak (ak ⟨rfl, keepsP ?_⟩))))))))))
       rw [B8 (k := p.nm.length - 1) Q.a, st7 (asI hp), asH hr, ← auM]
       unfold F7
       rw [asM (asI hq)]
       rfl
     . rw [st7 (asI hp), asH hr]
       unfold F7
       rw [asH (asP hq)]
 refine b5 (bG (aL E.bM) Q.b).1 (fun hp => ?_) (fun hp8 => ?_)
 . refine pC E.g E.vK (fun j δ => ∃ o, δ = [some (.pin y (.lst (emp p j))), some (.sh (.int c)), some (.sh (.int p.nm.length)), some (.sh (.int (iY p c : Nat))), some (.sh (.int (c % 10))), o]) (DS E.dm Q.b Q.b Q.a E.di) ⟨_, rfl⟩ (fun j δ ⟨_, e⟩ => by subst e; exact asR rfl) ?turn ?fin
   case turn =>
     rintro j d δ hj ⟨o, rfl⟩
     obtain ⟨rfl, GO⟩ := mE hj
     have GO : j < 6 := GO
     refine cY (cS c7 (ata _)) Q.t (Bw (aL E.vK) (show L3.D.int (1 + (j : Int)) = .int ((j + 1 : Nat) : Int) by congr 1; omega)) rfl rfl (by rw [WQ]; exact oY Q.a) (ak ⟨_, rfl⟩)
   case fin =>
     rintro δ ⟨o, rfl⟩
     refine ak (ak (ak (ak (ak (ak (ak (ak (ak (ak ⟨rfl, keepsP ?_⟩)))))))))
     rw [st8 (asI hp)]
     rfl
 have e9 : c % 10 = 9 := by
   have a0 := asP Yh
   have a1 := asP ZT
   have a2 := asP hp2
   have a3 := asP hp3
   have a4 := asP hp4
   have a5 := asP hp5
   have a6 := asP hp6
   have a7 := asP hp7
   have a8 := asP hp8
   omega
 refine cY (aK (rK (p := fun _ => true) (g := fun d => T.sh (.str (("n" : Str) ++ (toString d.Hv : Str)))) (eX .nil Q.d) E.g.calm (gb E.dm Q.b Q.a E.di) (.inr rfl) (fun C s0 H0 f0 b' d hd => ?apd) (atJ (cR Q.c))) (t2 := .lst ((n14.map .str).map T.sh)) ?ape) Q.t Q.b rfl rfl (j := 1) rfl ?_
 case apd =>
   obtain ⟨i, hi, rfl⟩ := asW.mp hd
   have hi2 : i < 14 := atp.mp hi
   have ei : (0 + (i : Int)) = (i : Int) := at6 _
   have cl : ∀ i : Nat, i < 14 -> (toString (i : Int) : Str).length <= 2 /\ (i : Int).natAbs.log2 < 1920 := Q.f
   obtain ⟨sl, sg⟩ := cl i hi2
   exact ⟨rfl, fun _ => (tZ (ai bx) (ai (Ls E.PX (qb Q.d) Q.ae (by rw [ei]; exact sg))) ((by rw [ei, atP]; have h1 : ("n" : Str).length = 1 := Q.d; show ("n" : Str).length + (toString (i : Int) : Str).length <= _; omega)))⟩
 case ape =>
   have e : (((cW 0 14).filter fun _ => true).map fun d => (("n" : Str) ++ (toString d.Hv : Str))) = n14 := Q.f
   rw [← e, ath, ath]
   rfl
 refine cY (aK (ua (V0 := [.str "leaf"]) (bK (aed (ds := [.str "one"]) (bK (fM (iA (l := [("one" : Str)]) rfl) Q.i)) Q.b rfl Q.c Q.c Q.i)) (bK (fM (iA (l := [("leaf" : Str)]) rfl) Q.i)) rfl rfl Q.i) (t2 := .lst ((k14.map .str).map T.sh)) rfl) Q.t Q.b rfl rfl (j := 2) rfl ?_
 refine cY (aK (rK (p := fun _ => true) (g := fun d => T.sh (.int (d.Hv - 1))) (eX .nil Q.d) E.g.calm (gb E.dm Q.b Q.a E.di) (.inr rfl) (fun C s0 H0 f0 b' d hd => ?apf) (atJ (cR Q.c))) (t2 := .lst ((e14.map .int).map T.sh)) rfl) Q.t Q.b rfl rfl (j := 3) rfl ?_
 case apf =>
   obtain ⟨i, hi, rfl⟩ := asW.mp hd
   exact ⟨rfl, fun _ => (eW Q.ae Q.b)⟩
 refine cY (aK (ua (ds := ((List.range 13).map fun k : Nat => (k : Int) + 1).map .int) (V0 := [.int (-1)]) (bK (aK (rK (p := fun _ => true) (g := fun d => T.sh (.int (d.Hv + 1))) (eX .nil Q.d) E.g.calm (gb E.dm Q.b Q.a E.di) (.inr rfl) (fun C s0 H0 f0 b' d hd => ?apg) (atJ (cR Q.c))) (t2 := .lst ((((List.range 13).map fun k : Nat => (k : Int) + 1).map .int).map T.sh)) rfl)) (bK (fM (ay Q.u bH) Q.i)) (gf _) rfl Q.i) (t2 := .lst ((s14.map .int).map T.sh)) rfl) Q.t Q.b rfl rfl (j := 4) rfl (ak (ak (ak (ak (ak (ak (ak (ak (ak (ak ⟨rfl, keepsP ?_⟩))))))))))
 case apg =>
   obtain ⟨i, hi, rfl⟩ := asW.mp hd
   exact ⟨rfl, fun _ => (bZ Q.ae Q.b)⟩
 rw [st9 e9]
 rfl
theorem eo : pM (az qh) ([("parts", aF), ("cell", aF), ("many", aF), ("at", aF), ("way", aF), ("k", aF), ("len", aE), ("int", aE), ("range", aE)]) = true := Q.f
theorem yW : aY ["parts", "cell", "many", "at", "way", "k"] ["parts", "cell"] (az qh) := bz
abbrev uA : Stmt := top 57
abbrev uB : Type := Int × Str
def iC : uB -> List L3.D := fun (c, x) => [.int c, .str x]
def iD : uB -> Prop := fun (c, x) => x.length <= 2000
def iE : uB -> T := fun (c, x) => (.sh (.str (qd c x)) : T)
structure SN (X : Cx) (CL : Q.g) : Prop extends cN X where
 aH : Ln X 0 "cell"
 je : Ln X 1 "name"
 Io : Ln X 2 "some"
theorem SQ {b : Bx} (E : SN X CL) {cz : uB} (h : iD cz) :
   aN X CL b uA ["cell", "name", "some"] (iC cz) (iE cz) := by
 obtain ⟨c, x⟩ := cz
 dsimp only [aN, iD, iC, iE] at h ⊢
 obtain ⟨z, hz⟩ : ∃ z : Str, z = x := ⟨x, rfl⟩
 have h : x.length <= 2000 := h
 have c0 := as9 c (b := 12) Q.c
 have c1 := as1 c (b := 12) Q.c
 have l1 : ((" " : Str)).length = 1 := Q.f
 have l2 : (("_" : Str)).length = 1 := Q.f
 have s1 : x.length + (" " : Str).length <= sizeLine := by rw [atP]; omega
 have s2 : (" " : Str).length + x.length <= sizeLine := by rw [atP]; omega
 have s3 : x.length + ("_" : Str).length <= sizeLine := by rw [atP]; omega
 refine bf E.g E.Io (aK (cS (tl := ((L1 x).map .str).map T.sh) (ay bx (ay bx (ay bx (ay bx (ay bx (ay bx (ay (tZ (aL E.je) (ai bx) (s1)) (ay (tZ (ai bx) (aL E.je) (s2)) (ay bx (ay (tZ (aL E.je) (ai bx) (s3)) (ay bx (ay bx bH)))))))))))) Q.i) (t2 := .lst (((L1 x).map .str).map T.sh)) rfl) ?_
 exact bu (b9 (bD (vL E.Io.1) (ai Q.N) (gY Str.empty (l := L1 x) (k := c % 12) c0 (by have e4 : (L1 x).length = 12 := rfl; rw [e4]; omega))) rfl) rfl
theorem wM : pM (az uA) ([("cell", aF), ("name", aF), ("some", aF)]) = true := Q.f
theorem P9 : aY ["cell", "name", "some"] ["cell", "name"] (az uA) := bz
abbrev qj : Stmt := top 59
abbrev qk : Type := Addr × Pt × Int × Nat
def jM : qk -> List T := fun (y, p, c, B) => [.pin y (vv p), .sh (.int c)]
def g7 : qk -> List T := fun (y, p, c, B) => [.pin y (vv (jd p c)), .sh (.int c)]
def mJ : qk -> Prop := fun (y, p, c, B) => vz 1 B p /\ B <= 100
def jN : qk -> T := fun (y, p, c, B) => (.sh .non : T)
structure My (X : Cx) (CL : Q.g) : Prop extends cN X where
 aO : Ln X 0 "parts"
 aH : Ln X 1 "cell"
 bq : Ln X 2 "many"
 eN : Ln X 3 "at"
 cQ : Gl X "len"
 dU : Gl X "_law_bad_name"
 cP : X.mg "len" = none
 jO : Fc X CL "_law_bad_name" 1 2 iC iD iE
theorem Mz {b : Bx} (E : My X CL) (y p c B) (h : mJ (y, p, c, B)) :
   dY X CL b (dW qj) (wk ["parts", "cell", "many", "at"] (jM (y, p, c, B))) { nx := fun δ => jN (y, p, c, B) = .sh .non /\ Keeps δ (g7 (y, p, c, B)), rt := fun LK δ => LK = jN (y, p, c, B) /\ Keeps δ (g7 (y, p, c, B)) } := by
 dsimp only [mJ, jM, jN, g7] at h ⊢
 obtain ⟨hA, hB⟩ := h
 have hn := hA.pos
 have JV := hA.sh
 obtain ⟨i, hi⟩ : ∃ i : Nat, i = (c / 2 % (p.nm.length : Int)).toNat := ⟨_, rfl⟩
 obtain ⟨i1, i2⟩ : i < p.nm.length /\ (i : Int) = c / 2 % (p.nm.length : Int) := by rw [hi]; exact jH (c / 2) hn
 refine bf E.g E.bq (cT (n := p.nm.length) (asG ..) E.cP Q.aN E.cQ) ?_
 refine bf E.g E.eN (aK (aQ (ai Q.E) (aL E.bq) Q.a) (t2 := .sh (.int (i : Nat))) (by rw [i2])) ?_
 have hk : xM ((p.nm.map L3.D.str).map T.sh).length (i : Int) = some i := by rw [dg]; exact oY Q.a
 have Yu : Bc (p.nm.map L3.D.str) (i : Int) = some (.str (p.nm.getD i Str.empty)) := (gY Str.empty Q.a Q.a).trans (by rw [ato])
 have hlen : (p.nm.getD i Str.empty).length <= 2000 := asS (JV.n1 _ (oB i1)) Q.a
 refine cY (aK (c_ (c / 100, p.nm.getD i Str.empty) E.jO E.dU (ao (ai Q.E) (ao (bD Q.aN (aL E.eN) Yu) aG)) hlen rfl) (t2 := .sh (.str (qd (c / 100) (p.nm.getD i Str.empty)))) rfl) (ck (j := 1) Q.t rfl rfl Q.b rfl) (aL E.eN) rfl rfl hk ?_
 rw [fH]
 obtain ⟨l, hl⟩ : ∃ l, l = p.nm.set i (qd (c / 100) (p.nm.getD i Str.empty)) := ⟨_, rfl⟩
 rw [← hl]
 have hll : l.length = p.nm.length := by rw [hl, atc]
 have hk2 : xM ((l.map L3.D.str).map T.sh).length (i : Int) = some i := by rw [dg]; exact oY Q.a
 show dY X CL b _ [some (.pin y (vv { p with nm := l })), some (.sh (.int c)), some (.sh (.int p.nm.length)), some (.sh (.int (i : Nat)))] _
 have esp : jd p c = { p with nm := if c % 2 = 1 /\ 1 < p.nm.length then l.set i (l.getD (((i : Int) + 1 + c / 100 % ((p.nm.length : Int) - 1)) % (p.nm.length : Int)).toNat Str.empty) else l } := by
   rw [hl, hi]
   rfl
 refine b5 (t6 (sL (bG (ai Q.N) Q.b).1 (fun hb => (Br (OV (aL E.bq) Q.b).1)))) (fun hp => ?_) (fun hp => (ak (ak ⟨rfl, keepsP ?_⟩)))
 . rw [asZ] at hp
   have p1 := asI hp.1
   have p2 := asI hp.2
   have j0 := as9 ((i : Int) + 1 + c / 100 % ((p.nm.length : Int) - 1)) (b := (p.nm.length : Int)) Q.a
   have j1 := as1 ((i : Int) + 1 + c / 100 % ((p.nm.length : Int) - 1)) (b := (p.nm.length : Int)) Q.a
   refine cY (b9 (bD (ds := l.map L3.D.str) (cZ (p := [.ix 1]) (u := T.lst ((l.map L3.D.str).map T.sh)) (ck (j := 1) Q.t rfl rfl Q.b rfl) rfl rfl (bI _)) (ai (aQ (ai (bZ (ai (bZ (aL E.eN) Q.b)) (ai (aQ (ai Q.E) (ai (eW (aL E.bq) Q.b)) Q.a)))) (aL E.bq) Q.a)) (gY Str.empty j0 Q.a)) rfl) (ck (j := 1) Q.t rfl rfl Q.b rfl) (aL E.eN) rfl (tl := (l.map L3.D.str).map T.sh) rfl hk2 (ak (ak ⟨rfl, keepsP ?_⟩))
   rw [fH, esp, asM ⟨p1, by omega⟩]
   rfl
 . have hq : ¬ (c % 2 = 1 /\ 1 < p.nm.length) := fun ⟨z1, z2⟩ => by
     rw [asN z1, asN (show (1 : Int) < (p.nm.length : Int) by omega)] at hp
     exact absurd hp Q.c
   rw [esp, asH hq]
theorem i6 : pM (az qj) ([("parts", aF), ("cell", aF), ("many", aF), ("at", aF), ("len", aE), ("_law_bad_name", aE)]) = true := Q.f
theorem yX : aY ["parts", "cell", "many", "at"] ["parts", "cell"] (az qj) := bz
theorem MA {b : Bx} {fP : List Stmt} {D : gX} {δr : Q.n} {y a : Addr} (l : Q.C) (k : dY X CL b fP (some (.pin y (vv { p with bs := l })) :: δr) D) : dY X CL b fP (some (.pin y (.lst ((Rk p).set 0 (.pin a (.lst ((l.map kH).map T.sh)))))) :: δr) D := KD (i := 0) (u := .lst ((l.map kH).map T.sh)) 0 rfl rfl k
abbrev rR : Stmt := top 60
abbrev rS : Type := Addr × Pt × Int × Nat
def kP : rS -> List T := fun (y, p, c, B) => [.pin y (vv p), .sh (.int c)]
def i7 : rS -> List T := fun (y, p, c, B) => [.pin y (vv (rO p c)), .sh (.int c)]
def oZ : rS -> Prop := fun (y, p, c, B) => vz 2 B p /\ B <= 100
def kQ : rS -> T := fun (y, p, c, B) => (.sh .non : T)
structure Qa (X : Cx) (CL : Q.g) : Prop extends cN X where
 aO : Ln X 0 "parts"
 aH : Ln X 1 "cell"
 fN : Ln X 2 "boxes"
 eN : Ln X 3 "at"
 je : Ln X 4 "name"
 bM : Ln X 5 "way"
 cQ : Gl X "len"
 dU : Gl X "_law_bad_name"
 cP : X.mg "len" = none
 jO : Fc X CL "_law_bad_name" 1 2 iC iD iE
theorem Qc {b : Bx} (E : Qa X CL) (y p c B) (h : oZ (y, p, c, B)) :
   dY X CL b (dW rR) (wk ["parts", "cell", "boxes", "at", "name", "way"] (kP (y, p, c, B))) { nx := fun δ => kQ (y, p, c, B) = .sh .non /\ Keeps δ (i7 (y, p, c, B)), rt := fun LK δ => LK = kQ (y, p, c, B) /\ Keeps δ (i7 (y, p, c, B)) } := by
 dsimp only [oZ, kP, kQ, i7] at h ⊢
 obtain ⟨hA, hB⟩ := h
 have JV := hA.sh
 have hdp := aeI (hA.bxs Q.a)
 have b2 := JV.b2
 refine Wb E.g E.fN (ck (j := 0) Q.t rfl rfl Q.b rfl) rfl rfl (by exact asR rfl) fun a => ?_
 have e : RL (.lst (p.bs.map kH)) (.lst []) = decide (p.bs = []) := by
   cases p.bs with
   | nil => decide +kernel
   | cons q l => rw [asY (fun z => by cases z)]; rfl
 refine Kr (fun δ => δ = [some (.pin y (.lst ((Rk p).set 0 (.pin a (.lst (((L5 p.bs).map kH).map T.sh)))))), some (.sh (.int c)), some (.sh (.val (.ref a))), none, none, none]) (aaU E.u (cZ (p := [.ix 0]) (u := T.lst ((p.bs.map kH).map T.sh)) Q.am rfl rfl (bI _)) (bK (ds := []) (cS c7 (ata _))) hdp (pG [])).1 (fun hp => ?yes) (fun hp => ak ?no) ?_
 case yes =>
   have e0 : p.bs = [] := asI (e.symm.trans hp)
   refine wm (Rh := (p.bs.map kH).map T.sh) (tl := (p.bs.map kH).map T.sh) Q.am rfl rfl (aK (bE (ay bx (ay aj bH)) Q.i) (t2 := .sh (kH w05)) rfl) rfl rfl (by rw [dg]; omega) (ak ?_)
   rw [pI, e0]
   unfold L5
   rw [asM rfl]
   rfl
 case no =>
   unfold L5
   rw [asH (asP (e.symm.trans hp))]
   rfl
 rintro δ rfl
 have abF := Wj p.bs
 have esp : rO p c = { p with bs := Pz (L5 p.bs) c } := rfl
 have hl1 : ∀ q ∈ L5 p.bs, q.1.length <= 2000 := by
   unfold L5
   split
   . intro q hq; cases ati.mp hq; exact asS (show w05.1.length <= 10 by decide +kernel) Q.a
   . exact fun q hq => asS (JV.b1 q hq) Q.a
 have hl2 : (L5 p.bs).length <= 200 := by
   unfold L5
   split
   . show 1 <= 200; omega
   . omega
 rw [esp]
 generalize L5 p.bs = l at *
 obtain ⟨i, hi⟩ : ∃ i : Nat, i = (c / 4 % (l.length : Int)).toNat := ⟨_, rfl⟩
 obtain ⟨i1, i2⟩ : i < l.length /\ (i : Int) = c / 4 % (l.length : Int) := by rw [hi]; exact jH (c / 4) abF
 refine bf E.g E.eN (aK (aQ (ai Q.E) (ai (cT (n := l.length) (asG ..) E.cP (cZ (p := [.ix 0]) (u := T.lst ((l.map kH).map T.sh)) Q.am rfl rfl (bI _)) E.cQ)) Q.a) (t2 := .sh (.int (i : Nat))) (by rw [i2])) ?_
 have hbx : Bc (l.map kH) (i : Int) = some (kH (l.getD i w05)) := (gY w05 Q.a Q.a).trans (by rw [ato])
 have hk : xM ((l.map kH).map T.sh).length (i : Int) = some i := by rw [dg]; exact oY Q.a
 have Yw : Pz l c = if c % 4 = 0 then l.set i (qd (c / 40) (l.getD i w05).1, (l.getD i w05).2) else if c % 4 = 1 then dw i ((l.getD i w05).1, c / 40 % 7) l else if c % 4 = 2 then l.set i ((l.getD i w05).1, 10 ^ (30 : Int).toNat + c / 40 % 5) else l.set i ((l.getD i w05).1, 0 - 10 ^ (30 : Int).toNat - c / 40 % 5) := by
   rw [hi]
   rfl
 have hql : (l.getD i w05).1.length <= 2000 := hl1 _ (oB i1)
 generalize l.getD i w05 = q at *
 refine bf E.g E.je (aK (b9 (dN (bD (cZ (p := [.ix 0]) (u := T.lst ((l.map kH).map T.sh)) Q.am rfl rfl (bI _)) (aL E.eN) hbx) Q.b rfl) rfl) (t2 := .sh (.str q.1)) rfl) ?_
 refine bf E.g E.bM Q.N ?_
 refine b5 (bG (aL E.bM) Q.b).1 (fun hp => ?_) (fun Yh => ?_)
 . refine cY (aK (bE (ds := [.str (qd (c / 40) q.1), .int q.2]) (ay (aK (c_ (c / 40, q.1) E.jO E.dU (ao (ai Q.E) (ao (aL E.je) aG)) hql rfl) rfl) (ay (b9 (dN (bD (cZ (p := [.ix 0]) (u := T.lst ((l.map kH).map T.sh)) Q.am rfl rfl (bI _)) (aL E.eN) hbx) Q.b rfl) rfl) bH)) Q.i) (t2 := .sh (kH (qd (c / 40) q.1, q.2))) rfl) Q.am (aL E.eN) rfl (tl := (l.map kH).map T.sh) rfl hk ?_
   rw [fH]
   refine MA (a := a) (p := p) (l.set i (qd (c / 40) q.1, q.2)) (ak (ak ⟨rfl, keepsP ?_⟩))
   rw [Yw, asM (asI hp)]
 refine b5 (bG (aL E.bM) Q.b).1 (fun hp => ?_) (fun ZT => ?_)
 . refine R1 i (Rh := (l.map kH).map T.sh) (tl := (l.map kH).map T.sh) Q.am rfl rfl (aL E.eN) (aK (bE (ay (v_ E.je.1) (ay (aQ (ai Q.E) Q.b Q.c) bH)) Q.i) (t2 := .sh (kH (q.1, c / 40 % 7))) rfl) rfl rfl rfl (by rw [dg]; omega) (by rw [dg]; omega) ?_
   rw [P8]
   refine MA (a := a) (p := p) (dw i (q.1, c / 40 % 7) l) (ak (ak (ak ⟨rfl, keepsP ?_⟩)))
   rw [Yw, asH (asP Yh), asM (asI hp)]
 refine b5 (bG (aL E.bM) Q.b).1 (fun hp => ?_) (fun hp2 => ?_)
 . refine cY (aK (bE (ay (v_ E.je.1) (ay (bZ (ai Q.M) Q.R) bH)) Q.i) (t2 := .sh (kH (q.1, 10 ^ (30 : Int).toNat + c / 40 % 5))) rfl) Q.am (aL E.eN) rfl (tl := (l.map kH).map T.sh) rfl hk ?_
   rw [fH]
   refine MA (a := a) (p := p) (l.set i (q.1, 10 ^ (30 : Int).toNat + c / 40 % 5)) (ak (ak (ak (ak ⟨rfl, keepsP ?_⟩))))
   rw [Yw, asH (asP Yh), asH (asP ZT), asM (asI hp)]
 . refine cY (aK (bE (ay (v_ E.je.1) (ay (eW (ai (eW Q.b (ai Q.M))) Q.R) bH)) Q.i) (t2 := .sh (kH (q.1, 0 - 10 ^ (30 : Int).toNat - c / 40 % 5))) rfl) Q.am (aL E.eN) rfl (tl := (l.map kH).map T.sh) rfl hk ?_
   rw [fH]
   refine MA (a := a) (p := p) (l.set i (q.1, 0 - 10 ^ (30 : Int).toNat - c / 40 % 5)) (ak (ak (ak (ak ⟨rfl, keepsP ?_⟩))))
   rw [Yw, asH (asP Yh), asH (asP ZT), asH (asP hp2)]
theorem gu : pM (az rR) ([("parts", aF), ("cell", aF), ("boxes", aF), ("at", aF), ("name", aF), ("way", aF), ("len", aE), ("_law_bad_name", aE)]) = true := Q.f
theorem B9 : aY ["parts", "cell", "boxes", "at", "name", "way"] ["parts", "cell"] (az rR) := bz
abbrev uC : Stmt := top 61
abbrev uD : Type := Int × Nat
def mK : uD -> List L3.D := fun (c, n) => [.int c, .int n]
def mL : uD -> Prop := fun (c, n) => True
def mO : uD -> T := fun (c, n) => (.sh (.tup [.int (qQ c n).1, .int (qQ c n).2]) : T)
structure SR (X : Cx) (CL : Q.g) : Prop extends cN X where
 aH : Ln X 0 "cell"
 bq : Ln X 1 "many"
 MB : Ln X 2 "more"
 Iv : Ln X 3 "box"
theorem SV {b : Bx} (E : SR X CL) {cz : uD} (h : mL cz) :
   aN X CL b uC ["cell", "many", "more", "box"] (mK cz) (mO cz) := by
 obtain ⟨c, n⟩ := cz
 dsimp only [aN, mL, mK, mO] at h ⊢
 have c0 := as9 (c / 4) (b := 4) Q.c
 have c1 := as1 (c / 4) (b := 4) Q.c
 have d0 := as9 (c / 16) (b := 3) Q.c
 have d1 := as1 (c / 16) (b := 3) Q.c
 refine bf E.g E.MB (aK (b9 (bD (bK (aK (cS (bL aj (bL Q.M (bL (eW Q.b (ai Q.M)) (bL Q.M c7)))) Q.i) (t2 := .lst ((bmL.map .int).map T.sh)) rfl)) Q.R (fS (bs := bmL) (k := c / 4 % 4) c0 (by have e4 : bmL.length = 4 := rfl; rw [e4]; omega))) rfl) (t2 := .sh (.int (bmN c))) rfl) ?_
 refine bf E.g E.Iv (aK (b9 (bD (bK (aK (cS (bL (v_ E.bq.1) (bL Q.u (bL (bZ (aL E.bq) Q.b) c7))) Q.i) (t2 := .lst ((([(n : Int), -2, (n : Int) + 3] : List Int).map .int).map T.sh)) rfl)) Q.R (fS (bs := [(n : Int), -2, (n : Int) + 3]) (k := c / 16 % 3) d0 (show c / 16 % 3 < 3 by omega))) rfl) (t2 := .sh (.int (([(n : Int), -2, (n : Int) + 3] : List Int).getD (c / 16 % 3).toNat 0))) rfl) ?_
 refine b5 (pP (aL E.MB) Q.b).1 (fun hp => ?_) (fun hp => ak ?_)
 . have hb : ¬ bmN c = 0 := by simpa using hp
   refine bf E.g E.Iv (eW (ai (aQ (ai Q.E) (ai (bZ (aL E.bq) Q.b)) Q.a)) Q.b) (ak ?_)
   refine bu (bE (ds := [.int _, .int _]) (ay (v_ E.Iv.1) (ay (v_ E.MB.1) bH)) Q.i) ?_
   unfold qQ
   rw [asH hb]
 . have hb : bmN c = 0 := by simpa using hp
   refine bu (bE (ds := [.int _, .int _]) (ay (v_ E.Iv.1) (ay (v_ E.MB.1) bH)) Q.i) ?_
   unfold qQ
   rw [asM hb]
theorem rT : pM (az uC) ([("cell", aF), ("many", aF), ("more", aF), ("box", aF)]) = true := Q.f
theorem Qd : aY ["cell", "many", "more", "box"] ["cell", "many"] (az uC) := bz
abbrev uE : Stmt := top 62
abbrev uF : Type := Int × Nat
def ql : uF -> List L3.D := fun (c, n) => [.int c, .int n]
def qm : uF -> Prop := fun (c, n) => n <= 1000
def qo : uF -> T := fun (c, n) => (.sh (F6 (BK c n)) : T)
structure SW (X : Cx) (CL : Q.g) : Prop extends cN X where
 aH : Ln X 0 "cell"
 bq : Ln X 1 "many"
 bM : Ln X 2 "way"
 iU : Gl X "_law_bad_term"
 dU : Gl X "_law_bad_name"
 qU : Fc X CL "_law_bad_term" 1 2 mK mL mO
 jO : Fc X CL "_law_bad_name" 1 2 iC iD iE
theorem SX {b : Bx} (E : SW X CL) {cz : uF} (h : qm cz) :
   aN X CL b uE ["cell", "many", "way"] (ql cz) (qo cz) := by
 obtain ⟨c, n⟩ := cz
 dsimp only [aN, qm, ql, qo] at h ⊢
 have h : n <= 1000 := h
 have gl : ("go" : Str).length <= 2000 := Q.f
 have d0 := as9 (c / 6) (b := 5) Q.c
 have d1 := as1 (c / 6) (b := 5) Q.c
 have f0 := as9 (c / 6) (b := 3) Q.c
 have f1 := as1 (c / 6) (b := 3) Q.c
 refine bf E.g E.bM Q.N ?_
 refine bf E.g E.aH Q.E ?_
 refine b5 (bG (aL E.bM) Q.b).1 (fun hp => ?_) (fun hp => ak ?_)
 . refine bu (bE (ds := [.str (wrL.getD (c / 6 % 5).toNat Str.empty), .str "word", .tup [.int (-1), .int 0]]) (ay (b9 (bD (bK (fM (iA (l := wrL) rfl) Q.i)) (ai Q.N) (gY Str.empty (l := wrL) d0 (show c / 6 % 5 < 5 by omega))) rfl) (ay bx (ay (bE (ay Q.u (ay aj bH)) Q.i) bH))) Q.i) ?_
   unfold BK
   rw [asM (asI hp)]
   rfl
 have n5 := asP hp
 refine b5 (bG (aL E.bM) Q.b).1 (fun hp => ?_) (fun hp => ak ?_)
 . refine bu (bE (ds := [.str "put", .int (([(n : Int), -1, (n : Int) + 2] : List Int).getD (c / 6 % 3).toNat 0), .tup [.int (-1), .int 4]]) (ay bx (ay (b9 (bD (bK (aK (cS (bL (v_ E.bq.1) (bL Q.u (bL (bZ (aL E.bq) Q.b) c7))) Q.i) (t2 := .lst ((([(n : Int), -1, (n : Int) + 2] : List Int).map .int).map T.sh)) rfl)) (ai Q.N) (fS (bs := [(n : Int), -1, (n : Int) + 2]) (k := c / 6 % 3) f0 (show c / 6 % 3 < 3 by omega))) rfl) (ay (bE (ay Q.u (ay aj bH)) Q.i) bH))) Q.i) ?_
   unfold BK
   rw [asH n5, asM (asI hp)]
   rfl
 have n0 := asP hp
 refine b5 (t6 (sL (bG (aL E.bM) Q.b).1 (fun hb => (Br (OV (aL E.bq) Q.b).1)))) (fun hp => ?_) (fun hp => ak ?_)
 . rw [asZ] at hp
   have p1 := asI hp.1
   have p2 := asI hp.2
   refine bu (bE (ds := [.str "put", .int (c / 6 % (n : Int)), .tup [.int (qQ (c / 6 / (n : Int)) n).1, .int (qQ (c / 6 / (n : Int)) n).2]]) (ay bx (ay (aQ (aL E.aH) (aL E.bq) Q.a) (ay (aK (c_ (c / 6 / (n : Int), n) E.qU E.iU (ao (ai (aT (aL E.aH) (aL E.bq) (⟨by omega, by omega⟩))) (ao (aL E.bq) aG)) trivial rfl) rfl) bH))) Q.i) ?_
   unfold BK
   rw [asH n5, asH n0, asM ⟨p1, by omega⟩]
   rfl
 have n1 : ¬ (c % 6 = 1 /\ 0 < n) := fun ⟨z1, z2⟩ => by
   rw [asN z1, asN (show (0 : Int) < (n : Int) by omega)] at hp
   exact absurd hp Q.c
 refine b5 (bG (aL E.bM) Q.b).1 (fun hp => ?_) (fun hp => ak ?_)
 . refine bu (bE (ds := [.str "call", .str (qd (c / 6) "go")]) (ay bx (ay (aK (c_ (c / 6, ("go" : Str)) E.jO E.dU (ao (aL E.aH) (ao (ai bx) aG)) gl rfl) rfl) bH)) Q.i) ?_
   unfold BK
   rw [asH n5, asH n0, asH n1, asM (asI hp)]
   rfl
 have n2 := asP hp
 refine b5 (bG (aL E.bM) Q.b).1 (fun hp => ?_) (fun hp => ak ?_)
 . refine bu (bE (ds := [.str "say", .str (qd (c / 6) "go"), .tup [.int (-1), .int 0]]) (ay bx (ay (aK (c_ (c / 6, ("go" : Str)) E.jO E.dU (ao (aL E.aH) (ao (ai bx) aG)) gl rfl) rfl) (ay (bE (ay Q.u (ay aj bH)) Q.i) bH))) Q.i) ?_
   unfold BK
   rw [asH n5, asH n0, asH n1, asH n2, asM (asI hp)]
   rfl
 have n3 := asP hp
 refine bu (bE (ds := [.str "say", .str "word", .tup [.int (qQ (c / 6) n).1, .int (qQ (c / 6) n).2]]) (ay bx (ay bx (ay (aK (c_ (c / 6, n) E.qU E.iU (ao (aL E.aH) (ao (aL E.bq) aG)) trivial rfl) rfl) bH))) Q.i) ?_
 unfold BK
 rw [asH n5, asH n0, asH n1, asH n2, asH n3]
 rfl
theorem pJ : pM (az uE) ([("cell", aF), ("many", aF), ("way", aF), ("_law_bad_term", aE), ("_law_bad_name", aE)]) = true := Q.f
theorem Qe : aY ["cell", "many", "way"] ["cell", "many"] (az uE) := bz
theorem Ca {q : L3.D} {l : List L3.D} (h1 : D.cV l = true) (h2 : q.qa = true) : D.cV (dw k q l) = true := GD fun d hd => by
 rcases mh.mp hd with rfl | z
 . exact h2
 . exact Hw h1 d z
abbrev Cb : Stmt := top 63
abbrev Cd : Type := List L3.D × Int × L3.D
def qV : Cd -> List L3.D := fun (l, c, q) => [.tup l, .int c, q]
def jP : Cd -> Prop := fun (l, c, q) => D.cV l = true /\ q.qa = true /\ l.length <= 1000
def qW : Cd -> T := fun (l, c, q) => (.sh (.tup (dw (c % ((l.length : Int) + 1)).toNat q l)) : T)
structure ab8 (X : Cx) (CL : Q.g) : Prop extends cN X where
 Iw : Ln X 0 "row"
 aH : Ln X 1 "cell"
 afh : Ln X 2 "thing"
 fV : Gl X "list"
 cQ : Gl X "len"
 rP : Gl X "tuple"
 fW : X.mg "list" = none
 cP : X.mg "len" = none
 rQ : X.mg "tuple" = none
theorem ab9 {b : Bx} (E : ab8 X CL) {cz : Cd} (h : jP cz) :
   aN X CL b Cb ["row", "cell", "thing"] (qV cz) (qW cz) := by
 obtain ⟨l, c, q⟩ := cz
 dsimp only [aN, jP, qV, qW] at h ⊢
 obtain ⟨h1, h2, h3⟩ := h
 have c0 := as9 c (b := (l.length : Int) + 1) Q.a
 have c1 := as1 c (b := (l.length : Int) + 1) Q.a
 refine bf E.g E.Iw (Kq E.fW (v_ E.Iw.1) E.fV cK) ?_
 refine R1 (c % ((l.length : Int) + 1)).toNat (aW E.Iw.1 rfl) rfl rfl (ai (aQ (aL E.aH) (ai (bZ (ai (cT (rfl) E.cP (vL E.Iw.1) E.cQ)) Q.b)) Q.a)) (v_ E.afh.1) rfl rfl Q.a (by rw [asG]; omega) (by rw [asG]; omega) ?_
 generalize (c % ((l.length : Int) + 1)).toNat = k
 have e : T.F4 [] (T.lst (dw k (T.sh q) (l.map T.sh))) (T.lst (l.map T.sh)) = .lst ((dw k q l).map T.sh) := congrArg T.lst (oA T.sh k q l)
 rw [e]
 exact bu (tu E.rQ (vL E.Iw.1) (Ca h1 h2) E.rP) rfl
theorem qE : pM (az Cb) ([("row", aF), ("cell", aF), ("thing", aF), ("list", aE), ("len", aE), ("tuple", aE)]) = true := Q.f
theorem Yx : aY ["row", "cell", "thing"] ["row", "cell", "thing"] (az Cb) := bz
theorem WR {l : List α} : cutD l none (some (-2)) = l.take (l.length - 2) := by
 unfold cutD
 have e1 : HT.DP l.length 0 none = 0 := rfl
 have e2 : HT.DP l.length l.length (some (-2)) = l.length - 2 := by
   unfold HT.DP
   simp
   omega
 rw [e1, e2]
 rfl
theorem afi {ws : List p8} (h : ws ≠ []) : Bc (ws.map jG) (-1) = some (jG (ws.getLast h)) := by
 have hl := auu.mpr h
 have e : xM (ws.map jG).length (-1) = some (ws.length - 1) := by
   unfold xM
   rw [asG, asH Q.c, asM Q.a]
   congr 1
   omega
 unfold Bc
 rw [e]
 show (ws.map jG)[ws.length - 1]? = _
 rw [atf, as2 Q.a, List.getLast_eq_getElem]
 rfl
abbrev qp : Stmt := top 64
abbrev qq : Type := Addr × Pt × Int × Nat
def jQ : qq -> List T := fun (y, p, c, B) => [.pin y (vv p), .sh (.int c)]
def g8 : qq -> List T := fun (y, p, c, B) => [.pin y (vv (lz p c)), .sh (.int c)]
def mP : qq -> Prop := fun (y, p, c, B) => vz 3 B p /\ B <= 100
def jR : qq -> T := fun (y, p, c, B) => (.sh .non : T)
structure MC (X : Cx) (CL : Q.g) : Prop extends cN X where
 aO : Ln X 0 "parts"
 aH : Ln X 1 "cell"
 jf : Ln X 2 "deed"
 bM : Ln X 3 "way"
 eN : Ln X 4 "at"
 wL : Ln X 5 "source"
 F8 : Gl X "_law_bad_deed"
 cQ : Gl X "len"
 pe : Gl X "_law_put_in"
 SY : Fc X CL "_law_bad_deed" 2 2 ql qm qo
 cP : X.mg "len" = none
 Ce : Fc X CL "_law_put_in" 1 3 qV jP qW
theorem MD {b : Bx} (E : MC X CL) (y p c B) (h : mP (y, p, c, B)) :
   dY X CL b (dW qp) (wk ["parts", "cell", "deed", "way", "at", "source"] (jQ (y, p, c, B))) { nx := fun δ => jR (y, p, c, B) = .sh .non /\ Keeps δ (g8 (y, p, c, B)), rt := fun LK δ => LK = jR (y, p, c, B) /\ Keeps δ (g8 (y, p, c, B)) } := by
 dsimp only [mP, jQ, jR, g8] at h ⊢
 obtain ⟨hA, hB⟩ := h
 have hn := hA.pos
 have JV := hA.sh
 obtain ⟨li, lo⟩ := hA.li Q.a
 have b2 := JV.b2
 have bi := JV.i1
 have bo := JV.o1
 have bw := JV.w1
 obtain ⟨d, hd⟩ : ∃ d, d = BK (c / 1000) p.bs.length := ⟨_, rfl⟩
 obtain ⟨i, hi⟩ : ∃ i : Nat, i = (c / 4 % (p.is.length : Int)).toNat := ⟨_, rfl⟩
 obtain ⟨i1, i2⟩ : i < p.is.length /\ (i : Int) = c / 4 % (p.is.length : Int) := by rw [hi]; exact jH (c / 4) Q.a
 have JT : lz p c = if c % 4 = 0 then { p with is := Sd (c / 300) d p.is i } else if c % 4 = 1 then { p with os := Sd (c / 300) d p.os i } else if c % 4 = 2 then (if c / 4 % 2 = 0 then { p with is := Eb c p.is } else { p with os := Eb c p.os }) else { p with ws := p.ws ++ [⟨Ih p.ws, "go", [], [.call "go", d], -1, "new"⟩] } := by
   rw [hd, hi]
   rfl
 refine bf E.g E.jf (aK (c_ (c / 1000, p.bs.length) E.SY E.F8 (ao (ai Q.E) (ao (ai (cT (n := p.bs.length) (asG ..) E.cP (cZ (p := [.ix 0]) (ck (j := 0) Q.t rfl rfl Q.b rfl) rfl rfl (bI _)) E.cQ)) aG)) (show p.bs.length <= 1000 by omega) (by show (F6 _).qa = true; exact oX _)) (t2 := .sh (F6 d)) (by rw [hd]; rfl)) ?_
 refine bf E.g E.bM Q.N ?_
 refine bf E.g E.eN (aK (aQ (ai Q.E) (ai (cT (n := p.is.length) (asG ..) E.cP (cZ (p := [.ix 5]) (ck (j := 5) Q.t rfl rfl Q.b rfl) rfl rfl (bI _)) E.cQ)) Q.a) (t2 := .sh (.int (i : Nat))) (by rw [i2])) ?_
 refine b5 (Kp (aL E.bM) Q.b).1 (fun hp => ?_) (fun hp => ?_)
 . have hp := asI hp
   by_cases hq0 : c % 4 = 0
   . have hq : decide (c % 4 = 0) = true := asN hq0
     have h8 : xM (Rk p).length (5 + c % 4) = some 5 := by rw [asI hq]; rfl
     have ajF : Bc (p.is.map bW) (i : Int) = some (bW (p.is.getD i [])) := (gY [] Q.a Q.a).trans (by rw [ato])
     have hk : xM ((p.is.map bW).map T.sh).length (i : Int) = some i := by rw [dg]; exact oY Q.a
     have hrl : (p.is.getD i []).length <= 1000 := asS (JV.d1 _ (asL _ <| asL _ (oB Q.a))).1 Q.a
     refine cY (aK (c_ ((p.is.getD i []).map F6, c / 300, F6 d) E.Ce E.pe (ao (Bw (bD (ds := p.is.map bW) (cZ (p := [.ix 5]) (u := T.lst ((p.is.map bW).map T.sh)) (ck Q.t rfl rfl (ai (bZ Q.b (aL E.bM))) h8) rfl rfl (bI _)) (aL E.eN) ajF) rfl) (ao (ai Q.E) (ao (aL E.jf) aG))) (by dsimp only [jP]; exact ⟨bS oX _, oX _, by rw [List.length_map]; exact hrl⟩) (by show D.cV (dw _ _ _) = true; exact Ca (bS oX _) (oX _))) (t2 := .sh (bW (dw (c / 300 % (((p.is.getD i []).length : Int) + 1)).toNat d (p.is.getD i [])))) ?apj) (ck (p := []) (j := 5) Q.t rfl rfl (ai (bZ Q.b (aL E.bM))) h8) (aL E.eN) rfl (tl := (p.is.map bW).map T.sh) rfl hk ?_
     case apj =>
       show T.sh (.tup (dw (c / 300 % ((((p.is.getD i []).map F6).length : Int) + 1)).toNat (F6 d) ((p.is.getD i []).map F6))) = _
       rw [asG, oA]
       rfl
     rw [fH]
     refine (ak (ak ⟨rfl, keepsP ?_⟩))
     rw [JT, asM (asI hq)]
     rfl
   have hq : decide (c % 4 = 1) = true := asN Q.a
   have h8 : xM (Rk p).length (5 + c % 4) = some 6 := by rw [asI hq]; rfl
   have ajF : Bc (p.os.map bW) (i : Int) = some (bW (p.os.getD i [])) := (gY [] Q.a Q.a).trans (by rw [ato])
   have hk : xM ((p.os.map bW).map T.sh).length (i : Int) = some i := by rw [dg]; exact oY Q.a
   have hrl : (p.os.getD i []).length <= 1000 := asS (JV.d1 _ (asL _ <| asJ _ (oB Q.a))).1 Q.a
   refine cY (aK (c_ ((p.os.getD i []).map F6, c / 300, F6 d) E.Ce E.pe (ao (Bw (bD (ds := p.os.map bW) (cZ (p := [.ix 6]) (u := T.lst ((p.os.map bW).map T.sh)) (ck Q.t rfl rfl (ai (bZ Q.b (aL E.bM))) h8) rfl rfl (bI _)) (aL E.eN) ajF) rfl) (ao (ai Q.E) (ao (aL E.jf) aG))) (by dsimp only [jP]; exact ⟨bS oX _, oX _, by rw [List.length_map]; exact hrl⟩) (by show D.cV (dw _ _ _) = true; exact Ca (bS oX _) (oX _))) (t2 := .sh (bW (dw (c / 300 % (((p.os.getD i []).length : Int) + 1)).toNat d (p.os.getD i [])))) ?apk) (ck (p := []) (j := 6) Q.t rfl rfl (ai (bZ Q.b (aL E.bM))) h8) (aL E.eN) rfl (tl := (p.os.map bW).map T.sh) rfl hk ?_
   case apk =>
     show T.sh (.tup (dw (c / 300 % ((((p.os.getD i []).map F6).length : Int) + 1)).toNat (F6 d) ((p.os.getD i []).map F6))) = _
     rw [asG, oA]
     rfl
   rw [fH]
   refine (ak (ak ⟨rfl, keepsP ?_⟩))
   rw [JT, asH (by rw [asI hq]; decide), asM (asI hq)]
   rfl
 have hp := asP hp
 have n0 : ¬ c % 4 = 0 := by omega
 have n1 : ¬ c % 4 = 1 := by omega
 refine b5 (bG (aL E.bM) Q.b).1 (fun hp2 => ?_) (fun hp2 => ?_)
 . have n2 := asI hp2
   by_cases hr : c / 4 % 2 = 0
   . skip
     have h8 : xM (Rk p).length (5 + c / 4 % 2) = some 5 := by rw [hr]; rfl
     refine wm (p := [.ix 5]) (Rh := (p.is.map bW).map T.sh) (tl := (p.is.map bW).map T.sh) Q.as rfl rfl (aK (bE (ds := []) bH Q.i) (t2 := .sh (bW [])) rfl) rfl rfl (by rw [dg]; omega) ?_
     rw [pI]
     show dY X CL b _ [some (.pin y (vv { p with is := p.is ++ [[]] })), some (.sh (.int c)), some (.sh (F6 d)), some (.sh (.int (c % 4))), some (.sh (.int (i : Nat))), none] _
     refine b5 (bG Q.R Q.b).1 (fun hz => ?_) (fun hz => (ak (ak (ak (ak ⟨rfl, keepsP ?_⟩)))))
     . refine cY (qN (ds := (p.is ++ [[]]).map bW) (cZ (p := [.ix 5]) (u := T.lst (((p.is ++ [[]]).map bW).map T.sh)) Q.as rfl rfl (bI _)) (bS iS _) oV (oW (ai Q.u))) Q.t (ai (bZ Q.b Q.R)) rfl rfl h8 (ak (ak (ak (ak ⟨rfl, keepsP ?_⟩))))
       rw [WR, asG, ← auM, JT, asH n0, asH n1, asM n2, asM hr]
       unfold Eb
       rw [asM (asI hz)]
       rfl
     . rw [JT, asH n0, asH n1, asM n2, asM hr]
       unfold Eb
       rw [asH (asP hz)]
   have hr : c / 4 % 2 = 1 := by omega
   have h8 : xM (Rk p).length (5 + c / 4 % 2) = some 6 := by rw [hr]; rfl
   refine wm (p := [.ix 6]) (Rh := (p.os.map bW).map T.sh) (tl := (p.os.map bW).map T.sh) Q.as rfl rfl (aK (bE (ds := []) bH Q.i) (t2 := .sh (bW [])) rfl) rfl rfl (by rw [dg]; omega) ?_
   rw [pI]
   show dY X CL b _ [some (.pin y (vv { p with os := p.os ++ [[]] })), some (.sh (.int c)), some (.sh (F6 d)), some (.sh (.int (c % 4))), some (.sh (.int (i : Nat))), none] _
   refine b5 (bG Q.R Q.b).1 (fun hz => ?_) (fun hz => (ak (ak (ak (ak ⟨rfl, keepsP ?_⟩)))))
   . refine cY (qN (ds := (p.os ++ [[]]).map bW) (cZ (p := [.ix 6]) (u := T.lst (((p.os ++ [[]]).map bW).map T.sh)) Q.as rfl rfl (bI _)) (bS iS _) oV (oW (ai Q.u))) Q.t (ai (bZ Q.b Q.R)) rfl rfl h8 (ak (ak (ak (ak ⟨rfl, keepsP ?_⟩))))
     rw [WR, asG, ← auM, JT, asH n0, asH n1, asM n2, asH (by rw [hr]; decide)]
     unfold Eb
     rw [asM (asI hz)]
     rfl
   . rw [JT, asH n0, asH n1, asM n2, asH (by rw [hr]; decide)]
     unfold Eb
     rw [asH (asP hz)]
 have n2 := asP hp2
 refine bf E.g E.wL aj ?_
 have e : RL (.lst (p.ws.map jG)) (.lst []) = decide (p.ws = []) := by
   cases p.ws with
   | nil => decide +kernel
   | cons q l => rw [asY (fun z => by cases z)]; rfl
 refine Kr (fun δ => δ = [some (.pin y (vv p)), some (.sh (.int c)), some (.sh (F6 d)), some (.sh (.int (c % 4))), some (.sh (.int (i : Nat))), some (.sh (.int (Ih p.ws)))]) (Lq E.u (d2 := .lst []) Q.aU (bK (ds := []) (cS c7 (ata _))) (StW.deps (hA.stw Q.a)) (pG [])).1 (fun hz => ?yes) (fun hz => ak ?no) ?_
 case yes =>
   have ZR : p.ws ≠ [] := asP (e.symm.trans (ZX hz))
   refine bf E.g E.wL (aK (b9 (dN (Bw (bD (ds := p.ws.map jG) Q.aU (ai Q.u) (afi ZR)) rfl) Q.b rfl) rfl) (t2 := .sh (.int (Ih p.ws))) ?leq) (ak rfl)
   case leq =>
     unfold Ih
     rw [List.getLast?_eq_some_getLast ZR]
 case no =>
   have ZR : p.ws = [] := asI (e.symm.trans (nbT hz))
   rw [ZR]
   rfl
 rintro δ rfl
 refine wm (p := [.ix 7]) (Rh := (p.ws.map jG).map T.sh) (tl := (p.ws.map jG).map T.sh) (ck (j := 7) Q.t rfl rfl Q.b rfl) rfl rfl (aK (bE (ds := [.int (Ih p.ws), .str "go", .tup [], .tup [.tup [.str "call", .str "go"], F6 d], .int (-1), .str "new"]) (ay (v_ E.wL.1) (ay bx (ay (bE (ds := []) bH Q.i) (ay (bE (ds := [.tup [.str "call", .str "go"], F6 d]) (ay (bE (ay bx (ay bx bH)) Q.i) (ay (v_ E.jf.1) bH)) Q.i) (ay Q.u (ay bx bH)))))) Q.i) (t2 := .sh (jG ⟨Ih p.ws, "go", [], [.call "go", d], -1, "new"⟩)) rfl) rfl rfl (by rw [dg]; omega) (ak (ak (ak ⟨rfl, keepsP ?_⟩)))
 rw [pI, JT, asH n0, asH n1, asH n2]
 rfl
theorem ez : pM (az qp) ([("parts", aF), ("cell", aF), ("deed", aF), ("way", aF), ("at", aF), ("source", aF), ("_law_bad_deed", aE), ("len", aE), ("_law_put_in", aE)]) = true := Q.f
theorem yZ : aY ["parts", "cell", "deed", "way", "at", "source"] ["parts", "cell"] (az qp) := bz
abbrev ye : Stmt := top 65
abbrev yf : Type := Int × Nat × Nat
def rV : yf -> List L3.D := fun (c, m, n) => [.int c, .int m, .int n]
def rW : yf -> Prop := fun (c, m, n) => True
def rX : yf -> T := fun (c, m, n) => (.sh (yL (zx c m n)) : T)
structure Yy (X : Cx) (CL : Q.g) : Prop extends cN X where
 aH : Ln X 0 "cell"
 bq : Ln X 1 "many"
 eS : Ln X 2 "moods"
 bM : Ln X 3 "way"
 iU : Gl X "_law_bad_term"
 qU : Fc X CL "_law_bad_term" 1 2 mK mL mO
theorem Yz {b : Bx} (E : Yy X CL) {cz : yf} (h : rW cz) :
   aN X CL b ye ["cell", "many", "moods", "way"] (rV cz) (rX cz) := by
 obtain ⟨c, m, n⟩ := cz
 dsimp only [aN, rW, rV, rX] at h ⊢
 have a0 := as9 (c / 4) (b := 2) Q.c
 have a1 := as1 (c / 4) (b := 2) Q.c
 have d0 := as9 (c / 4) (b := 4) Q.c
 have d1 := as1 (c / 4) (b := 4) Q.c
 have f0 := as9 (c / 4 / 2) (b := 2) Q.c
 have f1 := as1 (c / 4 / 2) (b := 2) Q.c
 refine bf E.g E.bM Q.N ?_
 refine bf E.g E.aH Q.E ?_
 refine b5 (bG (aL E.bM) Q.b).1 (fun hp => ?_) (fun hp => ak ?_)
 . refine bu (bE (ds := [.str ((["open", "shut"] : List Str).getD (c / 4 % 2).toNat Str.empty), .int (([(n : Int), -1] : List Int).getD (c / 4 / 2 % 2).toNat 0)]) (ay (b9 (bD (bK (fM (iA (l := (["open", "shut"] : List Str)) rfl) Q.i)) (ai Q.N) (gY Str.empty (l := (["open", "shut"] : List Str)) a0 (show c / 4 % 2 < 2 by omega))) rfl) (ay (b9 (bD (bK (aK (cS (bL (v_ E.eS.1) (bL Q.u c7)) Q.i) (t2 := .lst ((([(n : Int), -1] : List Int).map .int).map T.sh)) rfl)) Q.R (fS (bs := [(n : Int), -1]) (k := c / 4 / 2 % 2) f0 (show c / 4 / 2 % 2 < 2 by omega))) rfl) bH)) Q.i) ?_
   unfold zx
   rw [asM (asI hp)]
   rfl
 have n0 := asP hp
 refine b5 (bG (aL E.bM) Q.b).1 (fun hp => ?_) (fun hp => ak ?_)
 . refine bu (bE (ds := [.str (baL.getD (c / 4 % 4).toNat Str.empty), .tup [.int (-1), .int 1], .tup [.int (-1), .int 2]]) (ay (b9 (bD (bK (fM (iA (l := baL) rfl) Q.i)) (ai Q.N) (gY Str.empty (l := baL) d0 (show c / 4 % 4 < 4 by omega))) rfl) (ay (bE (ay Q.u (ay aj bH)) Q.i) (ay (bE (ay Q.u (ay aj bH)) Q.i) bH))) Q.i) ?_
   unfold zx
   rw [asH n0, asM (asI hp)]
   rfl
 have n1 := asP hp
 refine b5 (bG (aL E.bM) Q.b).1 (fun hp => ?_) (fun hp => ak ?_)
 . refine bu (bE (ds := [.str "<=", .tup [.int (qQ (c / 4) m).1, .int (qQ (c / 4) m).2], .tup [.int (-1), .int 0]]) (ay bx (ay (aK (c_ (c / 4, m) E.qU E.iU (ao (aL E.aH) (ao (aL E.bq) aG)) trivial rfl) rfl) (ay (bE (ay Q.u (ay aj bH)) Q.i) bH))) Q.i) ?_
   unfold zx
   rw [asH n0, asH n1, asM (asI hp)]
   rfl
 have n2 := asP hp
 refine bu (bE (ds := [.str "!=", .tup [.int (-1), .int 0], .tup [.int (qQ (c / 4) m).1, .int (qQ (c / 4) m).2]]) (ay bx (ay (bE (ay Q.u (ay aj bH)) Q.i) (ay (aK (c_ (c / 4, m) E.qU E.iU (ao (aL E.aH) (ao (aL E.bq) aG)) trivial rfl) rfl) bH))) Q.i) ?_
 unfold zx
 rw [asH n0, asH n1, asH n2]
 rfl
theorem qX : pM (az ye) ([("cell", aF), ("many", aF), ("moods", aF), ("way", aF), ("_law_bad_term", aE)]) = true := Q.f
theorem S6 : aY ["cell", "many", "moods", "way"] ["cell", "many", "moods"] (az ye) := bz
def wyL (w : p8) : List L3.D := [.int w.src, .str w.sign, .tup (w.al.map yL), bW w.dl, .int w.tgt, .str w.mode]
theorem Qf (w : p8) : D.cV (wyL w) = true := GD fun d hd => by
 simp only [wyL, asX, as8, auS] at hd
 rcases hd with rfl | rfl | rfl | rfl | rfl | rfl
 . rfl
 . rfl
 . exact tE w.al
 . exact iS w.dl
 . rfl
 . rfl
theorem ajH {b : Bx} {fP : List Stmt} {D : gX} {δr : Q.n} {y a : Addr} (l : List p8) (k : dY X CL b fP (some (.pin y (vv { p with ws := l })) :: δr) D) : dY X CL b fP (some (.pin y (.lst ((Rk p).set 7 (.pin a (.lst ((l.map jG).map T.sh)))))) :: δr) D := KD (i := 0) (u := .lst ((l.map jG).map T.sh)) 7 rfl rfl k
theorem S7 (q : ZU) : (yL q).qa = true := by cases q <;> rfl
abbrev rY : Stmt := top 66
abbrev rZ : Type := Addr × Pt × Int × Nat
def kR : rZ -> List T := fun (y, p, c, B) => [.pin y (vv p), .sh (.int c)]
def i9 : rZ -> List T := fun (y, p, c, B) => [.pin y (vv (kD p c)), .sh (.int c)]
def pA : rZ -> Prop := fun (y, p, c, B) => vz 4 B p /\ B <= 100
def kT : rZ -> T := fun (y, p, c, B) => (.sh .non : T)
structure Qg (X : Cx) (CL : Q.g) : Prop extends cN X where
 aO : Ln X 0 "parts"
 aH : Ln X 1 "cell"
 eS : Ln X 2 "moods"
 qT : Ln X 3 "ways"
 eN : Ln X 4 "at"
 bM : Ln X 5 "way"
 dD : Ln X 6 "kind"
 cQ : Gl X "len"
 fV : Gl X "list"
 dU : Gl X "_law_bad_name"
 pe : Gl X "_law_put_in"
 Iz : Gl X "_law_bad_ask"
 rP : Gl X "tuple"
 cP : X.mg "len" = none
 fW : X.mg "list" = none
 jO : Fc X CL "_law_bad_name" 1 2 iC iD iE
 Ce : Fc X CL "_law_put_in" 1 3 qV jP qW
 YB : Fc X CL "_law_bad_ask" 2 3 rV rW rX
 rQ : X.mg "tuple" = none
theorem Qh {b : Bx} (E : Qg X CL) (y p c B) (h : pA (y, p, c, B)) :
   dY X CL b (dW rY) (wk ["parts", "cell", "moods", "ways", "at", "way", "kind"] (kR (y, p, c, B))) { nx := fun δ => kT (y, p, c, B) = .sh .non /\ Keeps δ (i9 (y, p, c, B)), rt := fun LK δ => LK = kT (y, p, c, B) /\ Keeps δ (i9 (y, p, c, B)) } := by
 dsimp only [pA, kR, kT, i9] at h ⊢
 obtain ⟨hA, hB⟩ := h
 have JV := hA.sh
 have bw := JV.w1
 have gl : ("go" : Str).length <= 2000 := Q.f
 refine bf E.g E.eS (cT (n := p.nm.length) (asG ..) E.cP Q.aN E.cQ) ?_
 have e : RL (.lst (p.ws.map jG)) (.lst []) = decide (p.ws = []) := by
   cases p.ws with
   | nil => decide +kernel
   | cons q l => rw [asY (fun z => by cases z)]; rfl
 refine Kr (fun δ => δ = [some (.pin y (vv { p with ws := FQ p.ws })), some (.sh (.int c)), some (.sh (.int p.nm.length)), none, none, none, none]) (aaU E.u (d2 := .lst []) Q.aU (bK (ds := []) (cS c7 (ata _))) (StW.deps (hA.stw Q.a)) (pG [])).1 (fun hz => ?yes) (fun hz => ak ?no) ?_
 case yes =>
   have e0 : p.ws = [] := asI (e.symm.trans hz)
   refine wm (p := [.ix 7]) (Rh := (p.ws.map jG).map T.sh) (tl := (p.ws.map jG).map T.sh) (ck (j := 7) Q.t rfl rfl Q.b rfl) rfl rfl (aK (bE (ds := [.int 0, .str "go", .tup [], .tup [], .int 0, .str "new"]) (ay aj (ay bx (ay (bE (ds := []) bH Q.i) (ay (bE (ds := []) bH Q.i) (ay aj (ay bx bH)))))) Q.i) (t2 := .sh (jG Ym)) rfl) rfl rfl (by rw [dg]; omega) (ak ?_)
   rw [pI, e0]
   unfold FQ
   rw [asM rfl]
   rfl
 case no =>
   unfold FQ
   rw [asH (asP (e.symm.trans hz))]
   rfl
 rintro δ rfl
 have abF := Wk p.ws
 have esp : kD p c = { p with ws := Ec (FQ p.ws) c p.bs.length p.nm.length } := rfl
 have hal : ∀ w ∈ FQ p.ws, w.al.length <= 200 := by
   unfold FQ
   split
   . intro w hw; cases ati.mp hw; exact ata _
   . exact fun w hw => asS (JV.w2 w hw).2 Q.a
 have hl2 : (FQ p.ws).length <= 200 := by
   unfold FQ
   split
   . show 1 <= 200; omega
   . omega
 rw [esp]
 generalize FQ p.ws = l at *
 refine Wb E.g E.qT (tl2 := (l.map jG).map T.sh) (ck (j := 7) Q.t rfl rfl Q.b rfl) rfl rfl (by exact asR rfl) fun a => ?_
 obtain ⟨i, hi⟩ : ∃ i : Nat, i = (c / 9 % (l.length : Int)).toNat := ⟨_, rfl⟩
 obtain ⟨i1, i2⟩ : i < l.length /\ (i : Int) = c / 9 % (l.length : Int) := by rw [hi]; exact jH (c / 9) abF
 show dY X CL b _ [some (.pin y (.lst ((Rk p).set 7 (.pin a (.lst ((l.map jG).map T.sh)))))), some (.sh (.int c)), some (.sh (.int p.nm.length)), some (.sh (.val (.ref a))), none, none, none] _
 refine bf E.g E.eN (aK (aQ (ai Q.E) (ai (cT (n := l.length) (asG ..) E.cP (cZ (p := [.ix 7]) (u := T.lst ((l.map jG).map T.sh)) (gZ (i := 0) (j := 7) E.qT.1 rfl rfl rfl) rfl rfl (bI _)) E.cQ)) Q.a) (t2 := .sh (.int (i : Nat))) (by rw [i2])) ?_
 have hat : Bc (l.map jG) (i : Int) = some (jG (l.getD i Ym)) := (gY Ym Q.a Q.a).trans (by rw [ato])
 have Yw : Ec l c p.bs.length p.nm.length = (if c % 9 = 8 then l ++ [w01] else l).set i (uo (c / 1000) (c % 9) p.bs.length p.nm.length (l.getD i Ym)) := by
   rw [hi]
   rfl
 have hqa : (l.getD i Ym).al.length <= 200 := hal _ (oB i1)
 generalize l.getD i Ym = w at *
 have k0 := as9 c (b := 9) Q.c
 have k1 := as1 c (b := 9) Q.c
 refine bf E.g E.bM (aK (Kq E.fW (ds := wyL w) (b9 (bD (ds := l.map jG) (cZ (p := [.ix 7]) (u := T.lst ((l.map jG).map T.sh)) (gZ (i := 0) (j := 7) E.qT.1 rfl rfl rfl) rfl rfl (bI _)) (aL E.eN) hat) (show D.cV (wyL w) = true from Qf w)) E.fV cK) (t2 := .lst ((wyL w).map T.sh)) rfl) ?_
 refine bf E.g E.dD Q.N ?_
 refine bf E.g E.aH Q.E ?_
 obtain ⟨C, hC⟩ : ∃ C : Int, C = c / 1000 := ⟨_, rfl⟩
 have c20 := as9 (c / 1000) (b := 2) Q.c
 have c21 := as1 (c / 1000) (b := 2) Q.c
 have c30 := as9 (c / 1000) (b := 3) Q.c
 have c31 := as1 (c / 1000) (b := 3) Q.c
 refine Kr (fun δ => δ = [some (.pin y (.lst ((Rk p).set 7 (.pin a (.lst (((if c % 9 = 8 then l ++ [w01] else l).map jG).map T.sh)))))), some (.sh (.int (c / 1000))), some (.sh (.int p.nm.length)), some (.sh (.val (.ref a))), some (.sh (.int (i : Nat))), some (.lst ((wyL (uo (c / 1000) (c % 9) p.bs.length p.nm.length w)).map T.sh)), some (.sh (.int (c % 9)))]) (Kp (aL E.dD) Q.b).1 (fun hp => ?_) (fun Yh => ?_) ?rest
 . have hk := asI hp
   have e8 : ¬ c % 9 = 8 := by omega
   have eb : uo (c / 1000) (c % 9) p.bs.length p.nm.length w = { w with src := ([-1, (p.nm.length : Int), (p.nm.length : Int) + 1] : List Int).getD (c % 9).toNat 0 } := by unfold uo; rw [asM hk]
   refine cY (b9 (bD (bK (aK (cS (bL Q.u (bL (v_ E.eS.1) (bL (bZ (aL E.eS) Q.b) c7))) Q.i) (t2 := .lst ((([-1, (p.nm.length : Int), (p.nm.length : Int) + 1] : List Int).map .int).map T.sh)) rfl)) (aL E.dD) (fS (bs := [-1, (p.nm.length : Int), (p.nm.length : Int) + 1]) (k := c % 9) k0 (show c % 9 < 3 by omega))) rfl) (aW E.bM.1 rfl) Q.b rfl rfl (j := 0) rfl (ak ?_)
   rw [eb, asH e8]
   rfl
 refine b5 (bG (aL E.dD) Q.b).1 (fun hp => ?_) (fun hp3 => ?_)
 . have hk := asI hp
   have e8 : ¬ c % 9 = 8 := by omega
   have eb : uo (c / 1000) (c % 9) p.bs.length p.nm.length w = { w with sign := qd (c / 1000) "go" } := by rw [hk]; rfl
   refine cY (aK (c_ (c / 1000, ("go" : Str)) E.jO E.dU (ao (aL E.aH) (ao (ai bx) aG)) gl rfl) (t2 := .sh (.str (qd (c / 1000) "go"))) rfl) (aW E.bM.1 rfl) Q.b rfl rfl (j := 1) rfl (ak (ak ?_))
   rw [eb, asH e8]
   rfl
 refine b5 (bG (aL E.dD) Q.b).1 (fun hp => ?_) (fun hp4 => ?_)
 . have hk := asI hp
   have e8 : ¬ c % 9 = 8 := by omega
   have eb : uo (c / 1000) (c % 9) p.bs.length p.nm.length w = { w with tgt := ([(p.nm.length : Int), -2] : List Int).getD (c / 1000 % 2).toNat 0 } := by rw [hk]; rfl
   refine cY (b9 (bD (bK (aK (cS (bL (v_ E.eS.1) (bL Q.u c7)) Q.i) (t2 := .lst ((([(p.nm.length : Int), -2] : List Int).map .int).map T.sh)) rfl)) (ai Q.N) (fS (bs := [(p.nm.length : Int), -2]) (k := c / 1000 % 2) c20 (show c / 1000 % 2 < 2 by omega))) rfl) (aW E.bM.1 rfl) Q.b rfl rfl (j := 4) rfl (ak (ak (ak ?_)))
   rw [eb, asH e8]
   rfl
 refine b5 (bG (aL E.dD) Q.b).1 (fun hp => ?_) (fun hp5 => ?_)
 . have hk := asI hp
   have e8 : ¬ c % 9 = 8 := by omega
   have eb : uo (c / 1000) (c % 9) p.bs.length p.nm.length w = { w with mode := (["", "fresh", "New"] : List Str).getD (c / 1000 % 3).toNat Str.empty } := by rw [hk]; rfl
   refine cY (b9 (bD (bK (fM (iA (l := (["", "fresh", "New"] : List Str)) rfl) Q.i)) (ai Q.N) (gY Str.empty (l := (["", "fresh", "New"] : List Str)) c30 (show c / 1000 % 3 < 3 by omega))) rfl) (aW E.bM.1 rfl) Q.b rfl rfl (j := 5) rfl (ak (ak (ak (ak ?_))))
   rw [eb, asH e8]
   rfl
 refine b5 (bG (aL E.dD) Q.b).1 (fun hp => ?_) (fun hp6 => ?_)
 . have hk := asI hp
   have e8 : ¬ c % 9 = 8 := by omega
   have eb : uo (c / 1000) (c % 9) p.bs.length p.nm.length w = { w with tgt := -1, mode := (["near", "far"] : List Str).getD (c / 1000 % 2).toNat Str.empty } := by rw [hk]; rfl
   refine cY Q.u (aW E.bM.1 rfl) Q.b rfl rfl (j := 4) rfl ?_
   refine cY (b9 (bD (bK (fM (iA (l := (["near", "far"] : List Str)) rfl) Q.i)) (ai Q.N) (gY Str.empty (l := (["near", "far"] : List Str)) c20 (show c / 1000 % 2 < 2 by omega))) rfl) (aW E.bM.1 rfl) Q.b rfl rfl (j := 5) rfl (ak (ak (ak (ak (ak ?_)))))
   rw [eb, asH e8]
   rfl
 refine b5 (bG (aL E.dD) Q.b).1 (fun hp => ?_) (fun hp7 => ?_)
 . have hk := asI hp
   have e8 : ¬ c % 9 = 8 := by omega
   have eb : uo (c / 1000) (c % 9) p.bs.length p.nm.length w = { w with al := dw (c / 1000 % ((w.al.length : Int) + 1)).toNat (zx (c / 1000 / 4) p.bs.length p.nm.length) w.al } := by rw [hk]; rfl
   refine cY (aK (c_ (w.al.map yL, c / 1000, yL (zx (c / 1000 / 4) p.bs.length p.nm.length)) E.Ce E.pe (ao (bD (ds := wyL w) (vL E.bM.1) Q.b (d := .tup (w.al.map yL)) rfl) (ao (aL E.aH) (ao (ai (aK (c_ (c / 1000 / 4, p.bs.length, p.nm.length) E.YB E.Iz (ao (ai Q.E) (ao (ai (cT (n := p.bs.length) (List.length_map ..) E.cP (cZ (p := [.ix 0]) (ck (j := 0) Q.t rfl rfl Q.b rfl) rfl rfl (bI _)) E.cQ)) (ao (aL E.eS) aG))) trivial (by show (yL _).qa = true; exact S7 _)) (t2 := .sh (yL (zx (c / 1000 / 4) p.bs.length p.nm.length))) rfl)) aG))) (by dsimp only [jP]; exact ⟨tE w.al, S7 _, by rw [List.length_map]; omega⟩) (by show D.cV (dw _ _ _) = true; exact Ca (tE w.al) (S7 _))) (t2 := .sh (.tup ((dw (c / 1000 % ((w.al.length : Int) + 1)).toNat (zx (c / 1000 / 4) p.bs.length p.nm.length) w.al).map yL))) ?apl) (aW E.bM.1 rfl) Q.b rfl rfl (j := 2) rfl (ak (ak (ak (ak (ak (ak ?_))))))
   case apl =>
     show T.sh (.tup (dw (c / 1000 % (((w.al.map yL).length : Int) + 1)).toNat (yL (zx (c / 1000 / 4) p.bs.length p.nm.length)) (w.al.map yL))) = _
     rw [asG, oA]
   rw [eb, asH e8]
   rfl
 . have e8 : c % 9 = 8 := by
     have a0 := asP Yh
     have a3 := asP hp3
     have a4 := asP hp4
     have a5 := asP hp5
     have a6 := asP hp6
     have a7 := asP hp7
     omega
   have eb : uo (c / 1000) (c % 9) p.bs.length p.nm.length w = { w with src := 1 } := by rw [e8]; rfl
   refine cY aj (aW E.bM.1 rfl) Q.b rfl rfl (j := 0) rfl ?_
   refine wm (p := [.ix 7]) (Rh := (l.map jG).map T.sh) (tl := (l.map jG).map T.sh) (gZ (i := 0) (j := 7) E.qT.1 rfl rfl rfl) rfl rfl (aK (bE (ds := [.int 0, .str "go", .tup [], .tup [], .int (-1), .str "new"]) (ay aj (ay bx (ay (bE (ds := []) bH Q.i) (ay (bE (ds := []) bH Q.i) (ay Q.u (ay bx bH)))))) Q.i) (t2 := .sh (jG w01)) rfl) rfl rfl (by rw [dg]; omega) (ak (ak (ak (ak (ak (ak ?_))))))
   rw [pI, eb, asM e8]
   rfl
 case rest =>
   rintro δ rfl
   have hk2 : xM (((if c % 9 = 8 then l ++ [w01] else l).map jG).map T.sh).length (i : Int) = some i := by
     rw [dg]
     refine oY ?_
     split
     . rw [as5]; omega
     . exact i1
   refine cY (aK (tu E.rQ (vL E.bM.1) (Qf _) E.rP) (t2 := .sh (jG (uo (c / 1000) (c % 9) p.bs.length p.nm.length w))) rfl) (gZ (i := 0) (j := 7) E.qT.1 rfl rfl rfl) (aL E.eN) rfl (tl := ((if c % 9 = 8 then l ++ [w01] else l).map jG).map T.sh) rfl hk2 ?_
   rw [fH]
   refine ajH (a := a) (p := p) _ (ak ⟨rfl, keepsP ?_⟩)
   rw [Yw]
theorem cU : pM (az rY) ([("parts", aF), ("cell", aF), ("moods", aF), ("ways", aF), ("at", aF), ("way", aF), ("kind", aF), ("len", aE), ("list", aE), ("_law_bad_name", aE), ("_law_put_in", aE), ("_law_bad_ask", aE), ("tuple", aE)]) = true := Q.f
theorem Cg : aY ["parts", "cell", "moods", "ways", "at", "way", "kind"] ["parts", "cell"] (az rY) := bz
abbrev G5 : Stmt := top 67
abbrev G6 : Type := Addr × Pt × Nat × Int × Nat
def tM : G6 -> List T := fun (y, p, w, c, B) => [.pin y (vv p), .sh (.int w), .sh (.int c)]
def qF : G6 -> List T := fun (y, p, w, c, B) => [.pin y (vv (spK w p c)), .sh (.int w), .sh (.int c)]
def yg : G6 -> Prop := fun (y, p, w, c, B) => vz w B p /\ B <= 100 /\ w <= 4
def tN : G6 -> T := fun (y, p, w, c, B) => (.sh .non : T)
structure afj (X : Cx) (CL : Q.g) : Prop extends cN X where
 aO : Ln X 0 "parts"
 qt : Ln X 1 "which"
 aH : Ln X 2 "cell"
 Ci : Gl X "_law_spoil_tree"
 Cj : Gl X "_law_spoil_name"
 Ef : Gl X "_law_spoil_box"
 Ck : Gl X "_law_spoil_deed"
 Eg : Gl X "_law_spoil_way"
 MF : FcM X CL "_law_spoil_tree" 1 2 jK mH jL g6
 MG : FcM X CL "_law_spoil_name" 2 2 jM mJ jN g7
 Qi : FcM X CL "_law_spoil_box" 2 2 kP oZ kQ i7
 MH : FcM X CL "_law_spoil_deed" 3 2 jQ mP jR g8
 Qj : FcM X CL "_law_spoil_way" 3 2 kR pA kT i9
theorem afk {b : Bx} (E : afj X CL) (y p w c B) (h : yg (y, p, w, c, B)) :
   dY X CL b (dW G5) (wk ["parts", "which", "cell"] (tM (y, p, w, c, B))) { nx := fun δ => tN (y, p, w, c, B) = .sh .non /\ Keeps δ (qF (y, p, w, c, B)), rt := fun LK δ => LK = tN (y, p, w, c, B) /\ Keeps δ (qF (y, p, w, c, B)) } := by
 dsimp only [yg, tM, tN, qF] at h ⊢
 obtain ⟨hA, hB, hw⟩ := h
 refine b5 (bG (aL E.qt) Q.b).1 (fun hp => ?_) (fun Yh => ?_)
 . have e : w = 0 := by have := asI hp; omega
   subst e
   exact xS (cMp (t := .sh .non) (y, p, c, B) (.pin y (vv (dP p c))) E.MF E.Ci (Pn E.aO.1 rfl (HK (v_ E.aH.1) DY)) ⟨hA, hB⟩ rfl ⟨rfl, .inr rfl, trivial⟩) (ak (ak ⟨rfl, DZ (ds := [_, _])⟩))
 refine b5 (bG (aL E.qt) Q.b).1 (fun hp => ?_) (fun ZT => ?_)
 . have e : w = 1 := by have := asI hp; omega
   subst e
   exact xS (cMp (t := .sh .non) (y, p, c, B) (.pin y (vv (jd p c))) E.MG E.Cj (Pn E.aO.1 rfl (HK (v_ E.aH.1) DY)) ⟨hA, hB⟩ rfl ⟨rfl, .inr rfl, trivial⟩) (ak (ak (ak ⟨rfl, DZ (ds := [_, _])⟩)))
 refine b5 (bG (aL E.qt) Q.b).1 (fun hp => ?_) (fun hp2 => ?_)
 . have e : w = 2 := by have := asI hp; omega
   subst e
   exact xS (cMp (t := .sh .non) (y, p, c, B) (.pin y (vv (rO p c))) E.Qi E.Ef (Pn E.aO.1 rfl (HK (v_ E.aH.1) DY)) ⟨hA, hB⟩ rfl ⟨rfl, .inr rfl, trivial⟩) (ak (ak (ak (ak ⟨rfl, DZ (ds := [_, _])⟩))))
 refine b5 (bG (aL E.qt) Q.b).1 (fun hp => ?_) (fun hp3 => ?_)
 . have e : w = 3 := by have := asI hp; omega
   subst e
   exact xS (cMp (t := .sh .non) (y, p, c, B) (.pin y (vv (lz p c))) E.MH E.Ck (Pn E.aO.1 rfl (HK (v_ E.aH.1) DY)) ⟨hA, hB⟩ rfl ⟨rfl, .inr rfl, trivial⟩) (ak (ak (ak (ak (ak ⟨rfl, DZ (ds := [_, _])⟩)))))
 . have e : w = 4 := by
     have a0 := asP Yh
     have a1 := asP ZT
     have a2 := asP hp2
     have a3 := asP hp3
     omega
   subst e
   exact xS (cMp (t := .sh .non) (y, p, c, B) (.pin y (vv (kD p c))) E.Qj E.Eg (Pn E.aO.1 rfl (HK (v_ E.aH.1) DY)) ⟨hA, hB⟩ rfl ⟨rfl, .inr rfl, trivial⟩) (ak (ak (ak (ak (ak ⟨rfl, DZ (ds := [_, _])⟩)))))
theorem pK : pM (az G5) ([("parts", aF), ("which", aF), ("cell", aF), ("_law_spoil_tree", aE), ("_law_spoil_name", aE), ("_law_spoil_box", aE), ("_law_spoil_deed", aE), ("_law_spoil_way", aE)]) = true := Q.f
theorem Qk : aY ["parts", "which", "cell"] ["parts", "which", "cell"] (az G5) := bz
abbrev r6 : Stmt := inClass (top 21) 0
abbrev wN : Type := List Str × List Int × List Int
def y9 : wN -> List L3.D := fun (ks, es, ss) => [.lst (ks.map .str), .lst (es.map .int), .lst (ss.map .int)]
def za : wN -> Prop := fun (ks, es, ss) => True
def zb : wN -> List (Str × T) := fun (ks, es, ss) => (BG ks es ss : List (Str × T))
structure Ql (X : Cx) (CL : Q.g) : Prop extends cN X where
 sP : Ln X 0 "self"
 qg : Ln X 1 "kinds"
 dI : Ln X 2 "elders"
 tG : Ln X 3 "starts"
 fV : Gl X "list"
 fW : X.mg "list" = none
 eZ : DM X.K (CL "Tree")
 iF : bQ X.K (CL "Tree") "kinds"
 bX : bQ X.K (CL "Tree") "elders"
 kU : bQ X.K (CL "Tree") "starts"
theorem Qm {b : Bx} (E : Ql X CL) (ks : Q.h) (es ss : Q.e) (y : Addr) (h : True) :
   dY X CL b (dW r6) (aaY ["self", "kinds", "elders", "starts"] y "Tree" [.lst (ks.map .str), .lst (es.map .int), .lst (ss.map .int)]) { nx := fun δ => δ[0]? = some (some (.pin y (.ins "Tree" (BG ks es ss)))), rt := fun _ _ => False } := by
 have hi : D.cV (ks.map L3.D.str) = true := bS (fun _ => rfl) _
 refine Bv E.eZ E.iF E.sP.1 (fj E.fW (aL E.qg) hi E.fV cK) rfl (asR rfl) ?_
 rw [mF]
 refine Bv E.eZ E.bX E.sP.1 (fj E.fW (aL E.dI) (gf _) E.fV cK) rfl (asR rfl) ?_
 rw [c5 Q.d, mF]
 refine Bv E.eZ E.kU E.sP.1 (fj E.fW (aL E.tG) (gf _) E.fV cK) rfl (asR rfl) ?_
 rw [c5 Q.d, c5 Q.d, mF]
 exact ak rfl
theorem mQ : pM (az r6) ([("self", aF), ("kinds", aF), ("elders", aF), ("starts", aF), ("list", aE)]) = true := Q.f
theorem Cm : aY ["self", "kinds", "elders", "starts"] ["self", "kinds", "elders", "starts"] (az r6) := bz
abbrev qu : Stmt := inClass (top 11) 0
abbrev uG : Type := List L3.D × List L3.D × V × List L3.D × List L3.D × List L3.D
def wO : uG -> List L3.D := fun (bs, nm, tv, is, os, ws) => [.lst bs, .lst nm, .val tv, .lst is, .lst os, .lst ws]
def wQ : uG -> Prop := fun (bs, nm, tv, is, os, ws) => D.cV bs = true /\ D.cV nm = true /\ D.cV is = true /\ D.cV os = true /\ D.cV ws = true
def wR : uG -> List (Str × T) := fun (bs, nm, tv, is, os, ws) => (wo bs nm (.sh (.val tv)) is os ws : List (Str × T))
structure MJ (X : Cx) (CL : Q.g) : Prop extends cN X where
 sP : Ln X 0 "self"
 fN : Ln X 1 "boxes"
 dX : Ln X 2 "names"
 dF : Ln X 3 "tree"
 WO : Ln X 4 "ins"
 Mt : Ln X 5 "outs"
 qT : Ln X 6 "ways"
 fV : Gl X "list"
 fW : X.mg "list" = none
 b7 : DM X.K (CL "Chart")
 fC : bQ X.K (CL "Chart") "boxes"
 cF : bQ X.K (CL "Chart") "names"
 qv : bQ X.K (CL "Chart") "tree"
 r9 : bQ X.K (CL "Chart") "ins"
 qw : bQ X.K (CL "Chart") "outs"
 mR : bQ X.K (CL "Chart") "ways"
theorem MK {b : Bx} (E : MJ X CL) (bs nm : List L3.D) (tv : V) (is os ws : List L3.D) (y : Addr) (h : D.cV bs = true /\ D.cV nm = true /\ D.cV is = true /\ D.cV os = true /\ D.cV ws = true) :
   dY X CL b (dW qu) (aaY ["self", "boxes", "names", "tree", "ins", "outs", "ways"] y "Chart" [.lst bs, .lst nm, .val tv, .lst is, .lst os, .lst ws]) { nx := fun δ => δ[0]? = some (some (.pin y (.ins "Chart" (wo bs nm (.sh (.val tv)) is os ws)))), rt := fun _ _ => False } := by
 obtain ⟨h1, h2, h3, h4, h5⟩ := h
 refine Bv E.b7 E.fC E.sP.1 (fj E.fW (aL E.fN) h1 E.fV cK) rfl (asR rfl) ?_
 rw [mF]
 refine Bv E.b7 E.cF E.sP.1 (fj E.fW (aL E.dX) h2 E.fV cK) rfl (asR rfl) ?_
 rw [c5 Q.d, mF]
 refine Bv E.b7 E.qv E.sP.1 (v_ E.dF.1) rfl (asR rfl) ?_
 rw [c5 Q.d, c5 Q.d, mF]
 refine Bv E.b7 E.r9 E.sP.1 (fj E.fW (aL E.WO) h3 E.fV cK) rfl (asR rfl) ?_
 rw [c5 Q.d, c5 Q.d, c5 Q.d, mF]
 refine Bv E.b7 E.qw E.sP.1 (fj E.fW (aL E.Mt) h4 E.fV cK) rfl (asR rfl) ?_
 rw [c5 Q.d, c5 Q.d, c5 Q.d, c5 Q.d, mF]
 refine Bv E.b7 E.mR E.sP.1 (fj E.fW (aL E.qT) h5 E.fV cK) rfl (asR rfl) ?_
 rw [c5 Q.d, c5 Q.d, c5 Q.d, c5 Q.d, c5 Q.d, mF]
 exact ak rfl
theorem fD : pM (az qu) ([("self", aF), ("boxes", aF), ("names", aF), ("tree", aF), ("ins", aF), ("outs", aF), ("ways", aF), ("list", aE)]) = true := Q.f
theorem zc : aY ["self", "boxes", "names", "tree", "ins", "outs", "ways"] ["self", "boxes", "names", "tree", "ins", "outs", "ways"] (az qu) := bz
abbrev G7 : Stmt := top 68
abbrev G8 : Type := Q.C × List Str × List Str × List Int × List Int × List (List pR) × List (List pR) × List p8
def yh : G8 -> List L3.D := fun (bs, nm, ks, es, ss, is, os, ws) => [prV bs nm ks es ss is os ws]
def yi : G8 -> Prop := fun (bs, nm, ks, es, ss, is, os, ws) => True
def yj : G8 -> T := fun (bs, nm, ks, es, ss, is, os, ws) => (.ins "Chart" (wo (bs.map kH) (nm.map .str) (.ins "Tree" (BG ks es ss)) (is.map bW) (os.map bW) (ws.map jG)) : T)
structure afl (X : Cx) (CL : Q.g) : Prop extends cN X where
 aO : Ln X 0 "parts"
 dF : Ln X 1 "tree"
 ajI : Gl X "Tree"
 fV : Gl X "list"
 afm : Gl X "Chart"
 ajJ : Fm X CL "Tree" 1 4 y9 za zb
 fW : X.mg "list" = none
 afn : Fm X CL "Chart" 1 7 wO wQ wR
theorem afo {b : Bx} (E : afl X CL) {cz : G8} (h : yi cz) :
   aN X CL b G7 ["parts", "tree"] (yh cz) (yj cz) := by
 obtain ⟨bs, nm, ks, es, ss, is, os, ws⟩ := cz
 dsimp only [aN, yi, yh, yj] at h ⊢
 have ib : D.cV (bs.map kH) = true := bS (fun _ => rfl) _
 have ii : ∀ l : List (List pR), D.cV (l.map bW) = true := fun l => bS iS l
 have iw : D.cV (ws.map jG) = true := bS (fun w => by
   show (true && (true && (D.cV (w.al.map yL) && ((bW w.dl).qa && (true && (true && true)))))) = true
   rw [show D.cV (w.al.map yL) = true from tE w.al, iS]
   rfl) _
 refine bf E.g E.dF (aK (mk_ (ks, es, ss) E.ajJ E.ajI (ao (bK (fj E.fW (bD (aL E.aO) Q.b (b6 (j := 2) rfl)) (pD _) E.fV cK)) (ao (bK (fj E.fW (bD (aL E.aO) Q.b (b6 (j := 3) rfl)) (gf _) E.fV cK)) (ao (bK (fj E.fW (bD (aL E.aO) Q.b (b6 (j := 4) rfl)) (gf _) E.fV cK)) aG))) trivial (FP ks es ss)) (t2 := .ins "Tree" (BG ks es ss)) rfl) ?_
 exact bu (mkP (f := "tree") (Pj := D4 (bs.map kH) (nm.map .str)) (ZS := D5 (is.map bW) (os.map bW) (ws.map jG)) (fun v => (bs.map kH, nm.map .str, v, is.map bW, os.map bW, ws.map jG)) E.afn E.afm
   (Pk (bK (fj E.fW (bD (aL E.aO) Q.b (b6 (j := 0) rfl)) ib E.fV cK)) (Pk (bK (fj E.fW (bD (aL E.aO) Q.b (b6 (j := 1) rfl)) (pD _) E.fV cK))
     (aa7 (vM E.dF.1)
       (ao (bK (fj E.fW (bD (aL E.aO) Q.b (b6 (j := 5) rfl)) (ii is) E.fV cK)) (ao (bK (fj E.fW (bD (aL E.aO) Q.b (b6 (j := 6) rfl)) (ii os) E.fV cK)) (ao (bK (fj E.fW (bD (aL E.aO) Q.b (b6 (j := 7) rfl)) iw E.fV cK)) aG))))))
   (fun v => rfl) (fun v => ⟨ib, pD _, ii is, ii os, iw⟩) (fun v => rfl) (LY ib (pD _)) (LZ (ii is) (ii os) iw)) rfl
theorem wU : pM (az G7) ([("parts", aF), ("tree", aF), ("Tree", aE), ("list", aE), ("Chart", aE)]) = true := Q.f
theorem acd : aY ["parts", "tree"] ["parts"] (az G7) := bz
abbrev G9 : Stmt := top 22
abbrev Hf : Type := List Str × List Int × List Int × Int
def tO : Hf -> List L3.D := fun (ks, es, ss, m) => [fG ks es ss, .int m]
def qG : Hf -> Prop := fun (ks, es, ss, m) => Sb es m /\ 0 <= m /\ m < es.length /\ es.length <= 1000
def tP : Hf -> T := fun (ks, es, ss, m) => (.lst (((oq es m).map .int).map T.sh) : T)
structure afp (X : Cx) (CL : Q.g) : Prop extends cN X where
 dF : Ln X 0 "tree"
 kI : Ln X 1 "mood"
 uv : Ln X 2 "found"
 sd : Ln X 3 "elder"
 eZ : DM X.K (CL "Tree")
 bX : bQ X.K (CL "Tree") "elders"
theorem afq {b : Bx} (E : afp X CL) {cz : Hf} (h : qG cz) :
   aN X CL b G9 ["tree", "mood", "found", "elder"] (tO cz) (tP cz) := by
 obtain ⟨ks, es, ss, m⟩ := cz
 dsimp only [aN, qG, tO, tP] at h ⊢
 obtain ⟨ht, h0, h1, hlen⟩ := h
 refine bf E.g E.uv (cS c7 (ata _)) ?_
 refine bf E.g E.sd (b9 (bD (dJ E.eZ E.bX (aL E.dF) fB) (aL E.kI) (fS h0 h1)) rfl) ?_
 have hm := ht.at h0 h1 (auN _)
 refine V1 E.g (fun n δ => ∃ (k : Int) (l : Q.e), δ = [some (.sh (fG ks es ss)), some (.sh (.int m)), some (.lst ((l.map .int).map T.sh)), some (.sh (.int k))] /\ -1 <= k /\ k < n /\ k < m /\ l ++ D0 n es k = oq es m /\ l.length + n <= es.length + 1) (es.length + 1)
   ⟨es.getD m.toNat 0, [], rfl, hm.1, by omega, by omega, rfl, by simp⟩ ?_
 rintro n δ ⟨k, l, rfl, k0, k1, k2, k3, k4⟩
 refine ⟨_, _, (pP (aL E.sd) (ai Q.u)).1, fun hp => ?_, fun hp => ?_⟩
 . have hk : ¬ k = -1 := by simpa using hp
   have ha := ht.at (k := k) Q.a Q.a Q.a
   cases n with
   | zero => omega
   | succ n =>
     refine yU E.uv.1 rfl (v_ E.sd.1) rfl (by simp; omega) ?_
     refine bf E.g E.sd (b9 (bD (dJ E.eZ E.bX (aL E.dF) fB) (aL E.sd) (fS Q.a Q.a)) rfl) ?_
     refine ak ⟨n, auK _, es.getD k.toNat 0, l ++ [k], ?_, ha.1, by omega, by omega, ?_, by simp; omega⟩
     . show [_, _, some (T.lst (((l.map D.int).map T.sh) ++ [T.sh (.int k)])), _] = _
       simp
     . rw [← k3, D0, asH hk, asO]
       rfl
 . have hk : k = -1 := by simpa using hp
   subst hk
   have e : l = oq es m := by
     rw [← k3]
     cases n with
     | zero => rw [D0, atw]
     | succ n => rw [D0, asM rfl, atw]
   subst e
   exact bu (vM E.uv.1) rfl
theorem Cp : pM (az G9) ([("tree", aF), ("mood", aF), ("found", aF), ("elder", aF)]) = true := Q.f
theorem ace : aY ["tree", "mood", "found", "elder"] ["tree", "mood"] (az G9) := bz
abbrev Hg : Stmt := top 23
abbrev Hh : Type := List Str × List Int × List Int × Int
def yk : Hh -> List L3.D := fun (ks, es, ss, m) => [fG ks es ss, .int m]
def tQ : Hh -> Prop := fun (ks, es, ss, m) => Sb es m /\ 0 <= m /\ m < es.length /\ es.length <= 1000
def ym : Hh -> T := fun (ks, es, ss, m) => (.sh (.int ((oq es m).length : Nat)) : T)
structure afr (X : Cx) (CL : Q.g) : Prop extends cN X where
 dF : Ln X 0 "tree"
 kI : Ln X 1 "mood"
 cQ : Gl X "len"
 Cq : Gl X "above"
 cP : X.mg "len" = none
 ML : Fc X CL "above" 1 2 tO qG tP
theorem afs {b : Bx} (E : afr X CL) {cz : Hh} (h : tQ cz) :
   aN X CL b Hg ["tree", "mood"] (yk cz) (ym cz) := by
 obtain ⟨ks, es, ss, m⟩ := cz
 dsimp only [aN, tQ, yk, ym] at h ⊢
 have hl : ((oq es m).map L3.D.int).length = (oq es m).length := by simp
 exact bu (cT hl E.cP (bK (c_ (ks, es, ss, m) E.ML E.Cq (ao (aL E.dF) (ao (aL E.kI) aG)) h (by show (T.lst _).clean = true; rw [sZ]; exact FE _))) E.cQ) rfl
theorem Cr : pM (az Hg) ([("tree", aF), ("mood", aF), ("len", aE), ("above", aE)]) = true := Q.f
theorem acf : aY ["tree", "mood"] ["tree", "mood"] (az Hg) := bz
abbrev iG : Stmt := top 31
abbrev iH : Type := List Str × List Int × List Int
def gw : iH -> List L3.D := fun (ks, es, ss) => [fG ks es ss]
def eG : iH -> Prop := fun (ks, es, ss) => 1 <= es.length /\ es.length <= 900
def gy : iH -> T := fun (ks, es, ss) => (.sh (.bl (GK es (es.length - 1))) : T)
structure zE (X : Cx) (CL : Q.g) : Prop extends cN X where
 dF : Ln X 0 "tree"
 kI : Ln X 1 "mood"
 acg : Ln X 2 "line"
 di : Gl X "range"
 cQ : Gl X "len"
 Cq : Gl X "above"
 MN : Gl X "depth"
 YC : Gl X "DEEPEST"
 dm : X.mg "range" = none
 cP : X.mg "len" = none
 ML : Fc X CL "above" 1 2 tO qG tP
 aft : Fc X CL "depth" 2 2 yk tQ ym
 YD : ∃ u, X.mg "DEEPEST" = some (.int 12 u)
 eZ : DM X.K (CL "Tree")
 bX : bQ X.K (CL "Tree") "elders"
theorem zF {b : Bx} (E : zE X CL) {cz : iH} (h : eG cz) :
   aN X CL b iG ["tree", "mood", "line"] (gw cz) (gy cz) := by
 obtain ⟨ks, es, ss⟩ := cz
 dsimp only [aN, eG, gw, gy] at h ⊢
 obtain ⟨h1, h2⟩ := h
 refine b5 (pP (i := es.getD 0 0) (bD (dJ E.eZ E.bX (aL E.dF) fB) Q.b (fS Q.a Q.a)) (ai Q.u)).1 (fun hq => ?_) (fun hq => ak ?_)
 . have e : GK es 0 = false := by
     show decide (es.getD 0 0 = -1) = false
     have hq : (!decide (es.getD 0 0 = -1)) = true := hq
     cases hd : decide (es.getD 0 0 = -1) with
     | false => rfl
     | true => rw [hd] at hq; cases hq
   exact bu f9 (by rw [BI (ata _) e])
 have e0 : GK es 0 = true := by
   show decide (es.getD 0 0 = -1) = true
   have hq : (!decide (es.getD 0 0 = -1)) = false := hq
   cases hd : decide (es.getD 0 0 = -1) with
   | false => rw [hd] at hq; cases hq
   | true => rfl
 refine pC E.g E.kI (fun j δ => ∃ o1 o2, GK es j = true /\ δ = [some (.sh (fG ks es ss)), o1, o2])
   (DS E.dm Q.b (ai (cT (asG ..) E.cP (dJ E.eZ E.bX (aL E.dF) fB) E.cQ)) Q.a E.di) ⟨_, _, e0, rfl⟩ Q.aK ?turn ?fin
 case turn =>
   rintro j d δ hj ⟨o1, o2, hE, rfl⟩
   obtain ⟨rfl, GO⟩ := mE hj
   have GO : j + 1 < es.length := by simp at GO; omega
   have hT := Ie Q.a hE
   have ha := hT.at (k := (j : Int)) Q.a Q.a Q.a
   have hcl : (oq es (j : Int)).length <= es.length + 1 := LX _ _ _
   have ej : (1 + (j : Int)) - 1 = (j : Int) := by omega
   refine bf E.g E.acg (aK (ua (ds := [.int (j : Int)]) (V0 := (oq es (j : Int)).map .int) (bK (ds := [.int (j : Int)]) (aK (cS (bL (eW (aL E.kI) Q.b) c7) Q.i) (by rw [ej]; rfl))) (bK (aK (c_ (ks, es, ss, (j : Int)) E.ML E.Cq (ao (aL E.dF) (ao (Bw (ai (eW (aL E.kI) Q.b)) (congrArg L3.D.int ej)) aG)) (by dsimp only [qG]; exact ⟨hT, by omega, by omega, by omega⟩) (ly _)) rfl)) rfl (gf _) (Nat.le_of_lt (cR (by simp; omega)))) (t2 := .lst ((((j : Int) :: oq es (j : Int)).map .int).map T.sh)) rfl) ?_
   have en : (1 + (j : Int)).toNat = j + 1 := by omega
   have e1j : (1 + (j : Int)) = (j : Int) + 1 := by omega
   have eB : GK es (j + 1) = (decide Q.ax && decide ((oq es (1 + (j : Int))).length <= 12)) := by
     rw [GK, hE, en, e1j]
     rfl
   refine b5 (t6 (sX (q := decide (((oq es (1 + (j : Int))).length : Int) > 12)) (ad3 (i := es.getD (1 + (j : Int)).toNat 0) (bD (dJ E.eZ E.bX (aL E.dF) fB) (aL E.kI) (fS Q.a Q.a)) (vL E.acg.1) rfl rfl).1 (fun hn => wc (OV (ai (aK (c_ (ks, es, ss, 1 + (j : Int)) E.aft E.MN (ao (aL E.dF) (ao (aL E.kI) aG)) ?pd rfl) (t2 := .sh (.int ((oq es (1 + (j : Int))).length : Nat))) rfl)) (ai (kN E.YD E.YC))).1))) (fun hq => ?_) (fun hq => ak (ak ⟨_, _, ?_, rfl⟩))
   case pd =>
     dsimp only [tQ]
     refine ⟨fun k hk hm => ?_, by omega, by omega, by omega⟩
     by_cases e : k = j + 1
     . subst e
       have hn : (!decide Q.ax) = false := hn
       have hin : es.getD (1 + (j : Int)).toNat 0 ∈ (j : Int) :: oq es (j : Int) := asI (nbT hn)
       rw [en] at hin
       rcases asX.mp hin with z | z
       . omega
       . have := hT.ug (es.length + 1) ha.1 Q.a Q.a _ z
         omega
     . exact hT k hk Q.a
   . refine bu f9 ?_
     have hq : (!decide Q.ax || decide (((oq es (1 + (j : Int))).length : Int) > 12)) = true := hq
     have e : GK es (j + 1) = false := by
       rw [eB]
       cases hd : decide Q.ax with
       | false => rfl
       | true =>
         rw [hd] at hq
         have : ((oq es (1 + (j : Int))).length : Int) > 12 := asI hq
         rw [asY Q.a]
         rfl
     rw [BI (j := es.length - 1) Q.a e]
   . have hq : (!decide Q.ax || decide (((oq es (1 + (j : Int))).length : Int) > 12)) = false := hq
     rw [atX] at hq
     rw [eB, show decide Q.ax = true from nbT hq.1, asN (by have := asP hq.2; omega)]
     rfl
 case fin =>
   rintro δ ⟨o1, o2, hE, rfl⟩
   have e : (cW 1 (((es.length : Nat) : Int) - 1).toNat).length = es.length - 1 := by simp [cW]
   have hE2 : GK es (es.length - 1) = true := by
     first
       | (rw [e] at hE; exact hE)
       | (simp [cW] at hE; exact hE)
   exact bu f9 (by rw [hE2])
theorem cH : pM (az iG) ([("tree", aF), ("mood", aF), ("line", aF), ("range", aE), ("len", aE), ("above", aE), ("depth", aE), ("DEEPEST", aE)]) = true := Q.f
theorem yO : aY ["tree", "mood", "line"] ["tree"] (az iG) := bz
abbrev jm : Stmt := top 32
abbrev jn : Type := List Str × List Int × List Int
def gR : jn -> List L3.D := fun (ks, es, ss) => [fG ks es ss]
def fk : jn -> Prop := fun (ks, es, ss) => ks.length <= 900 /\ es.length <= 900
def gS : jn -> T := fun (ks, es, ss) => (.sh (.bl (R9 ks es)) : T)
structure Ct (X : Cx) (CL : Q.g) : Prop extends cN X where
 dF : Ln X 0 "tree"
 uH : Ln X 1 "with_inner"
 sd : Ln X 2 "elder"
 kI : Ln X 3 "mood"
 dD : Ln X 4 "kind"
 wV : Gl X "enumerate"
 afu : Gl X "KINDS"
 wW : X.mg "enumerate" = none
 MP : GT X "KINDS" ["leaf", "one", "all"]
 eZ : DM X.K (CL "Tree")
 bX : bQ X.K (CL "Tree") "elders"
 iF : bQ X.K (CL "Tree") "kinds"
theorem Cu {b : Bx} (E : Ct X CL) {cz : jn} (h : fk cz) :
   aN X CL b jm ["tree", "with_inner", "elder", "mood", "kind"] (gR cz) (gS cz) := by
 obtain ⟨ks, es, ss⟩ := cz
 dsimp only [aN, fk, gR, gS] at h ⊢
 obtain ⟨h1, h2⟩ := h
 refine bf E.g E.uH aee ?_
 refine pC E.g E.sd (fun j δ => ∃ o2 o3 o4, δ = [some (.sh (fG ks es ss)), some (.vt (ZW (adds (es.take j)))), o2, o3, o4])
   (t8 (Hy E.eZ E.bX (v_ E.dF.1) fB)) ⟨_, _, _, rfl⟩ Q.aK ?turn ?fin
 case turn =>
   rintro j d δ hj ⟨o2, o3, o4, rfl⟩
   obtain ⟨x, rfl, _, _, GO, _, htk⟩ := aiu hj
   have hl := (D8 (es.take j) []).1
   have hl2 : (es.take j).length <= 900 := by rw [atF]; omega
   have hkl : (ZW (adds (es.take j))).length <= 1000000 := by unfold ZW adds; rw [asG]; simp at hl; omega
   refine aiB (.inl x) E.u E.uH.1 f9 (aL E.sd) rfl hkl (ak ?_)
   rw [aev, ← Yk, ← htk]
   exact ⟨_, _, _, rfl⟩
 case fin =>
 rintro δ ⟨o2, o3, o4, rfl⟩
 rw [asG, List.take_length]
 have hin : ∀ x : Int, decide (x ∈ adds es) = decide (x ∈ es) := fun x => decide_eq_decide.mpr (((D8 es []).2 x).trans Q.r)
 refine aa0 E.g (V5 E.g.nd E.g.calm E.kI E.dD) (fun j δ => ∃ o2 o3 o4, yM (kdO ks es) (List.range ks.length) j /\ δ = [some (.sh (fG ks es ss)), some (.vt (ZW (adds es))), o2, o3, o4])
   (Pb (f := L3.D.str) (l := ks) Str.empty E.wW (Hy E.eZ E.iF (v_ E.dF.1) zu) E.wV) ⟨_, _, _, .zero, rfl⟩ (fun j δ ⟨_, _, _, _, e⟩ => by subst e; intro i hi; simp only [asX, as8, auS] at hi; rcases hi with rfl | rfl <;> exact asR rfl) ?P4 ?fin2
 case P4 =>
   rintro j d δ hj ⟨o2, o3, o4, hU, rfl⟩
   obtain ⟨i, hij, rfl⟩ : ∃ i, (List.range ks.length)[j]? = some i /\ _ = d := by rw [atf] at hj; exact atH.mp hj
   have him : i ∈ List.range ks.length := atB hij
   have hil : i < ks.length := atp.mp him
   refine ⟨_, rfl, ?_⟩
   refine b5 (t6 (sX (V3 (l := D9) (aL E.dD) (ai (BD E.MP E.afu)) rfl rfl).1 (fun _ => wc (alg (w1 := .bl (decide (ks.getD i Str.empty = "leaf"))) (w2 := .bl (decide ((i : Int) ∈ es))) (ai (qM (aL E.dD) (ai bx)).2) (ai (aK (aiJ (.inl (i : Int)) E.u (aL E.kI) (vE E.uH.1 rfl (by rw [T.iX])) rfl) (t2 := .sh (.bl (decide ((i : Int) ∈ es)))) (congrArg (fun z => T.sh (.bl z)) ((aew _ _).trans (hin _))))) rfl rfl rfl).1))) (fun hp => ?_) (fun hp => ak (ak ⟨_, _, _, hU.next hij ?_, rfl⟩))
   . refine bu f9 ?_
     unfold R9
     rw [F5 (p := kdO ks es) him ?_]
     unfold kdO
     generalize decide (ks.getD i Str.empty ∈ D9) = b1 at hp ⊢
     generalize decide (ks.getD i Str.empty = "leaf") = b2 at hp ⊢
     generalize decide ((i : Int) ∈ es) = b3 at hp ⊢
     revert hp
     cases b1 <;> cases b2 <;> cases b3 <;> first | (intro _; rfl) | (intro hp; simp at hp)
   . unfold kdO
     generalize decide (ks.getD i Str.empty ∈ D9) = b1 at hp ⊢
     generalize decide (ks.getD i Str.empty = "leaf") = b2 at hp ⊢
     generalize decide ((i : Int) ∈ es) = b3 at hp ⊢
     revert hp
     cases b1 <;> cases b2 <;> cases b3 <;> first | (intro _; rfl) | (intro hp; simp at hp)
 case fin2 =>
   rintro δ ⟨o2, o3, o4, hU, rfl⟩
   refine bu f9 ?_
   unfold R9
   rw [yM.all (by simpa using hU)]
theorem dG : pM (az jm) ([("tree", aF), ("with_inner", aF), ("elder", aF), ("mood", aF), ("kind", aF), ("enumerate", aE), ("KINDS", aE)]) = true := Q.f
theorem zG : aY ["tree", "with_inner", "elder", "mood", "kind"] ["tree"] (az jm) := bz
abbrev uI : Stmt := top 42
abbrev uJ : Type := Int × List L3.D
def gA : uJ -> List L3.D := fun (i, ds) => [.int i, .lst ds]
def gB : uJ -> Prop := fun (i, ds) => True
def gC : uJ -> T := fun (i, ds) => (.sh (.bl (rN i ds.length)) : T)
structure S8 (X : Cx) (CL : Q.g) : Prop extends cN X where
 IA : Ln X 0 "number"
 Iw : Ln X 1 "row"
 cQ : Gl X "len"
 cP : X.mg "len" = none
theorem S9 {b : Bx} (E : S8 X CL) {cz : uJ} (h : gB cz) :
   aN X CL b uI ["number", "row"] (gA cz) (gC cz) := by
 obtain ⟨i, ds⟩ := cz
 dsimp only [aN, gB, gA, gC] at h ⊢
 exact bu (agR akU VA Q.b (aL E.IA) (ai (cT rfl E.cP (aL E.Iw) E.cQ)) (by with_unfolding_all rfl)).2 rfl
theorem wX : pM (az uI) ([("number", aF), ("row", aF), ("len", aE)]) = true := Q.f
theorem Qn : aY ["number", "row"] ["number", "row"] (az uI) := bz
abbrev iI : Stmt := top 33
abbrev iJ : Type := List Str × List Int × List Int
def gD : iJ -> List L3.D := fun (ks, es, ss) => [fG ks es ss]
def eK : iJ -> Prop := fun (ks, es, ss) => ks.length = es.length /\ ss.length = es.length /\ es.length <= 900
def gE : iJ -> T := fun (ks, es, ss) => (.sh (.bl (Py ks es ss)) : T)
structure zH (X : Cx) (CL : Q.g) : Prop extends cN X where
 dF : Ln X 0 "tree"
 kI : Ln X 1 "mood"
 Cv : Ln X 2 "start"
 wV : Gl X "enumerate"
 d7 : Gl X "is_place"
 wW : X.mg "enumerate" = none
 fJ : Fc X CL "is_place" 1 2 gA gB gC
 eZ : DM X.K (CL "Tree")
 kU : bQ X.K (CL "Tree") "starts"
 iF : bQ X.K (CL "Tree") "kinds"
 bX : bQ X.K (CL "Tree") "elders"
theorem zI {b : Bx} (E : zH X CL) {cz : iJ} (h : eK cz) :
   aN X CL b iI ["tree", "mood", "start"] (gD cz) (gE cz) := by
 obtain ⟨ks, es, ss⟩ := cz
 dsimp only [aN, eK, gD, gE] at h ⊢
 obtain ⟨h1, h2, h3⟩ := h
 refine aa0 E.g (V5 E.g.nd E.g.calm E.kI E.Cv) (fun j δ => ∃ o1 o2, yM (ZY ks es ss) (List.range ss.length) j /\ δ = [some (.sh (fG ks es ss)), o1, o2])
   (Pb (f := L3.D.int) (l := ss) 0 E.wW (Hy E.eZ E.kU (v_ E.dF.1) FN) E.wV) ⟨_, _, .zero, rfl⟩ (fun j δ ⟨_, _, _, e⟩ => by subst e; intro i hi; simp only [asX, as8, auS] at hi; rcases hi with rfl | rfl <;> exact asR rfl) ?turn ?fin
 case turn =>
   rintro j d δ hj ⟨o1, o2, hU, rfl⟩
   obtain ⟨i, hij, rfl⟩ : ∃ i, (List.range ss.length)[j]? = some i /\ _ = d := by rw [atf] at hj; exact atH.mp hj
   have him : i ∈ List.range ss.length := atB hij
   have hil : i < ss.length := atp.mp him
   refine ⟨_, rfl, ?_⟩
   have hk : Bc (ks.map L3.D.str) (i : Int) = some (.str (ks.getD i Str.empty)) := (gY Str.empty Q.a Q.a).trans (by rw [ato])
   have bad : ZY ks es ss i = false -> (T.sh (.bl false)) = T.sh (.bl (Py ks es ss)) := fun e => by
     unfold Py
     rw [F5 (p := ZY ks es ss) him e]
   refine b5 (aaM (bD (dJ E.eZ E.iF (aL E.dF) zu) (aL E.kI) hk) (ai bx)).1 (fun hp => ?_) (fun hp => ?_)
   . have e1 : ¬ ks.getD i Str.empty = "one" := by simpa using hp
     refine b5 (pP (aL E.Cv) (ai Q.u)).1 (fun hp => ?_) (fun hp => ak (ak (ak ⟨_, _, hU.next hij ?_, rfl⟩)))
     . refine bu f9 (bad ?_)
       unfold ZY
       rw [asH e1]
       simpa using hp
     . unfold ZY
       rw [asH e1]
       simpa using hp
   . have e1 : ks.getD i Str.empty = "one" := by simpa using hp
     by_cases e2 : rN (ss.getD i 0) es.length = true
     . have e4 := e2
       unfold rN at e4
       rw [asZ] at e4
       have p0 := asI e4.1
       have p1 := asI e4.2
       have eL : rN (ss.getD i 0) (es.map L3.D.int).length = true := by rw [asG]; exact e2
       refine b5 (t6 (sX (gO (kM (aK (c_ (ss.getD i 0, es.map L3.D.int) E.fJ E.d7 (ao (aL E.Cv) (ao (dJ E.eZ E.bX (aL E.dF) fB) aG)) trivial rfl) (t2 := .sh (.bl true)) (congrArg (fun z => T.sh (.bl z)) eL)))) (fun _ => wc (pP (bD (dJ E.eZ E.bX (aL E.dF) fB) (aL E.Cv) (fS p0 p1)) (aL E.kI)).1))) (fun hp => ?_) (fun hp => ak (ak (ak ⟨_, _, hU.next hij ?_, rfl⟩)))
       . refine bu f9 (bad ?_)
         unfold ZY
         rw [asM e1, e2]
         simpa using hp
       . unfold ZY
         rw [asM e1, e2]
         simpa using hp
     . have e2 : rN (ss.getD i 0) es.length = false := by simpa using e2
       have eL : rN (ss.getD i 0) (es.map L3.D.int).length = false := by rw [asG]; exact e2
       refine b5 (t6 (sX (q := true) (gO (kM (aK (c_ (ss.getD i 0, es.map L3.D.int) E.fJ E.d7 (ao (aL E.Cv) (ao (dJ E.eZ E.bX (aL E.dF) fB) aG)) trivial rfl) (t2 := .sh (.bl false)) (congrArg (fun z => T.sh (.bl z)) eL)))) (fun hz => by cases hz))) (fun hp => ?_) Q.aq
       refine bu f9 (bad ?_)
       unfold ZY
       rw [asM e1, e2]
       rfl
 case fin =>
   rintro δ ⟨o1, o2, hU, rfl⟩
   refine bu f9 ?_
   unfold Py
   rw [yM.all (by simpa using hU)]
theorem fq : pM (az iI) ([("tree", aF), ("mood", aF), ("start", aF), ("enumerate", aE), ("is_place", aE)]) = true := Q.f
theorem yP : aY ["tree", "mood", "start"] ["tree"] (az iI) := bz
abbrev kX : Stmt := top 30
abbrev kY : Type := List Str × List Int × List Int × List L3.D
def jo : kY -> List L3.D := fun (ks, es, ss, nm) => [fG ks es ss, .lst nm]
def jq : kY -> Prop := fun (ks, es, ss, nm) => ks.length <= 900
def jr : kY -> T := fun (ks, es, ss, nm) => (.sh (.bl (Ea ks es ss nm.length)) : T)
structure F9 (X : Cx) (CL : Q.g) : Prop extends cN X where
 dF : Ln X 0 "tree"
 dX : Ln X 1 "names"
 bq : Ln X 2 "many"
 cQ : Gl X "len"
 lA : Gl X "are_elders_right"
 mS : Gl X "are_kinds_right"
 lB : Gl X "are_starts_right"
 cP : X.mg "len" = none
 zJ : Fc X CL "are_elders_right" 3 1 gw eG gy
 Cw : Fc X CL "are_kinds_right" 1 1 gR fk gS
 zK : Fc X CL "are_starts_right" 2 1 gD eK gE
 eZ : DM X.K (CL "Tree")
 iF : bQ X.K (CL "Tree") "kinds"
 bX : bQ X.K (CL "Tree") "elders"
 kU : bQ X.K (CL "Tree") "starts"
theorem Ga {b : Bx} (E : F9 X CL) {cz : kY} (h : jq cz) :
   aN X CL b kX ["tree", "names", "many"] (jo cz) (jr cz) := by
 obtain ⟨ks, es, ss, nm⟩ := cz
 dsimp only [aN, jq, jo, jr] at h ⊢
 refine bf E.g E.bq (cT (n := ks.length) (asG ..) E.cP (dJ E.eZ E.iF (aL E.dF) zu) E.cQ) ?_
 refine b5 (t6 (sX (bG (aL E.bq) Q.b).1 (fun _ => sX (pP (ai (cT (n := es.length) (asG ..) E.cP (dJ E.eZ E.bX (aL E.dF) fB) E.cQ)) (aL E.bq)).1 (fun _ => sX (pP (ai (cT (n := ss.length) (asG ..) E.cP (dJ E.eZ E.kU (aL E.dF) FN) E.cQ)) (aL E.bq)).1 (fun _ => wc (pP (ai (cT (n := nm.length) rfl E.cP (aL E.dX) E.cQ)) (aL E.bq)).1))))) (fun hp => ?_) (fun hp => ak ?_)
 . refine bu f9 ?_
   simp only [Bool.or_eq_true, Bool.not_eq_true', atZ, auY] at hp
   unfold Ea
   by_cases h1 : 0 < ks.length
   . by_cases h2 : es.length = ks.length
     . by_cases h3 : ss.length = ks.length
       . by_cases h4 : nm.length = ks.length
         . exfalso; omega
         . rw [asY h4, atG, as4, as4, as4]
       . rw [asY h3, atG, as4, as4]
     . rw [asY h2, atG, as4]
   . rw [asY h1, atG]
 simp only [atX, Bool.not_eq_false', atZ, auY] at hp
 have h2 : es.length = ks.length := by omega
 have h3 : ss.length = ks.length := by omega
 refine bu (t7 (aK (c_ (ks, es, ss) E.zJ E.lA (ao (aL E.dF) aG) (by dsimp only [eG]; omega) rfl) (t2 := .sh (.bl (GK es (es.length - 1)))) rfl) (fun _ => t7 (aK (c_ (ks, es, ss) E.Cw E.mS (ao (aL E.dF) aG) (by dsimp only [fk]; omega) rfl) (t2 := .sh (.bl (R9 ks es))) rfl) (fun _ => zl (aK (c_ (ks, es, ss) E.zK E.lB (ao (aL E.dF) aG) (by dsimp only [eK]; omega) rfl) (t2 := .sh (.bl (Py ks es ss))) rfl)))) ?_
 unfold Ea
 rw [asN (show 0 < ks.length by omega), asN h2, asN h3, asN (show nm.length = ks.length by omega)]
 rfl
theorem d8 : pM (az kX) ([("tree", aF), ("names", aF), ("many", aF), ("len", aE), ("are_elders_right", aE), ("are_kinds_right", aE), ("are_starts_right", aE)]) = true := Q.f
theorem Eh : aY ["tree", "names", "many"] ["tree", "names"] (az kX) := bz
abbrev yo : Stmt := top 12
abbrev Ei : Type := Str
def mj : Ei -> List L3.D := fun x => [.str x]
def mq : Ei -> Prop := fun x => x.length <= 1000
def mw : Ei -> T := fun x => (.sh (.bl (dO x)) : T)
structure YF (X : Cx) (CL : Q.g) : Prop extends cN X where
 IB : Ln X 0 "text"
 ach : Ln X 1 "sign"
 cQ : Gl X "len"
 IC : Gl X "LONGEST_NAME"
 afv : Gl X "WORDS"
 YG : Gl X "LETTERS"
 vO : Gl X "LETTERS_AND_FIGURES"
 cP : X.mg "len" = none
 IE : ∃ u, X.mg "LONGEST_NAME" = some (.int 12 u)
 MQ : GT X "WORDS" ["all", "and", "box", "call", "do", "far", "if", "in", "leaf", "near", "on", "one", "open", "out", "put", "say", "shut", "then", "to"]
 YH : ∃ u, X.mg "LETTERS" = some (.str "abcdefghijklmnopqrstuvwxyz" u)
 vP : ∃ u, X.mg "LETTERS_AND_FIGURES" = some (.str "abcdefghijklmnopqrstuvwxyz0123456789" u)
theorem YJ {b : Bx} (E : YF X CL) {x} (h : mq x) :
   aN X CL b yo ["text", "sign"] (mj x) (mw x) := by
 dsimp only [aN, mq, mj, mw] at h ⊢
 have hz : x.length <= sizeLine := atJ (cR h)
 refine b5 (t6 (sX (qM (aL E.IB) (ai bx)).1 (fun hb => (sX (OV (ai (adV E.cP (aL E.IB) (hz) E.cQ)) (ai (kN E.IE E.IC))).1 (fun hb2 => (wc (V2 (aL E.IB) (ai (BD E.MQ E.afv)) (rfl) rfl).1)))))) (fun hp => ?_) (fun hp => ak ?_)
 . refine bu f9 ?_
   have hp : (decide (x = "") || (decide ((12 : Int) < (x.length : Nat)) || decide (x ∈ BH))) = true := hp
   show T.sh _ = T.sh (.bl (dO x))
   refine congrArg (fun z => T.sh (.bl z)) ?_
   simp only [Bool.or_eq_true, atZ] at hp
   unfold dO
   rcases hp with z | z | z
   . subst z; decide +kernel
   . rw [asY (p := x.length <= 12) Q.a, atG, as4]
   . rw [asN z, Bool.not_true, atG, as4, as4]
 have hp : (decide (x = "") || (decide ((12 : Int) < (x.length : Nat)) || decide (x ∈ BH))) = false := hp
 simp only [atX, auY] at hp
 obtain ⟨h1, h2, h3⟩ := hp
 have hl1 : 1 <= x.length := by
   rcases Nat.eq_zero_or_pos x.length with z | z
   . exact absurd (aeu z) h1
   . exact z
 have hll : x.cps.toList.length = x.length := by simp [Str.length]
 have Yu : dO x = (isLt (x.cps.toList.getD 0 0) && x.cps.toList.all (fun c => isLt c || uh c)) := by
   unfold dO
   rw [asN hl1, asN (show x.length <= 12 by omega), asY h3]
   rfl
 refine b5 (FJ (ai (aaQ (aL E.IB) Q.b hz (aaX 0 Q.a Q.a))) (ai (Pg E.YH E.YG)) rfl).1 (fun hp => ?_) (fun hp => ak ?_)
 . refine bu f9 ?_
   rw [HZ] at hp
   have hp : (!isLt (x.cps.toList.getD 0 0)) = true := hp
   rw [Bool.not_eq_true'] at hp
   show T.sh _ = T.sh (.bl (dO x))
   rw [Yu, hp]
   rfl
 rw [HZ] at hp
 have hp : (!isLt (x.cps.toList.getD 0 0)) = false := hp
 rw [Bool.not_eq_false'] at hp
 refine pC E.g E.ach (fun j δ => (∃ o, δ = [some (.sh (.str x)), o]) /\ (x.cps.toList.take j).all (fun c => isLt c || uh c) = true)
   (aiw (v_ E.IB.1)) ⟨⟨_, rfl⟩, rfl⟩ (fun j δ ⟨⟨_, e⟩, _⟩ => by subst e; exact asR rfl) ?turn ?fin
 case turn =>
   rintro j d δ hj ⟨⟨o, rfl⟩, XC⟩
   obtain ⟨c, rfl, hc⟩ := R5 hj
   refine b5 (FJ (aL E.ach) (ai (Pg E.vP E.vO)) rfl).1 (fun hq => ?_) (fun hq => ak (ak ⟨⟨_, rfl⟩, ?_⟩))
   . refine bu f9 ?_
     rw [Wf] at hq
     have hq : (isLt c || uh c) = false := by simpa using hq
     show T.sh _ = T.sh (.bl (dO x))
     have ha : x.cps.toList.all (fun c => isLt c || uh c) = false := by
       rw [List.all_eq_false]
       exact ⟨c, atB hc, by rw [hq]; decide⟩
     rw [Yu, ha, as4]
   . rw [Wf] at hq
     have hq : (!(isLt c || uh c)) = false := hq
     rw [Bool.not_eq_false'] at hq
     rw [auC, hc, auB, XC]
     show (true && ([c].all fun c => isLt c || uh c)) = true
     rw [atV, hq]
     rfl
 case fin =>
   rintro δ ⟨⟨o, rfl⟩, XC⟩
   refine bu f9 ?_
   rw [show (pF x).length = x.cps.toList.length by simp [pF], List.take_length] at XC
   show T.sh _ = T.sh (.bl (dO x))
   rw [Yu, hp, XC]
   rfl
theorem lC : pM (az yo) ([("text", aF), ("sign", aF), ("len", aE), ("LONGEST_NAME", aE), ("WORDS", aE), ("LETTERS", aE), ("LETTERS_AND_FIGURES", aE)]) = true := Q.f
theorem Tc : aY ["text", "sign"] ["text"] (az yo) := bz
abbrev jt : Stmt := top 34
abbrev mU : Type := List Str
def fu : mU -> List L3.D := fun l => [.lst (l.map .str)]
def cI : mU -> Prop := fun l => (∀ x ∈ l, x.length <= 1000) /\ l.length <= 1000
def fz : mU -> T := fun l => (.sh (.bl (mC l)) : T)
structure Cy (X : Cx) (CL : Q.g) : Prop extends cN X where
 dX : Ln X 0 "names"
 je : Ln X 1 "name"
 mz : Gl X "is_name"
 cQ : Gl X "len"
 amg : Gl X "set"
 qH : Fc X CL "is_name" 1 1 mj mq mw
 cP : X.mg "len" = none
 amh : X.mg "set" = none
theorem Cz {b : Bx} (E : Cy X CL) {l} (h : cI l) :
   aN X CL b jt ["names", "name"] (fu l) (fz l) := by
 dsimp only [aN, cI, fu, fz] at h ⊢
 obtain ⟨h1, h3⟩ := h
 refine pC E.g E.je (fun j δ => ∃ o, yM dO l j /\ δ = [some (.sh (.lst (l.map .str))), o]) (t8 (v_ E.dX.1)) ⟨_, .zero, rfl⟩ Q.ao ?turn ?fin
 case turn =>
   rintro j d δ hj ⟨o, hU, rfl⟩
   obtain ⟨x, hxj, rfl⟩ : ∃ x, l[j]? = some x /\ L3.D.str x = d := by rw [atf] at hj; exact atH.mp hj
   have hx : x ∈ l := atB hxj
   refine b5 (gO (kM (aK (c_ x E.qH E.mz (ao (aL E.je) aG) (h1 x hx) rfl) (t2 := .sh (.bl (dO x))) rfl))) (fun hp => ?_) (fun hp => ak (ak ⟨_, hU.next hxj (by simpa using hp), rfl⟩))
   refine bu f9 ?_
   unfold mC
   rw [F5 hx (by simpa using hp)]
   rfl
 case fin =>
   rintro δ ⟨o, hU, rfl⟩
   rw [asG] at hU
   refine bu (aK (bG (ai (RX E.g E.cP E.amh (aL E.dX) h3 E.cQ E.amg)) (ai (cT (asG ..) E.cP (aL E.dX) E.cQ))).2 (t2 := .sh (.bl (mC l))) (congrArg (fun z => T.sh (.bl z)) ?_)) rfl
   unfold mC
   rw [hU.all, Bool.true_and]
   refine decide_eq_decide.mpr ?_
   rw [← aiQ]
   omega
theorem fK : pM (az jt) ([("names", aF), ("name", aF), ("is_name", aE), ("len", aE), ("set", aE)]) = true := Q.f
theorem zL : aY ["names", "name"] ["names"] (az jt) := bz
abbrev qx : Stmt := top 43
abbrev uK : Type := Int
def jS : uK -> List L3.D := fun i => [.int i]
def jT : uK -> Prop := fun i => True
def jU : uK -> T := fun i => (.sh (.bl (Rj i)) : T)
structure MR (X : Cx) (CL : Q.g) : Prop extends cN X where
 IA : Ln X 0 "number"
theorem MS {b : Bx} (E : MR X CL) {i} (h : jT i) :
   aN X CL b qx ["number"] (jS i) (jU i) := by
 dsimp only [aN, jT, jS, jU] at h ⊢
 exact bu (agR VA VA (ai (cg (ai Q.M))) (aL E.IA) (ai Q.M) (by with_unfolding_all rfl)).2 rfl
theorem Ka : pM (az qx) ([("number", aF)]) = true := Q.f
theorem Kc : aY ["number"] ["number"] (az qx) := bz
abbrev ju : Stmt := top 35
abbrev mV : Type := Q.C
def gT : mV -> List L3.D := fun l => [.lst (l.map kH)]
def dQ : mV -> Prop := fun l => (∀ q ∈ l, q.1.length <= 1000) /\ l.length <= 1000
def gU : mV -> T := fun l => (.sh (.bl (pS l)) : T)
structure CB (X : Cx) (CL : Q.g) : Prop extends cN X where
 fN : Ln X 0 "boxes"
 Iv : Ln X 1 "box"
 mW : Gl X "is_bounded"
 eU : Gl X "are_names_right"
 uL : Fc X CL "is_bounded" 1 1 jS jT jU
 jv : Fc X CL "are_names_right" 2 1 fu cI fz
theorem CD {b : Bx} (E : CB X CL) {l} (h : dQ l) :
   aN X CL b ju ["boxes", "box"] (gT l) (gU l) := by
 dsimp only [aN, dQ, gT, gU] at h ⊢
 obtain ⟨h1, h3⟩ := h
 refine pC E.g E.Iv (fun j δ => ∃ o, yM (fun q : Str × Int => Rj q.2) l j /\ δ = [some (.sh (.lst (l.map kH))), o]) (t8 (v_ E.fN.1)) ⟨_, .zero, rfl⟩ Q.ao ?turn ?fin
 case turn =>
   rintro j d δ hj ⟨o, hU, rfl⟩
   obtain ⟨q, hqj, rfl⟩ : ∃ q, l[j]? = some q /\ kH q = d := by rw [atf] at hj; exact atH.mp hj
   refine b5 (gO (kM (aK (c_ q.2 E.uL E.mW (ao (dN (aL E.Iv) Q.b (b6 (j := 1) rfl)) aG) trivial rfl) (t2 := .sh (.bl (Rj q.2))) rfl))) (fun hp => ?_) (fun hp => ak (ak ⟨_, hU.next hqj (by simpa using hp), rfl⟩))
   refine bu f9 ?_
   unfold pS
   rw [F5 (p := fun q : Str × Int => Rj q.2) (List.mem_of_getElem? hqj) (by simpa using hp)]
   rfl
 case fin =>
   rintro δ ⟨o, hU, rfl⟩
   rw [asG] at hU
   have hl : ∀ x ∈ l.map (·.1), x.length <= 1000 := fun x hx => by
     obtain ⟨q, hq, rfl⟩ := asW.mp hx
     exact h1 q hq
   refine bu (aK (c_ (l.map (·.1)) E.jv E.eU (ao (bK (aK (rK (p := fun _ => true) (g := fun d => T.sh (.str d.at1.toS)) (eX .nil Q.d) E.g.calm (t8 (v_ E.fN.1)) (.inr rfl) (fun C s0 H0 f0 b' d hd => ?Yr) (Nat.le_of_lt (cR (by rw [List.length_map]; omega)))) ?ceq)) aG) (by dsimp only [cI]; exact ⟨hl, by rw [List.length_map]; exact h3⟩) rfl) (t2 := .sh (.bl (mC (l.map (·.1))))) rfl) ?res
   case Yr =>
     obtain ⟨q, hq, rfl⟩ := asW.mp hd
     exact ⟨rfl, fun _ => b9 (dN Q.ae Q.b (b6 (j := 0) rfl)) rfl⟩
   case ceq =>
     rw [lZ, ath, ath, ath]
     rfl
   case res =>
     unfold pS
     rw [hU.all]
     rfl
theorem iK : pM (az ju) ([("boxes", aF), ("box", aF), ("is_bounded", aE), ("are_names_right", aE)]) = true := Q.f
theorem zM : aY ["boxes", "box"] ["boxes"] (az ju) := bz
abbrev kZ : Stmt := top 41
abbrev k6 : Type := List L3.D × List L3.D × L3.D × List L3.D × List L3.D × List L3.D × Int × Int
def gF : k6 -> List L3.D := fun (bs, nm, tr, is, os, ws, i, c) => [dZ bs nm tr is os ws, .tup [.int i, .int c]]
def gG : k6 -> Prop := fun (bs, nm, tr, is, os, ws, i, c) => True
def gH : k6 -> T := fun (bs, nm, tr, is, os, ws, i, c) => (.sh (.bl (D6 bs.length i c)) : T)
structure Gb (X : Cx) (CL : Q.g) : Prop extends cN X where
 aZ : Ln X 0 "chart"
 IG : Ln X 1 "term"
 d7 : Gl X "is_place"
 mW : Gl X "is_bounded"
 fJ : Fc X CL "is_place" 1 2 gA gB gC
 uL : Fc X CL "is_bounded" 1 1 jS jT jU
 b7 : DM X.K (CL "Chart")
 fC : bQ X.K (CL "Chart") "boxes"
theorem Gd {b : Bx} (E : Gb X CL) {cz : k6} (h : gG cz) :
   aN X CL b kZ ["chart", "term"] (gF cz) (gH cz) := by
 obtain ⟨bs, nm, tr, is, os, ws, i, c⟩ := cz
 dsimp only [aN, gG, gF, gH] at h ⊢
 exact bu (t7 (alh (bG (dN (aL E.IG) Q.b rfl) (ai Q.u)).2 (fun _ => zl (aK (c_ (i, bs) E.fJ E.d7 (ao (dN (aL E.IG) Q.b rfl) (ao (dJ E.b7 E.fC (aL E.aZ) rM) aG)) trivial rfl) (t2 := .sh (.bl (rN i bs.length))) rfl))) (fun _ => zl (aK (c_ c E.uL E.mW (ao (dN (aL E.IG) Q.b rfl) aG) trivial rfl) (t2 := .sh (.bl (Rj c))) rfl))) rfl
theorem j6 : pM (az kZ) ([("chart", aF), ("term", aF), ("is_place", aE), ("is_bounded", aE)]) = true := Q.f
theorem Ej : aY ["chart", "term"] ["chart", "term"] (az kZ) := bz
abbrev k7 : Stmt := top 40
abbrev k9 : Type := List L3.D × List L3.D × L3.D × List L3.D × List L3.D × List L3.D × pR
def jw : k9 -> List L3.D := fun (bs, nm, tr, is, os, ws, q) => [dZ bs nm tr is os ws, F6 q]
def jx : k9 -> Prop := fun (bs, nm, tr, is, os, ws, q) => J6 q
def jy : k9 -> T := fun (bs, nm, tr, is, os, ws, q) => (.sh (.bl (Yl bs.length q)) : T)
structure Ge (X : Cx) (CL : Q.g) : Prop extends cN X where
 aZ : Ln X 0 "chart"
 jf : Ln X 1 "deed"
 sQ : Ln X 2 "word"
 d7 : Gl X "is_place"
 e7 : Gl X "is_term_right"
 mz : Gl X "is_name"
 fJ : Fc X CL "is_place" 1 2 gA gB gC
 iV : Fc X CL "is_term_right" 2 2 gF gG gH
 qH : Fc X CL "is_name" 1 1 mj mq mw
 b7 : DM X.K (CL "Chart")
 fC : bQ X.K (CL "Chart") "boxes"
theorem Gf {b : Bx} (E : Ge X CL) {cz : k9} (h : jx cz) :
   aN X CL b k7 ["chart", "deed", "word"] (jw cz) (jy cz) := by
 obtain ⟨bs, nm, tr, is, os, ws, q⟩ := cz
 dsimp only [aN, jx, jw, jy] at h ⊢
 cases q with
 | put i a' c =>
   refine bf E.g E.sQ (b9 (dN (aL E.jf) Q.b (b6 (j := 0) rfl)) rfl) ?_
   refine b5 (qM (aL E.sQ) (ai bx)).1 (fun _ => ?_) (fun hp => absurd (asP hp) Q.d)
   exact bu (t7 (aK (c_ (i, bs) E.fJ E.d7 (ao (dN (aL E.jf) Q.b (b6 (j := 1) rfl)) (ao (dJ E.b7 E.fC (aL E.aZ) rM) aG)) trivial rfl) (t2 := .sh (.bl (rN i bs.length))) rfl) (fun _ => zl (aK (c_ (bs, nm, tr, is, os, ws, a', c) E.iV E.e7 (ao (aL E.aZ) (ao (dN (aL E.jf) Q.b (b6 (j := 2) rfl)) aG)) trivial rfl) (t2 := .sh (.bl (D6 bs.length a' c))) rfl))) rfl
 | say w x a' c =>
   obtain ⟨⟨w1, w2⟩, hx⟩ : (w ≠ "put" /\ w ≠ "call") /\ x.length <= 1000 := h
   refine bf E.g E.sQ (b9 (dN (aL E.jf) Q.b (b6 (j := 0) rfl)) rfl) ?_
   refine b5 (qM (aL E.sQ) (ai bx)).1 (fun hp => absurd (asI hp) w1) (fun _ => ak ?_)
   refine b5 (qM (aL E.sQ) (ai bx)).1 (fun hp => ?_) (fun hp => ak ?_)
   . refine bu (t7 (aK (c_ x E.qH E.mz (ao (dN (aL E.jf) Q.b (b6 (j := 1) rfl)) aG) hx rfl) (t2 := .sh (.bl (dO x))) rfl) (fun _ => zl (aK (c_ (bs, nm, tr, is, os, ws, a', c) E.iV E.e7 (ao (aL E.aZ) (ao (dN (aL E.jf) Q.b (b6 (j := 2) rfl)) aG)) trivial rfl) (t2 := .sh (.bl (D6 bs.length a' c))) rfl))) ?_
     have hp : decide (w = "say") = true := hp
     show T.sh (.bl (dO x && D6 bs.length a' c)) = T.sh (.bl (decide (w = "say") && (dO x && D6 bs.length a' c)))
     rw [hp]
     rfl
   . refine bu (t7 (q := false) (qM (aL E.sQ) (ai bx)).2 (fun hq => absurd (asI hq) w2)) ?_
     have hp : decide (w = "say") = false := hp
     show T.sh (.bl (_ && false)) = T.sh (.bl (decide (w = "say") && (dO x && D6 bs.length a' c)))
     rw [hp, as4]
     rfl
 | call x =>
   have hx : x.length <= 1000 := h
   refine bf E.g E.sQ (b9 (dN (aL E.jf) Q.b (b6 (j := 0) rfl)) rfl) ?_
   refine b5 (qM (aL E.sQ) (ai bx)).1 (fun hp => absurd (asI hp) Q.d) (fun _ => ak ?_)
   refine b5 (qM (aL E.sQ) (ai bx)).1 (fun hp => absurd (asI hp) Q.d) (fun _ => ak ?_)
   exact bu (aK (t7 (qM (aL E.sQ) (ai bx)).2 (fun _ => zl (aK (c_ x E.qH E.mz (ao (dN (aL E.jf) Q.b (b6 (j := 1) rfl)) aG) hx rfl) (t2 := .sh (.bl (dO x))) rfl))) (t2 := .sh (.bl (dO x))) (congrArg (fun z => T.sh (.bl z)) (by rw [asN rfl]; rfl))) rfl
theorem fE : pM (az k7) ([("chart", aF), ("deed", aF), ("word", aF), ("is_place", aE), ("is_term_right", aE), ("is_name", aE)]) = true := Q.f
theorem Ek : aY ["chart", "deed", "word"] ["chart", "deed"] (az k7) := bz
abbrev jz : Stmt := top 36
abbrev jA : Type := List L3.D × List L3.D × L3.D × List (List pR) × List (List pR) × List p8
def gV : jA -> List L3.D := fun (bs, nm, tr, is, os, ws) => [dZ bs nm tr (is.map bW) (os.map bW) (ws.map jG)]
def dR : jA -> Prop := fun (bs, nm, tr, is, os, ws) => is.length <= 300 /\ os.length <= 300 /\ ws.length <= 100 /\ (∀ l ∈ is ++ os ++ ws.map (·.dl), ∀ q ∈ l, J6 q)
def gW : jA -> T := fun (bs, nm, tr, is, os, ws) => (.sh (.bl (om nm.length bs.length is os ws)) : T)
structure CF (X : Cx) (CL : Q.g) : Prop extends cN X where
 aZ : Ln X 0 "chart"
 bq : Ln X 1 "many"
 x8 : Ln X 2 "deeds"
 jf : Ln X 3 "deed"
 cQ : Gl X "len"
 pT : Gl X "is_deed_right"
 cP : X.mg "len" = none
 Gg : Fc X CL "is_deed_right" 3 2 jw jx jy
 afw : ∃ u, X.mg "DEEDS" = some (.int 3 u)
 b7 : DM X.K (CL "Chart")
 cF : bQ X.K (CL "Chart") "names"
 r9 : bQ X.K (CL "Chart") "ins"
 qw : bQ X.K (CL "Chart") "outs"
 mR : bQ X.K (CL "Chart") "ways"
theorem CG {b : Bx} (E : CF X CL) {cz : jA} (h : dR cz) :
   aN X CL b jz ["chart", "many", "deeds", "deed"] (gV cz) (gW cz) := by
 obtain ⟨bs, nm, tr, is, os, ws⟩ := cz
 dsimp only [aN, dR, gV, gW] at h ⊢
 obtain ⟨h1, h2, h4, h5⟩ := h
 refine bf E.g E.bq (cT (n := nm.length) rfl E.cP (dJ E.b7 E.cF (aL E.aZ) iu) E.cQ) ?_
 refine b5 (t6 (sX (pP (ai (cT (n := is.length) (asG ..) E.cP (dJ E.b7 E.r9 (aL E.aZ) KG) E.cQ)) (aL E.bq)).1 (fun _ => wc (pP (ai (cT (n := os.length) (asG ..) E.cP (dJ E.b7 E.qw (aL E.aZ) HX) E.cQ)) (aL E.bq)).1))) (fun hp => ?_) (fun hp => ak ?_)
 . refine bu f9 ?_
   have hp : (!decide (((is.length : Nat) : Int) = (nm.length : Nat)) || !decide (((os.length : Nat) : Int) = (nm.length : Nat))) = true := hp
   unfold om
   by_cases e1 : is.length = nm.length
   . by_cases e2 : os.length = nm.length
     . rw [asN (show ((is.length : Nat) : Int) = (nm.length : Nat) by omega), asN (show ((os.length : Nat) : Int) = (nm.length : Nat) by omega)] at hp
       cases hp
     . rw [asY e2, atG, as4]
   . rw [asY e1, atG]
 have hp : (!decide (((is.length : Nat) : Int) = (nm.length : Nat)) || !decide (((os.length : Nat) : Int) = (nm.length : Nat))) = false := hp
 rw [atX] at hp
 have e1 : is.length = nm.length := by have : ((is.length : Nat) : Int) = (nm.length : Nat) := by simpa using hp.1
                                       omega
 have e2 : os.length = nm.length := by have : ((os.length : Nat) : Int) = (nm.length : Nat) := by simpa using hp.2
                                       omega
 have hdd : om nm.length bs.length is os ws = (is ++ os ++ ws.map (·.dl)).all fun l => l.all (Yl bs.length) := by
   unfold om
   rw [asN e1, asN e2]
   rfl
 have im : ∀ l : List (List pR), D.cV (l.map bW) = true := fun l => bS iS l
 rw [hdd]
 refine pC E.g E.x8 (fun j δ => ∃ o1 o2, yM (fun l => l.all (Yl bs.length)) (is ++ os ++ ws.map (·.dl)) j /\ δ = [some (.sh (dZ bs nm tr (is.map bW) (os.map bW) (ws.map jG))), some (.sh (.int nm.length)), o1, o2])
   (t8 (Lw (ds := (is ++ os ++ ws.map (·.dl)).map bW) (aK (ua (ds := (is ++ os).map bW) (V0 := (ws.map (·.dl)).map bW) (bK (aK (ua (dJ E.b7 E.r9 (aL E.aZ) KG) (dJ E.b7 E.qw (aL E.aZ) HX) (im is) (im os) (atJ (cR (by simp; omega)))) (by rw [← aul]))) (bK (aK (rK (p := fun _ => true) (g := fun d => T.sh (aoT d)) (eX .nil Q.d) E.g.calm (t8 (Hy E.b7 E.mR (v_ E.aZ.1) HY)) (.inr rfl) (fun C s0 H0 f0 b' d hd => ?Yr) (atJ (cR (by rw [asG]; omega)))) ?ceq)) (im _) (im _) (atJ (cR (by simp; omega)))) (by rw [← aul])))) ⟨_, _, .zero, rfl⟩ Q.aK ?turn ?fin
 case Yr =>
   obtain ⟨w, hw, rfl⟩ := asW.mp hd
   exact ⟨rfl, fun _ => b9 (dN Q.ae (ai (kN (by exact E.afw) (qb Q.d))) (b6 (j := 3) rfl)) (iS w.dl)⟩
 case ceq =>
   rw [lZ, ath, ath, ath]
   rfl
 case turn =>
   rintro j d δ hj ⟨o1, o2, hU, rfl⟩
   obtain ⟨l, hlj, rfl⟩ : ∃ l, (is ++ os ++ ws.map (·.dl))[j]? = some l /\ bW l = d := by rw [atf] at hj; exact atH.mp hj
   have hlm := atB hlj
   have hq := h5 l hlm
   refine pC E.g E.jf (fun j δ => ∃ o2, yM (Yl bs.length) l j /\ δ = [some (.sh (dZ bs nm tr (is.map bW) (os.map bW) (ws.map jG))), some (.sh (.int nm.length)), some (.sh (bW l)), o2]) (aaS (v_ E.x8.1)) ⟨_, .zero, rfl⟩ Q.ao ?P4 ?fin2
   case P4 =>
     rintro i d δ hi ⟨o2, hU2, rfl⟩
     obtain ⟨q, hqj, rfl⟩ : ∃ q, l[i]? = some q /\ F6 q = d := by rw [atf] at hi; exact atH.mp hi
     have hqm := atB hqj
     refine b5 (gO (kM (aK (c_ (bs, nm, tr, is.map bW, os.map bW, ws.map jG, q) E.Gg E.pT (ao (aL E.aZ) (ao (aL E.jf) aG)) (hq q hqm) rfl) (t2 := .sh (.bl (Yl bs.length q))) rfl))) (fun hp => ?_) (fun hp => ak (ak ⟨_, hU2.next hqj (by simpa using hp), rfl⟩))
     refine bu f9 ?_
     rw [F5 (p := fun l : List pR => l.all (Yl bs.length)) hlm (F5 hqm (by simpa using hp))]
   case fin2 =>
     rintro δ ⟨o2, hU2, rfl⟩
     rw [asG] at hU2
     exact ak ⟨_, _, hU.next hlj hU2.all, rfl⟩
 case fin =>
   rintro δ ⟨o1, o2, hU, rfl⟩
   rw [asG] at hU
   exact bu f9 (by rw [hU.all])
theorem d9 : pM (az jz) ([("chart", aF), ("many", aF), ("deeds", aF), ("deed", aF), ("len", aE), ("is_deed_right", aE)]) = true := Q.f
theorem zN : aY ["chart", "many", "deeds", "deed"] ["chart"] (az jz) := bz
abbrev mX : Stmt := top 39
abbrev mY : Type := List L3.D × List L3.D × L3.D × List L3.D × List L3.D × List L3.D × ZU
def j7 : mY -> List L3.D := fun (bs, nm, tr, is, os, ws, q) => [dZ bs nm tr is os ws, yL q]
def j8 : mY -> Prop := fun (bs, nm, tr, is, os, ws, q) => R7 q
def j9 : mY -> T := fun (bs, nm, tr, is, os, ws, q) => (.sh (.bl (ZV nm.length bs.length q)) : T)
structure II (X : Cx) (CL : Q.g) : Prop extends cN X where
 aZ : Ln X 0 "chart"
 zf : Ln X 1 "ask"
 IJ : Ln X 2 "mark"
 d7 : Gl X "is_place"
 afx : Gl X "MARKS"
 e7 : Gl X "is_term_right"
 fJ : Fc X CL "is_place" 1 2 gA gB gC
 MT : GT X "MARKS" ["<", "<=", "=", "!="]
 iV : Fc X CL "is_term_right" 2 2 gF gG gH
 b7 : DM X.K (CL "Chart")
 cF : bQ X.K (CL "Chart") "names"
theorem IK {b : Bx} (E : II X CL) {cz : mY} (h : j8 cz) :
   aN X CL b mX ["chart", "ask", "mark"] (j7 cz) (j9 cz) := by
 obtain ⟨bs, nm, tr, is, os, ws, q⟩ := cz
 dsimp only [aN, j8, j7, j9] at h ⊢
 cases q with
 | R6 x m =>
   refine bf E.g E.IJ (b9 (dN (aL E.zf) Q.b (b6 (j := 0) rfl)) rfl) ?_
   refine b5 (aaW (l := ["open", "shut"]) (aL E.IJ) (iA rfl)).1 (fun _ => ?_) (fun hp => absurd (show x ∈ (["open", "shut"] : List Str) from h) (asP hp))
   exact bu (aK (c_ (m, nm) E.fJ E.d7 (ao (dN (aL E.zf) Q.b (b6 (j := 1) rfl)) (ao (dJ E.b7 E.cF (aL E.aZ) iu) aG)) trivial rfl) rfl) rfl
 | num mk a1 c1 a2 c2 =>
   refine bf E.g E.IJ (b9 (dN (aL E.zf) Q.b (b6 (j := 0) rfl)) rfl) ?_
   refine b5 (aaW (l := ["open", "shut"]) (aL E.IJ) (iA rfl)).1 (fun hp => absurd (asI hp) h) (fun _ => ak ?_)
   exact bu (t7 (V2 (l := ["<", "<=", "=", "!="]) (aL E.IJ) (ai (BD E.MT E.afx)) rfl rfl).2 (fun _ => t7 (aK (c_ (bs, nm, tr, is, os, ws, a1, c1) E.iV E.e7 (ao (aL E.aZ) (ao (dN (aL E.zf) Q.b (b6 (j := 1) rfl)) aG)) trivial rfl) (t2 := .sh (.bl (D6 bs.length a1 c1))) rfl) (fun _ => zl (aK (c_ (bs, nm, tr, is, os, ws, a2, c2) E.iV E.e7 (ao (aL E.aZ) (ao (dN (aL E.zf) Q.b (b6 (j := 2) rfl)) aG)) trivial rfl) (t2 := .sh (.bl (D6 bs.length a2 c2))) rfl)))) rfl
theorem fX : pM (az mX) ([("chart", aF), ("ask", aF), ("mark", aF), ("is_place", aE), ("MARKS", aE), ("is_term_right", aE)]) = true := Q.f
theorem Gh : aY ["chart", "ask", "mark"] ["chart", "ask"] (az mX) := bz
abbrev mZ : Stmt := top 38
abbrev m5 : Type := List L3.D × List L3.D × L3.D × List L3.D × List L3.D × List L3.D × p8
def kg : m5 -> List L3.D := fun (bs, nm, tr, is, os, ws, w) => [dZ bs nm tr is os ws, jG w]
def kh : m5 -> Prop := fun (bs, nm, tr, is, os, ws, w) => w.ok
def ki : m5 -> T := fun (bs, nm, tr, is, os, ws, w) => (.sh (.bl (R8 nm.length bs.length w)) : T)
structure IL (X : Cx) (CL : Q.g) : Prop extends cN X where
 aZ : Ln X 0 "chart"
 bM : Ln X 1 "way"
 qS : Ln X 2 "target"
 zB : Ln X 3 "mode"
 zf : Ln X 4 "ask"
 aci : Gl X "TARGET"
 ajK : Gl X "MODE"
 d7 : Gl X "is_place"
 CH : Gl X "SOURCE"
 mz : Gl X "is_name"
 ajL : Gl X "SIGN"
 afy : Gl X "MODES"
 ajM : Gl X "ASKS"
 qY : Gl X "is_ask_right"
 acj : ∃ u, X.mg "TARGET" = some (.int 4 u)
 ajN : ∃ u, X.mg "MODE" = some (.int 5 u)
 fJ : Fc X CL "is_place" 1 2 gA gB gC
 CJ : ∃ u, X.mg "SOURCE" = some (.int 0 u)
 qH : Fc X CL "is_name" 1 1 mj mq mw
 ajO : ∃ u, X.mg "SIGN" = some (.int 1 u)
 MV : GT X "MODES" ["new", "near", "far"]
 ajP : ∃ u, X.mg "ASKS" = some (.int 2 u)
 IQ : Fc X CL "is_ask_right" 3 2 j7 j8 j9
 b7 : DM X.K (CL "Chart")
 cF : bQ X.K (CL "Chart") "names"
theorem IU {b : Bx} (E : IL X CL) {cz : m5} (h : kh cz) :
   aN X CL b mZ ["chart", "way", "target", "mode", "ask"] (kg cz) (ki cz) := by
 obtain ⟨bs, nm, tr, is, os, ws, w⟩ := cz
 dsimp only [aN, kh, kg, ki] at h ⊢
 obtain ⟨src, sg, al, dl, tg, md⟩ := w
 obtain ⟨h2, h6⟩ : sg.length <= 1000 /\ ∀ q ∈ al, R7 q := h
 have hW : R8 nm.length bs.length ⟨src, sg, al, dl, tg, md⟩ = (rN src nm.length && (dO sg && (decide (md ∈ um) && ((if tg = -1 then decide (md = "new") else rN tg nm.length) && al.all (ZV nm.length bs.length))))) := rfl
 rw [hW]
 refine bf E.g E.qS (b9 (dN (aL E.bM) (ai (kN E.acj E.aci)) (b6 (j := 4) rfl)) rfl) ?_
 refine bf E.g E.zB (b9 (dN (aL E.bM) (ai (kN E.ajN E.ajK)) (b6 (j := 5) rfl)) rfl) ?_
 refine b5 (t6 (sX (gO (kM (aK (c_ (src, nm) E.fJ E.d7 (ao (dN (aL E.bM) (ai (kN E.CJ E.CH)) (b6 (j := 0) rfl)) (ao (dJ E.b7 E.cF (aL E.aZ) iu) aG)) trivial rfl) (t2 := .sh (.bl (rN src nm.length))) rfl))) (fun _ => sX (gO (kM (aK (c_ sg E.qH E.mz (ao (dN (aL E.bM) (ai (kN E.ajO E.ajL)) (b6 (j := 1) rfl)) aG) h2 rfl) (t2 := .sh (.bl (dO sg))) rfl))) (fun _ => wc (V3 (l := um) (aL E.zB) (ai (BD E.MV E.afy)) rfl rfl).1)))) (fun hp => ?_) (fun hp => ak ?_)
 . have hp : (!rN src nm.length || (!dO sg || !decide (md ∈ um))) = true := hp
   refine bu f9 ?_
   generalize decide (md ∈ um) = b3 at hp ⊢
   generalize rN src nm.length = b1 at hp ⊢
   generalize dO sg = b2 at hp ⊢
   cases b1
   . rfl
   . cases b2
     . rfl
     . cases b3
       . rfl
       . cases hp
 have hp : (!rN src nm.length || (!dO sg || !decide (md ∈ um))) = false := hp
 rw [atX, atX] at hp
 rw [show rN src nm.length = true from by simpa using hp.1, show dO sg = true from by simpa using hp.2.1, show decide (md ∈ um) = true from by simpa using hp.2.2]
 refine aoj (fun δ => (if tg = -1 then decide (md = "new") else rN tg nm.length) = true /\ δ = [some (.sh (dZ bs nm tr is os ws)), some (.sh (jG ⟨src, sg, al, dl, tg, md⟩)), some (.sh (.int tg)), some (.sh (.str md)), none]) (fun δ2 e2 => ?_) (fun k => ?_)
 . obtain ⟨e1, rfl⟩ := e2
   rw [e1]
   refine pC E.g E.zf (fun j δ => ∃ o, yM (ZV nm.length bs.length) al j /\ δ = [some (.sh (dZ bs nm tr is os ws)), some (.sh (jG ⟨src, sg, al, dl, tg, md⟩)), some (.sh (.int tg)), some (.sh (.str md)), o])
     (aaS (b9 (dN (aL E.bM) (ai (kN E.ajP E.ajM)) (b6 (j := 2) rfl)) (tE al))) ⟨_, .zero, rfl⟩ Q.ao ?turn ?fin
   case turn =>
     rintro j d δ hj ⟨o, hU, rfl⟩
     obtain ⟨q, hqj, rfl⟩ : ∃ q, al[j]? = some q /\ yL q = d := by rw [atf] at hj; exact atH.mp hj
     have hqm := atB hqj
     refine b5 (gO (kM (aK (c_ (bs, nm, tr, is, os, ws, q) E.IQ E.qY (ao (aL E.aZ) (ao (aL E.zf) aG)) (h6 q hqm) rfl) (t2 := .sh (.bl (ZV nm.length bs.length q))) rfl))) (fun hp => ?_) (fun hp => ak (ak ⟨_, hU.next hqj (by simpa using hp), rfl⟩))
     exact bu f9 (by rw [F5 hqm (by simpa using hp)]; rfl)
   case fin =>
     rintro δ ⟨o, hU, rfl⟩
     rw [asG] at hU
     exact bu f9 (by rw [hU.all]; rfl)
 refine b5 (bG (aL E.qS) (ai Q.u)).1 (fun hp => ?_) (fun hp => ?_)
 . have e1 : tg = -1 := asI hp
   refine b5 (aaM (aL E.zB) (ai bx)).1 (fun hp => ?_) (fun hp => ak (ak (k _ ⟨by rw [if_pos e1]; simpa using hp, rfl⟩)))
   refine bu f9 ?_
   rw [if_pos e1, show decide (md = "new") = false from by simpa using hp]
   rfl
 . have e1 : ¬ tg = -1 := asP hp
   refine b5 (gO (kM (aK (c_ (tg, nm) E.fJ E.d7 (ao (aL E.qS) (ao (dJ E.b7 E.cF (aL E.aZ) iu) aG)) trivial rfl) (t2 := .sh (.bl (rN tg nm.length))) rfl))) (fun hp => ?_) (fun hp => ak (ak (k _ ⟨by rw [if_neg e1]; simpa using hp, rfl⟩)))
   refine bu f9 ?_
   rw [if_neg e1, show rN tg nm.length = false from by simpa using hp]
   rfl
theorem bU : pM (az mZ) ([("chart", aF), ("way", aF), ("target", aF), ("mode", aF), ("ask", aF), ("TARGET", aE), ("MODE", aE), ("is_place", aE), ("SOURCE", aE), ("is_name", aE), ("SIGN", aE), ("MODES", aE), ("ASKS", aE), ("is_ask_right", aE)]) = true := Q.f
theorem Gi : aY ["chart", "way", "target", "mode", "ask"] ["chart", "way"] (az mZ) := bz
abbrev ko : Stmt := top 37
abbrev kr : Type := List L3.D × List L3.D × L3.D × List L3.D × List L3.D × List p8
def iL : kr -> List L3.D := fun (bs, nm, tr, is, os, ws) => [dZ bs nm tr is os (ws.map jG)]
def iM : kr -> Prop := fun (bs, nm, tr, is, os, ws) => ∀ w ∈ ws, w.ok
def iN : kr -> T := fun (bs, nm, tr, is, os, ws) => (.sh (.bl (Ic nm.length bs.length 0 ws)) : T)
structure El (X : Cx) (CL : Q.g) : Prop extends cN X where
 aZ : Ln X 0 "chart"
 Td : Ln X 1 "last"
 bM : Ln X 2 "way"
 CH : Gl X "SOURCE"
 qZ : Gl X "is_way_right"
 CJ : ∃ u, X.mg "SOURCE" = some (.int 0 u)
 IV : Fc X CL "is_way_right" 4 2 kg kh ki
 b7 : DM X.K (CL "Chart")
 mR : bQ X.K (CL "Chart") "ways"
theorem Em {b : Bx} (E : El X CL) {cz : kr} (h : iM cz) :
   aN X CL b ko ["chart", "last", "way"] (iL cz) (iN cz) := by
 obtain ⟨bs, nm, tr, is, os, ws⟩ := cz
 dsimp only [aN, iM, iL, iN] at h ⊢
 refine bf E.g E.Td aj ?_
 refine pC E.g E.bM (fun j δ => ∃ (l : Int) (o : Option T), Ic nm.length bs.length 0 ws = Ic nm.length bs.length l (ws.drop j) /\ δ = [some (.sh (dZ bs nm tr is os (ws.map jG))), some (.sh (.int l)), o])
   (t8 (Hy E.b7 E.mR (v_ E.aZ.1) HY)) ⟨0, none, rfl, rfl⟩ Q.aK ?turn ?fin
 case turn =>
   rintro j d δ hj ⟨l, o, hl, rfl⟩
   obtain ⟨w, hw, rfl⟩ : ∃ w, ws[j]? = some w /\ jG w = d := by rw [atf] at hj; exact atH.mp hj
   have GO : j < ws.length := (atl.mp hw).1
   have hdr : ws.drop j = w :: ws.drop (j + 1) := by rw [auQ GO, (atl.mp hw).2]
   have hwm : w ∈ ws := atB hw
   rw [hdr, Ic] at hl
   refine b5 (t6 (sX (Kp (dN (aL E.bM) (ai (kN E.CJ E.CH)) (b6 (j := 0) rfl)) (aL E.Td)).1 (fun _ => wc (gO (kM (aK (c_ (bs, nm, tr, is, os, ws.map jG, w) E.IV E.qZ (ao (aL E.aZ) (ao (aL E.bM) aG)) (h w hwm) rfl) (t2 := .sh (.bl (R8 nm.length bs.length w))) rfl)))))) (fun hp => ?_) (fun hp => ak ?_)
   . have hp : (decide (w.src < l) || !R8 nm.length bs.length w) = true := hp
     refine bu f9 ?_
     rw [hl]
     cases hd : decide (w.src < l) with
     | true => rfl
     | false =>
       rw [hd] at hp
       rw [show R8 nm.length bs.length w = false from by simpa using hp]
       rfl
   . have hp : (decide (w.src < l) || !R8 nm.length bs.length w) = false := hp
     rw [atX] at hp
     rw [hp.1, show R8 nm.length bs.length w = true from by simpa using hp.2] at hl
     exact bf E.g E.Td (b9 (dN (aL E.bM) (ai (kN E.CJ E.CH)) (b6 (j := 0) rfl)) rfl) (ak ⟨w.src, _, hl, rfl⟩)
 case fin =>
   rintro δ ⟨l, o, hl, rfl⟩
   rw [asG, List.drop_length] at hl
   exact bu f9 (by rw [hl]; rfl)
theorem gI : pM (az ko) ([("chart", aF), ("last", aF), ("way", aF), ("SOURCE", aE), ("is_way_right", aE)]) = true := Q.f
theorem CK : aY ["chart", "last", "way"] ["chart"] (az ko) := bz
abbrev wY : Stmt := top 29
abbrev CM : Type := Q.C × List Str × List Str × List Int × List Int × List (List pR) × List (List pR) × List p8
def rg : CM -> List L3.D := fun (bs, nm, ks, es, ss, is, os, ws) => [dZ (bs.map kH) (nm.map .str) (fG ks es ss) (is.map bW) (os.map bW) (ws.map jG)]
def oE : CM -> Prop := fun (bs, nm, ks, es, ss, is, os, ws) => BJ bs nm ks is os ws /\ ig bs nm ks es ss is os ws = -1
def rm : CM -> T := fun (bs, nm, ks, es, ss, is, os, ws) => (.sh .non : T)
structure Qo (X : Cx) (CL : Q.g) : Prop extends cN X where
 aZ : Ln X 0 "chart"
 lg : Gl X "is_tree_right"
 fF : Gl X "BadTree"
 eU : Gl X "are_names_right"
 fY : Gl X "BadName"
 jB : Gl X "are_boxes_right"
 jV : Gl X "BadBox"
 jC : Gl X "are_deeds_right"
 ja : Gl X "BadDeed"
 ku : Gl X "are_ways_right"
 m7 : Gl X "BadWay"
 vA : Fc X CL "is_tree_right" 4 2 jo jq jr
 ef : X.mg "BadTree" = some Q.F
 zO : fU X.K (CL "BadTree")
 jv : Fc X CL "are_names_right" 2 1 fu cI fz
 fc : X.mg "BadName" = some Q.G
 zP : fU X.K (CL "BadName")
 se : Fc X CL "are_boxes_right" 3 1 gT dQ gU
 g9 : X.mg "BadBox" = some Q.I
 En : fU X.K (CL "BadBox")
 sf : Fc X CL "are_deeds_right" 4 1 gV dR gW
 gP : X.mg "BadDeed" = some Q.H
 zQ : fU X.K (CL "BadDeed")
 tR : Fc X CL "are_ways_right" 5 1 iL iM iN
 kB : X.mg "BadWay" = some Q.J
 Eo : fU X.K (CL "BadWay")
 b7 : DM X.K (CL "Chart")
 qv : bQ X.K (CL "Chart") "tree"
 cF : bQ X.K (CL "Chart") "names"
 fC : bQ X.K (CL "Chart") "boxes"
theorem ack {b : Bx} (E : Qo X CL) {cz : CM} (h : oE cz) :
   aN X CL b wY ["chart"] (rg cz) (rm cz) := by
 obtain ⟨bs, nm, ks, es, ss, is, os, ws⟩ := cz
 dsimp only [aN, oE, rg, rm] at h ⊢
 obtain ⟨hs, hr⟩ := h
 have el : (nm.map L3.D.str).length = nm.length := asG ..
 have eb : (bs.map kH).length = bs.length := asG ..
 unfold ig at hr
 refine b5 Q.aX (fun hp => ?_) (fun hp => ak ?_)
 . rw [asM (show Ea ks es ss nm.length = false from ZX hp)] at hr
   exact absurd hr Q.c
 rw [asH (show ¬ Ea ks es ss nm.length = false from nbF hp)] at hr
 refine b5 (gO (kM (aK (c_ nm E.jv E.eU (ao (dJ E.b7 E.cF (aL E.aZ) iu) aG) (by dsimp only [cI]; exact ⟨hs.n1, hs.n2⟩) rfl) (t2 := .sh (.bl (mC nm))) rfl))) (fun hp => ?_) (fun hp => ak ?_)
 . rw [asM (show mC nm = false from ZX hp)] at hr
   exact absurd hr Q.c
 rw [asH (show ¬ mC nm = false from nbF hp)] at hr
 refine b5 (gO (kM (aK (c_ bs E.se E.jB (ao (dJ E.b7 E.fC (aL E.aZ) rM) aG) (by dsimp only [dQ]; exact ⟨hs.b1, hs.b2⟩) rfl) (t2 := .sh (.bl (pS bs))) rfl))) (fun hp => ?_) (fun hp => ak ?_)
 . rw [asM (show pS bs = false from ZX hp)] at hr
   exact absurd hr Q.c
 rw [asH (show ¬ pS bs = false from nbF hp)] at hr
 refine b5 Q.aV (fun hp => ?_) (fun hp => ak ?_)
 . rw [asM (show om nm.length bs.length is os ws = false from ZX hp)] at hr
   exact absurd hr Q.c
 rw [asH (show ¬ om nm.length bs.length is os ws = false from nbF hp)] at hr
 refine b5 Q.aW (fun hp => ?_) (fun hp => ak ?_)
 . rw [asM (show Ic nm.length bs.length 0 ws = false from ZX hp)] at hr
   exact absurd hr Q.c
 rw [asH (show ¬ Ic nm.length bs.length 0 ws = false from nbF hp)] at hr
 exact ak rfl
abbrev zR : Type := Q.C × List Str × List Str × List Int × List Int × List (List pR) × List (List pR) × List p8
def m8 : zR -> List L3.D := fun (bs, nm, ks, es, ss, is, os, ws) => [dZ (bs.map kH) (nm.map .str) (fG ks es ss) (is.map bW) (os.map bW) (ws.map jG)]
def cA : zR -> Prop := fun (bs, nm, ks, es, ss, is, os, ws) => BJ bs nm ks is os ws /\ ig bs nm ks es ss is os ws ≠ -1
def m9 : zR -> Str := fun (bs, nm, ks, es, ss, is, os, ws) => Ig Q.X
theorem YK {b : Bx} {W : XK} (E : Qo (X.wish (XE X W)) CL) (bs nm ks es ss is os ws) (h : cA (bs, nm, ks, es, ss, is, os, ws)) (hE : GH b W (CL (m9 (bs, nm, ks, es, ss, is, os, ws)))) :
   dY (X.wish (XE X W)) CL b (dW wY) (entry ["chart"] (m8 (bs, nm, ks, es, ss, is, os, ws))) { nx := fun _ => False, rt := fun _ _ => False } := by
 dsimp only [cA, m8, m9] at h hE ⊢
 obtain ⟨hs, hr⟩ := h
 have el : (nm.map L3.D.str).length = nm.length := asG ..
 have eb : (bs.map kH).length = bs.length := asG ..
 unfold ig at hr hE
 refine b5 Q.aX (fun hp => ?_) (fun hp => ak ?_)
 . rw [asM (show Ea ks es ss nm.length = false from ZX hp)] at hE
   exact BE (X := X) E.g.calm E.fF E.ef E.zO hE
 rw [asH (show ¬ Ea ks es ss nm.length = false from nbF hp)] at hr hE
 refine b5 (gO (kM (aK (c_ nm E.jv E.eU (ao (dJ E.b7 E.cF (aL E.aZ) iu) aG) (by dsimp only [cI]; exact ⟨hs.n1, hs.n2⟩) rfl) (t2 := .sh (.bl (mC nm))) rfl))) (fun hp => ?_) (fun hp => ak ?_)
 . rw [asM (show mC nm = false from ZX hp)] at hE
   exact BE (X := X) E.g.calm E.fY E.fc E.zP hE
 rw [asH (show ¬ mC nm = false from nbF hp)] at hr hE
 refine b5 (gO (kM (aK (c_ bs E.se E.jB (ao (dJ E.b7 E.fC (aL E.aZ) rM) aG) (by dsimp only [dQ]; exact ⟨hs.b1, hs.b2⟩) rfl) (t2 := .sh (.bl (pS bs))) rfl))) (fun hp => ?_) (fun hp => ak ?_)
 . rw [asM (show pS bs = false from ZX hp)] at hE
   exact BE (X := X) E.g.calm E.jV E.g9 E.En hE
 rw [asH (show ¬ pS bs = false from nbF hp)] at hr hE
 refine b5 Q.aV (fun hp => ?_) (fun hp => ak ?_)
 . rw [asM (show om nm.length bs.length is os ws = false from ZX hp)] at hE
   exact BE (X := X) E.g.calm E.ja E.gP E.zQ hE
 rw [asH (show ¬ om nm.length bs.length is os ws = false from nbF hp)] at hr hE
 refine b5 Q.aW (fun hp => ?_) (fun hp => ak ?_)
 . rw [asM (show Ic nm.length bs.length 0 ws = false from ZX hp)] at hE
   exact BE (X := X) E.g.calm E.m7 E.kB E.Eo hE
 rw [asH (show ¬ Ic nm.length bs.length 0 ws = false from nbF hp)] at hr hE
 exact absurd rfl hr
theorem cy : pM (az wY) ([("chart", aF), ("is_tree_right", aE), ("BadTree", aE), ("are_names_right", aE), ("BadName", aE), ("are_boxes_right", aE), ("BadBox", aE), ("are_deeds_right", aE), ("BadDeed", aE), ("are_ways_right", aE), ("BadWay", aE)]) = true := Q.f
theorem yp : aY ["chart"] ["chart"] (az wY) := bz
abbrev yq : Stmt := top 69
abbrev yr : Type := Q.C × List Str × List Str × List Int × List Int × List (List pR) × List (List pR) × List p8
def sj : yr -> List L3.D := fun (bs, nm, ks, es, ss, is, os, ws) => [dZ (bs.map kH) (nm.map .str) (fG ks es ss) (is.map bW) (os.map bW) (ws.map jG)]
def sq : yr -> Prop := fun (bs, nm, ks, es, ss, is, os, ws) => BJ bs nm ks is os ws
def su : yr -> T := fun (bs, nm, ks, es, ss, is, os, ws) => (.sh (.int Q.X) : T)
structure YL (X : Cx) (CL : Q.g) : Prop extends cN X where
 aZ : Ln X 0 "chart"
 dD : Ln X 1 "kind"
 sA : Ln X 2 "right"
 gJ : Gl X "looked"
 fF : Gl X "BadTree"
 fY : Gl X "BadName"
 jV : Gl X "BadBox"
 ja : Gl X "BadDeed"
 m7 : Gl X "BadWay"
 Qp : Fc X CL "looked" 6 1 rg oE rm
 ef : X.mg "BadTree" = some Q.F
 zO : fU X.K (CL "BadTree")
 fc : X.mg "BadName" = some Q.G
 zP : fU X.K (CL "BadName")
 g9 : X.mg "BadBox" = some Q.I
 En : fU X.K (CL "BadBox")
 gP : X.mg "BadDeed" = some Q.H
 zQ : fU X.K (CL "BadDeed")
 kB : X.mg "BadWay" = some Q.J
 Eo : fU X.K (CL "BadWay")
 ia : FcR X CL "looked" 6 1 m8 cA m9
 st : X.stack = X.env :: X.outer
 fm : X.env.frame = some X.env.locals
 nx : X.xe = fun _ _ => False
 WT : PySem.W.exmOne X.K Q.F Q.I = some false
 Te : PySem.W.exmOne X.K Q.F Q.H = some false
 Tf : PySem.W.exmOne X.K Q.F Q.G = some false
 zS : PySem.W.exmOne X.K Q.F Q.F = some true
 WU : PySem.W.exmOne X.K Q.F Q.J = some false
 WV : PySem.W.exmOne X.K Q.G Q.I = some false
 Tg : PySem.W.exmOne X.K Q.G Q.H = some false
 zT : PySem.W.exmOne X.K Q.G Q.G = some true
 zU : PySem.W.exmOne X.K Q.G Q.F = some false
 WW : PySem.W.exmOne X.K Q.G Q.J = some false
 Ep : PySem.W.exmOne X.K Q.I Q.I = some true
 WX : PySem.W.exmOne X.K Q.I Q.H = some false
 CN : PySem.W.exmOne X.K Q.I Q.G = some false
 CP : PySem.W.exmOne X.K Q.I Q.F = some false
 YM : PySem.W.exmOne X.K Q.I Q.J = some false
 CQ : PySem.W.exmOne X.K Q.H Q.I = some false
 zV : PySem.W.exmOne X.K Q.H Q.H = some true
 zW : PySem.W.exmOne X.K Q.H Q.G = some false
 zX : PySem.W.exmOne X.K Q.H Q.F = some false
 WY : PySem.W.exmOne X.K Q.H Q.J = some false
 Er : PySem.W.exmOne X.K Q.J Q.I = some false
 CT : PySem.W.exmOne X.K Q.J Q.H = some false
 CV : PySem.W.exmOne X.K Q.J Q.G = some false
 CW : PySem.W.exmOne X.K Q.J Q.F = some false
 Es : PySem.W.exmOne X.K Q.J Q.J = some true
theorem YN {b : Bx} (E : YL X CL) {cz : yr} (h : sq cz) :
   aN X CL b yq ["chart", "kind", "right"] (sj cz) (su cz) := by
 obtain ⟨bs, nm, ks, es, ss, is, os, ws⟩ := cz
 dsimp only [aN, sq, sj, su] at h ⊢
 refine bf E.g E.dD Q.u ?_
 refine bf E.g E.sA f9 ?_
 by_cases hr : ig bs nm ks es ss is os ws = -1
 . refine aiN E.nx ?_
   refine bf E.g E.sA (aiI (ai (aK (c_ (bs, nm, ks, es, ss, is, os, ws) E.Qp E.gJ (ao (aL E.aZ) aG) (by dsimp only [oE]; exact ⟨h, hr⟩) rfl) (t2 := .sh .non) rfl))).2 (ak ?_)
   refine b5 (t6 (sL (bG (aL E.dD) (ai Q.u)).1 (fun _ => Br (gO (kM (v_ E.sA.1)))))) Q.aq (fun _ => ak ?_)
   exact bu (v_ E.dD.1) (by rw [hr])
 have hk : ig bs nm ks es ss is os ws = 0 \/ ig bs nm ks es ss is os ws = 1 \/ ig bs nm ks es ss is os ws = 2 \/ ig bs nm ks es ss is os ws = 3 \/ ig bs nm ks es ss is os ws = 4 := by
   revert hr
   unfold ig
   intro hr
   split
   . exact .inl rfl
   . split
     . exact .inr (.inl rfl)
     . split
       . exact .inr (.inr (.inl rfl))
       . split
         . exact .inr (.inr (.inr (.inl rfl)))
         . split
           . exact .inr (.inr (.inr (.inr rfl)))
           . rename_i h1 h2 h3 h4 h5
             rw [asH h1, asH h2, asH h3, asH h4, asH h5] at hr
             exact absurd rfl hr
 rcases hk with e | e | e | e | e
 . have MX : Ig Q.X = "BadTree" := by rw [e]; rfl
   refine HP (c := "BadTree") (δ1 := [some Q.ag, some (.sh (.int (-1))), some (.sh (.bl false))]) E.st E.fm E.nx Q.aM (.hit E.fF E.ef E.zS Q.c) fun ev => ?_
   refine sN E.g.nd E.dD.hand aj (ak ?_)
   refine b5 Q.aP Q.aq (fun _ => ak ?_)
   exact bu (v_ E.dD.1) (by rw [e])
 . have MX : Ig Q.X = "BadName" := by rw [e]; rfl
   refine HP (c := "BadName") (δ1 := [some Q.ag, some (.sh (.int (-1))), some (.sh (.bl false))]) E.st E.fm E.nx Q.aM (.miss E.fF E.ef E.zU Q.c (.hit E.fY E.fc E.zT Q.c)) fun ev => ?_
   refine sN E.g.nd E.dD.hand aj (ak ?_)
   refine b5 Q.aP Q.aq (fun _ => ak ?_)
   exact bu (v_ E.dD.1) (by rw [e])
 . have MX : Ig Q.X = "BadBox" := by rw [e]; rfl
   refine HP (c := "BadBox") (δ1 := [some Q.ag, some (.sh (.int (-1))), some (.sh (.bl false))]) E.st E.fm E.nx Q.aM (.miss E.fF E.ef E.CP Q.c (.miss E.fY E.fc E.CN Q.c (.hit E.jV E.g9 E.Ep Q.c))) fun ev => ?_
   refine sN E.g.nd E.dD.hand aj (ak ?_)
   refine b5 Q.aP Q.aq (fun _ => ak ?_)
   exact bu (v_ E.dD.1) (by rw [e])
 . have MX : Ig Q.X = "BadDeed" := by rw [e]; rfl
   refine HP (c := "BadDeed") (δ1 := [some Q.ag, some (.sh (.int (-1))), some (.sh (.bl false))]) E.st E.fm E.nx Q.aM (.miss E.fF E.ef E.zX Q.c (.miss E.fY E.fc E.zW Q.c (.miss E.jV E.g9 E.CQ Q.c (.hit E.ja E.gP E.zV Q.c)))) fun ev => ?_
   refine sN E.g.nd E.dD.hand aj (ak ?_)
   refine b5 Q.aP Q.aq (fun _ => ak ?_)
   exact bu (v_ E.dD.1) (by rw [e])
 . have MX : Ig Q.X = "BadWay" := by rw [e]; rfl
   refine HP (c := "BadWay") (δ1 := [some Q.ag, some (.sh (.int (-1))), some (.sh (.bl false))]) E.st E.fm E.nx Q.aM (.miss E.fF E.ef E.CW Q.c (.miss E.fY E.fc E.CV Q.c (.miss E.jV E.g9 E.Er Q.c (.miss E.ja E.gP E.CT Q.c (.hit E.m7 E.kB E.Es Q.c))))) fun ev => ?_
   refine sN E.g.nd E.dD.hand aj (ak ?_)
   refine b5 Q.aP Q.aq (fun _ => ak ?_)
   exact bu (v_ E.dD.1) (by rw [e])
theorem iO : pM (az yq) ([("chart", aF), ("kind", aF), ("right", aF), ("looked", aE), ("BadTree", aE), ("BadName", aE), ("BadBox", aE), ("BadDeed", aE), ("BadWay", aE)]) = true := Q.f
theorem Ti : aY ["chart", "kind", "right"] ["chart"] (az yq) := bz
def bsL (r : Int) : List Bool := true :: (List.range 5).map fun k : Nat => decide ((k : Int) = r)
theorem acm {bs : Q.C} {nm : Q.h} {is os : List (List pR)} {ws : List p8} (hr : ig bs nm ks es ss is os ws ≠ -1) : ig bs nm ks es ss is os ws = 0 \/ ig bs nm ks es ss is os ws = 1 \/ ig bs nm ks es ss is os ws = 2 \/ ig bs nm ks es ss is os ws = 3 \/ ig bs nm ks es ss is os ws = 4 := by
 revert hr
 unfold ig
 intro hr
 split
 . exact .inl rfl
 . split
   . exact .inr (.inl rfl)
   . split
     . exact .inr (.inr (.inl rfl))
     . split
       . exact .inr (.inr (.inr (.inl rfl)))
       . split
         . exact .inr (.inr (.inr (.inr rfl)))
         . rename_i h1 h2 h3 h4 h5
           rw [asH h1, asH h2, asH h3, asH h4, asH h5] at hr
           exact absurd rfl hr
abbrev Hi : Stmt := top 70
abbrev Hj : Type := Q.C × List Str × List Str × List Int × List Int × List (List pR) × List (List pR) × List p8
def yt : Hj -> List L3.D := fun (bs, nm, ks, es, ss, is, os, ws) => [dZ (bs.map kH) (nm.map .str) (fG ks es ss) (is.map bW) (os.map bW) (ws.map jG)]
def tS : Hj -> Prop := fun (bs, nm, ks, es, ss, is, os, ws) => BJ bs nm ks is os ws /\ ig bs nm ks es ss is os ws ≠ -1
def yu : Hj -> T := fun (bs, nm, ks, es, ss, is, os, ws) => (.lst (((bsL Q.X).map .bl).map T.sh) : T)
structure afz (X : Cx) (CL : Q.g) : Prop extends cN X where
 aZ : Ln X 0 "chart"
 ng : Ln X 1 "marks"
 wZ : Ln X 2 "e"
 gJ : Gl X "looked"
 pL : Gl X "MoodError"
 aU : Gl X "isinstance"
 nh : Gl X "ValueError"
 fF : Gl X "BadTree"
 fY : Gl X "BadName"
 jV : Gl X "BadBox"
 ja : Gl X "BadDeed"
 m7 : Gl X "BadWay"
 Qp : Fc X CL "looked" 6 1 rg oE rm
 ni : X.mg "MoodError" = some (.ref (CL "MoodError"))
 aV : X.mg "isinstance" = none
 nj : X.mg "ValueError" = none
 ef : X.mg "BadTree" = some Q.F
 zO : fU X.K (CL "BadTree")
 fc : X.mg "BadName" = some Q.G
 zP : fU X.K (CL "BadName")
 g9 : X.mg "BadBox" = some Q.I
 En : fU X.K (CL "BadBox")
 gP : X.mg "BadDeed" = some Q.H
 zQ : fU X.K (CL "BadDeed")
 kB : X.mg "BadWay" = some Q.J
 Eo : fU X.K (CL "BadWay")
 ia : FcR X CL "looked" 6 1 m8 cA m9
 st : X.stack = X.env :: X.outer
 fm : X.env.frame = some X.env.locals
 nx : X.xe = fun _ _ => False
 w4 : PySem.W.exmOne X.K Q.F (.ref (CL "MoodError")) = some true
 w6 : PySem.W.exmOne X.K Q.G (.ref (CL "MoodError")) = some true
 yQ : PySem.W.exmOne X.K Q.I (.ref (CL "MoodError")) = some true
 w9 : PySem.W.exmOne X.K Q.H (.ref (CL "MoodError")) = some true
 yR : PySem.W.exmOne X.K Q.J (.ref (CL "MoodError")) = some true
 ex0 : X.ex = []
 acn : X.env.kindOf "e" = some .local
 CY : PySem.W.kitOne X.K Q.F Q.I = some false
 CZ : PySem.W.kitOne X.K Q.G Q.I = some false
 Et : PySem.W.kitOne X.K Q.I Q.I = some true
 C1 : PySem.W.kitOne X.K Q.H Q.I = some false
 Eu : PySem.W.kitOne X.K Q.J Q.I = some false
 zY : PySem.W.kitOne X.K Q.F Q.H = some false
 zZ : PySem.W.kitOne X.K Q.G Q.H = some false
 C2 : PySem.W.kitOne X.K Q.I Q.H = some false
 z6 : PySem.W.kitOne X.K Q.H Q.H = some true
 C3 : PySem.W.kitOne X.K Q.J Q.H = some false
 z7 : PySem.W.kitOne X.K Q.F Q.G = some false
 z8 : PySem.W.kitOne X.K Q.G Q.G = some true
 C4 : PySem.W.kitOne X.K Q.I Q.G = some false
 z9 : PySem.W.kitOne X.K Q.H Q.G = some false
 C5 : PySem.W.kitOne X.K Q.J Q.G = some false
 Aa : PySem.W.kitOne X.K Q.F Q.F = some true
 Ab : PySem.W.kitOne X.K Q.G Q.F = some false
 C6 : PySem.W.kitOne X.K Q.I Q.F = some false
 Ac : PySem.W.kitOne X.K Q.H Q.F = some false
 C7 : PySem.W.kitOne X.K Q.J Q.F = some false
 C8 : PySem.W.kitOne X.K Q.F Q.J = some false
 C9 : PySem.W.kitOne X.K Q.G Q.J = some false
 Ew : PySem.W.kitOne X.K Q.I Q.J = some false
 Dc : PySem.W.kitOne X.K Q.H Q.J = some false
 Ex : PySem.W.kitOne X.K Q.J Q.J = some true
 vQ : PySem.W.kitOne X.K Q.F (.type "ValueError") = some true
 vR : PySem.W.kitOne X.K Q.G (.type "ValueError") = some true
 xg : PySem.W.kitOne X.K Q.I (.type "ValueError") = some true
 vS : PySem.W.kitOne X.K Q.H (.type "ValueError") = some true
 xh : PySem.W.kitOne X.K Q.J (.type "ValueError") = some true
 oF : kG X.K (CL "BadTree")
 oG : kG X.K (CL "BadName")
 qI : kG X.K (CL "BadBox")
 oH : kG X.K (CL "BadDeed")
 qJ : kG X.K (CL "BadWay")
theorem afA {b : Bx} (E : afz X CL) {cz : Hj} (h : tS cz) :
   aN X CL b Hi ["chart", "marks", "e"] (yt cz) (yu cz) := by
 obtain ⟨bs, nm, ks, es, ss, is, os, ws⟩ := cz
 dsimp only [aN, tS, yt, yu] at h ⊢
 obtain ⟨h, hr⟩ := h
 refine bf E.g E.ng (cS c7 (ata _)) ?_
 rcases acm hr with e | e | e | e | e
 . have MX : Ig Q.X = "BadTree" := by rw [e]; rfl
   refine HR (c := "BadTree") (δ1 := [some Q.ag, some (.lst []), none]) E.st E.fm E.nx E.ex0 E.g.nd E.wZ E.acn (fun p => by rw [← MX]; exact HN Q.au) E.pL E.ni E.w4 (by exact Nat.le_of_ble_eq_true rfl) (fun a b' hz => ?_)
   refine sN E.g.nd E.ng.hand (fM (X := X.hand a) (ds := [.bl true, .bl true, .bl false, .bl false, .bl false, .bl false]) (ay (dM (X := X.hand a) hz (by exact E.oF) Q.y Q.z (ao Q.x Q.aD) (.one rfl (by exact E.vQ))) (ay (dM (X := X.hand a) hz (by exact E.oF) Q.y Q.z (ao Q.x Q.aE) (.one rfl (by exact E.Aa))) (ay (dM (X := X.hand a) hz (by exact E.oF) Q.y Q.z (ao Q.x Q.aF) (.one rfl (by exact E.z7))) (ay (dM (X := X.hand a) hz (by exact E.oF) Q.y Q.z (ao Q.x Q.aH) (.one rfl (by exact E.CY))) (ay (dM (X := X.hand a) hz (by exact E.oF) Q.y Q.z (ao Q.x Q.aG) (.one rfl (by exact E.zY))) (ay (dM (X := X.hand a) hz (by exact E.oF) Q.y Q.z (ao Q.x Q.aI) (.one rfl (by exact E.C8))) bH)))))) Q.i) (ak ⟨.inr ⟨_, rfl⟩, ?_⟩)
   exact bu (vM E.ng.1) (by rw [e]; rfl)
 . have MX : Ig Q.X = "BadName" := by rw [e]; rfl
   refine HR (c := "BadName") (δ1 := [some Q.ag, some (.lst []), none]) E.st E.fm E.nx E.ex0 E.g.nd E.wZ E.acn (fun p => by rw [← MX]; exact HN Q.au) E.pL E.ni E.w6 (by exact Nat.le_of_ble_eq_true rfl) (fun a b' hz => ?_)
   refine sN E.g.nd E.ng.hand (fM (X := X.hand a) (ds := [.bl true, .bl false, .bl true, .bl false, .bl false, .bl false]) (ay (dM (X := X.hand a) hz (by exact E.oG) Q.y Q.z (ao Q.x Q.aD) (.one rfl (by exact E.vR))) (ay (dM (X := X.hand a) hz (by exact E.oG) Q.y Q.z (ao Q.x Q.aE) (.one rfl (by exact E.Ab))) (ay (dM (X := X.hand a) hz (by exact E.oG) Q.y Q.z (ao Q.x Q.aF) (.one rfl (by exact E.z8))) (ay (dM (X := X.hand a) hz (by exact E.oG) Q.y Q.z (ao Q.x Q.aH) (.one rfl (by exact E.CZ))) (ay (dM (X := X.hand a) hz (by exact E.oG) Q.y Q.z (ao Q.x Q.aG) (.one rfl (by exact E.zZ))) (ay (dM (X := X.hand a) hz (by exact E.oG) Q.y Q.z (ao Q.x Q.aI) (.one rfl (by exact E.C9))) bH)))))) Q.i) (ak ⟨.inr ⟨_, rfl⟩, ?_⟩)
   exact bu (vM E.ng.1) (by rw [e]; rfl)
 . have MX : Ig Q.X = "BadBox" := by rw [e]; rfl
   refine HR (c := "BadBox") (δ1 := [some Q.ag, some (.lst []), none]) E.st E.fm E.nx E.ex0 E.g.nd E.wZ E.acn (fun p => by rw [← MX]; exact HN Q.au) E.pL E.ni E.yQ (by exact Nat.le_of_ble_eq_true rfl) (fun a b' hz => ?_)
   refine sN E.g.nd E.ng.hand (fM (X := X.hand a) (ds := [.bl true, .bl false, .bl false, .bl true, .bl false, .bl false]) (ay (dM (X := X.hand a) hz (by exact E.qI) Q.y Q.z (ao Q.x Q.aD) (.one rfl (by exact E.xg))) (ay (dM (X := X.hand a) hz (by exact E.qI) Q.y Q.z (ao Q.x Q.aE) (.one rfl (by exact E.C6))) (ay (dM (X := X.hand a) hz (by exact E.qI) Q.y Q.z (ao Q.x Q.aF) (.one rfl (by exact E.C4))) (ay (dM (X := X.hand a) hz (by exact E.qI) Q.y Q.z (ao Q.x Q.aH) (.one rfl (by exact E.Et))) (ay (dM (X := X.hand a) hz (by exact E.qI) Q.y Q.z (ao Q.x Q.aG) (.one rfl (by exact E.C2))) (ay (dM (X := X.hand a) hz (by exact E.qI) Q.y Q.z (ao Q.x Q.aI) (.one rfl (by exact E.Ew))) bH)))))) Q.i) (ak ⟨.inr ⟨_, rfl⟩, ?_⟩)
   exact bu (vM E.ng.1) (by rw [e]; rfl)
 . have MX : Ig Q.X = "BadDeed" := by rw [e]; rfl
   refine HR (c := "BadDeed") (δ1 := [some Q.ag, some (.lst []), none]) E.st E.fm E.nx E.ex0 E.g.nd E.wZ E.acn (fun p => by rw [← MX]; exact HN Q.au) E.pL E.ni E.w9 (by exact Nat.le_of_ble_eq_true rfl) (fun a b' hz => ?_)
   refine sN E.g.nd E.ng.hand (fM (X := X.hand a) (ds := [.bl true, .bl false, .bl false, .bl false, .bl true, .bl false]) (ay (dM (X := X.hand a) hz (by exact E.oH) Q.y Q.z (ao Q.x Q.aD) (.one rfl (by exact E.vS))) (ay (dM (X := X.hand a) hz (by exact E.oH) Q.y Q.z (ao Q.x Q.aE) (.one rfl (by exact E.Ac))) (ay (dM (X := X.hand a) hz (by exact E.oH) Q.y Q.z (ao Q.x Q.aF) (.one rfl (by exact E.z9))) (ay (dM (X := X.hand a) hz (by exact E.oH) Q.y Q.z (ao Q.x Q.aH) (.one rfl (by exact E.C1))) (ay (dM (X := X.hand a) hz (by exact E.oH) Q.y Q.z (ao Q.x Q.aG) (.one rfl (by exact E.z6))) (ay (dM (X := X.hand a) hz (by exact E.oH) Q.y Q.z (ao Q.x Q.aI) (.one rfl (by exact E.Dc))) bH)))))) Q.i) (ak ⟨.inr ⟨_, rfl⟩, ?_⟩)
   exact bu (vM E.ng.1) (by rw [e]; rfl)
 . have MX : Ig Q.X = "BadWay" := by rw [e]; rfl
   refine HR (c := "BadWay") (δ1 := [some Q.ag, some (.lst []), none]) E.st E.fm E.nx E.ex0 E.g.nd E.wZ E.acn (fun p => by rw [← MX]; exact HN Q.au) E.pL E.ni E.yR (by exact Nat.le_of_ble_eq_true rfl) (fun a b' hz => ?_)
   refine sN E.g.nd E.ng.hand (fM (X := X.hand a) (ds := [.bl true, .bl false, .bl false, .bl false, .bl false, .bl true]) (ay (dM (X := X.hand a) hz (by exact E.qJ) Q.y Q.z (ao Q.x Q.aD) (.one rfl (by exact E.xh))) (ay (dM (X := X.hand a) hz (by exact E.qJ) Q.y Q.z (ao Q.x Q.aE) (.one rfl (by exact E.C7))) (ay (dM (X := X.hand a) hz (by exact E.qJ) Q.y Q.z (ao Q.x Q.aF) (.one rfl (by exact E.C5))) (ay (dM (X := X.hand a) hz (by exact E.qJ) Q.y Q.z (ao Q.x Q.aH) (.one rfl (by exact E.Eu))) (ay (dM (X := X.hand a) hz (by exact E.qJ) Q.y Q.z (ao Q.x Q.aG) (.one rfl (by exact E.C3))) (ay (dM (X := X.hand a) hz (by exact E.qJ) Q.y Q.z (ao Q.x Q.aI) (.one rfl (by exact E.Ex))) bH)))))) Q.i) (ak ⟨.inr ⟨_, rfl⟩, ?_⟩)
   exact bu (vM E.ng.1) (by rw [e]; rfl)
theorem iW : pM (az Hi) ([("chart", aF), ("marks", aF), ("e", aF), ("looked", aE), ("MoodError", aE), ("isinstance", aE), ("ValueError", aE), ("BadTree", aE), ("BadName", aE), ("BadBox", aE), ("BadDeed", aE), ("BadWay", aE)]) = true := Q.f
theorem aco : aY ["chart", "marks", "e"] ["chart"] (az Hi) := bz
theorem MY {t : T} (h1 : D.cV bs = true) (h2 : D.cV nm = true) (h3 : t.clean = true) (h4 : D.cV is = true) (h5 : D.cV os = true) (h6 : D.cV ws = true) : T.cM (wo bs nm t is os ws) = true := by
 unfold wo D4 D5
 rw [att, att, aub, T.cM, T.cM, T.cM, T.cM, T.cM, T.cM, T.cM, cj h1, cj h2, h3, cj h4, cj h5, cj h6]
 rfl
theorem acp (w : p8) : (jG w).qa = true := by
 show (true && (true && (D.cV (w.al.map yL) && ((bW w.dl).qa && (true && (true && true)))))) = true
 rw [show D.cV (w.al.map yL) = true from tE w.al, iS]
 rfl
def Pt.D (p : Pt) : L3.D := prV p.bs p.nm p.ks p.es p.ss p.is p.os p.ws
theorem acq (p : Pt) : (vv p).iX = p.D := by
 unfold vv Rk Pt.D prV
 rw [T.iX, T.lq, T.lq, T.lq, T.lq, T.lq, T.lq, T.lq, T.lq, T.lq, bI, bI, bI, bI, bI, bI, bI, bI]
theorem Qq (p : Pt) : (vv p).clean = true := by
 unfold vv Rk
 rw [T.clean, T.eV, T.eV, T.eV, T.eV, T.eV, T.eV, T.eV, T.eV, T.eV, cj (bS (f := kH) (fun _ => rfl) _), cj (pD _), cj (pD _), cj (gf _), cj (gf _), cj (bS iS _), cj (bS iS _), cj (bS acp _)]
 rfl
def Pt.chT (p : Pt) : T := .ins "Chart" (wo (p.bs.map kH) (p.nm.map .str) (.ins "Tree" (BG p.ks p.es p.ss)) (p.is.map bW) (p.os.map bW) (p.ws.map jG))
def Pt.chD (p : Pt) : L3.D := dZ (p.bs.map kH) (p.nm.map .str) (fG p.ks p.es p.ss) (p.is.map bW) (p.os.map bW) (p.ws.map jG)
theorem acr (p : Pt) : p.chT.iX = p.chD := by
 unfold Pt.chT Pt.chD
 rw [R3, Yi]
theorem Qs (p : Pt) : p.chT.clean = true := MY (bS (fun _ => rfl) _) (pD _) (FP _ _ _) (bS iS _) (bS iS _) (bS acp _)
theorem afB : ∀ l : List Bool, RL (.lst (l.map .bl)) (.lst (l.map .bl)) = true := fun l => O7 (n := 60) (.lst fun d hd => by
 obtain ⟨q, _, rfl⟩ := asW.mp hd
 exact .bl _ _)
theorem WZ (l : List Bool) : rG 60 (.lst (l.map .bl)) := .lst fun d hd => by
 obtain ⟨q, _, rfl⟩ := asW.mp hd
 exact .bl _ _
def ptK (s : Q.e) : Pt := Yv (J8 s (DI s)) (dB Q.ai (kE (DI s))) (wB s (yN s (kE (DI s) - 1)) (kE (DI s))) (yN s (kE (DI s) - 1)) (wC s (yN s (kE (DI s) - 1)) (kE (DI s))) (iT s (G0 (DI s)) (dB Q.ai (kE (DI s))) 1 (kE (DI s))) (iT s (G0 (DI s)) (dB Q.ai (kE (DI s))) 3 (kE (DI s))) (zC s (dB Q.ai (kE (DI s))) (sO s (DI s) (kE (DI s))) (G0 (DI s)) (kE (DI s)) (sO s (DI s) (kE (DI s))).length)
theorem W0 (s : Q.e) : T.lst ((SJ s (DI s) Q.ai).map fun l => T.lst (l.map T.sh)) = vv (ptK s) := ajB _ _ _ _ _ _ _ _
theorem YQ (s : Q.e) : (∀ w, vz w 50 (ptK s)) /\ (ptK s).ref = -1 := P5 (abV s (DI s) Q.ai) (P6 s (DI s) _)
theorem ajQ {l : List α} (h : l.length <= 120) : cutD l none (some 120) = l := (B8 (k := 120) rfl).trans (List.take_of_length_le h)
abbrev W2 : Stmt := top 71
abbrev acs : Type := List Int
def yw : acs -> List L3.D := fun a => [.lst (a.map .int)]
def yx : acs -> Prop := fun a => a.length <= 63
def yy : acs -> T := fun a => (.sh (.bl true) : T)
structure amm (X : Cx) (CL : Q.g) : Prop extends cN X where
 bT : Ln X 0 "script"
 qt : Ln X 1 "which"
 afC : X.env.kindOf "which" = some .cell
 aO : Ln X 2 "parts"
 aZ : Ln X 3 "chart"
 bP : Gl X "_law_cell_at"
 De : Gl X "_law_parts"
 MZ : Gl X "_law_spoil"
 Df : Gl X "_law_chart"
 xj : Gl X "_law_refusal"
 M0 : Gl X "_law_bases"
 di : Gl X "range"
 c6 : Fc X CL "_law_cell_at" 1 2 gi gj gk
 W3 : Fc X CL "_law_parts" 5 1 x9 yb yc
 afD : FcM X CL "_law_spoil" 4 3 tM yg tN qF
 W4 : Fc X CL "_law_chart" 3 1 yh yi yj
 KR : Fc X CL "_law_refusal" 7 1 sj sq su
 afE : Fc X CL "_law_bases" 7 1 yt tS yu
 dm : X.mg "range" = none
theorem amn {b : Bx} (E : amm X CL) {a} (h : yx a) :
   aN X CL b W2 ["script", "which", "parts", "chart"] (yw a) (yy a) := by
 dsimp only [aN, yx, yw, yy] at h ⊢
 have hs : a.length <= 63 := by omega
 obtain ⟨s, hsd⟩ : ∃ s : List Int, s = a.map (· % 10 ^ (64 : Int).toNat) := ⟨_, rfl⟩
 have hsl : s.length <= 100 := by rw [hsd, asG]; omega
 have amo : cutD (a.map L3.D.int) none (some 120) = a.map L3.D.int := ajQ (by rw [asG]; omega)
 refine LJ (p := fun _ => true) (gg := fun d => T.sh (.int (d.Hv % 10 ^ (64 : Int).toNat))) E.g E.bT (eX .nil Q.d) (t8 (Lw (ds := a.map .int) (aK (qN (aL E.bT) (gf _) oV (oW Q.b)) (by rw [amo])))) (.inr rfl) (fun C s0 H0 f0 b' d hd => ?Yr) (atJ (cR (by rw [asG]; omega))) ?rest (by exact asR rfl) (Bs ⟨_, rfl⟩)
 case Yr =>
   obtain ⟨i, _, rfl⟩ := asW.mp hd
   exact ⟨rfl, fun _ => (aQ Q.ae (ai Q.M) Q.c)⟩
 case rest =>
 have em : ((a.map L3.D.int).filter fun _ => true).map (fun d => T.sh (.int (d.Hv % 10 ^ (64 : Int).toNat))) = (s.map .int).map T.sh := by
   rw [lZ, hsd, ath, ath, ath]
   rfl
 rw [em]
 clear em amo
 obtain ⟨w, hw⟩ : ∃ w : Nat, w = (cB s 3 / 11 % 5).toNat := ⟨_, rfl⟩
 have hw2 : (w : Int) = cB s 3 / 11 % 5 := by omega
 have hw4 : w <= 4 := by omega
 have c3 : (0 : Int) <= 3 := by decide
 have c4 : (0 : Int) <= 4 := by decide
 refine bf E.g E.qt (aK (aQ (ai (aT (ai (c_ (s, 3) E.c6 E.bP (ao (vL E.bT.1) (ao Q.b aG)) c3 rfl)) Q.b ⟨by decide, by decide⟩)) Q.b Q.c) (t2 := .sh (.int (w : Nat))) (by rw [hw2])) ?_
 refine bf E.g E.aO (aK (c_ s E.W3 E.De (ao (vL E.bT.1) aG) hsl (by show (T.lst _).clean = true; rw [W0]; exact Qq _)) (t2 := vv (ptK s)) (W0 s)) ?_
 obtain ⟨hA, hR⟩ := YQ s
 obtain ⟨p, hp⟩ : ∃ p, p = ptK s := ⟨_, rfl⟩
 rw [← hp] at hA hR ⊢
 obtain ⟨C, hC⟩ : ∃ C : Int, C = cB s 4 / 7 % 10 ^ (60 : Int).toNat := ⟨_, rfl⟩
 refine xS (cM1 (t := .sh .non) (fun y => (y, p, w, C, 50)) (vv (spK w p C)) E.afD E.MZ (alI E.aO.1 rfl rfl (HK (v_ E.qt.1) (HK (aK (aQ (ai (aT (ai (c_ (s, 4) E.c6 E.bP (ao (vL E.bT.1) (ao Q.b aG)) c4 rfl)) Q.b ⟨by decide, by decide⟩)) (ai Q.M) Q.c) (t2 := .sh (.int C)) (by rw [hC])) DY))) (fun y _ => ⟨hA w, by decide, hw4⟩) (fun y _ => rfl) (fun y _ => ⟨rfl, .inl rfl, trivial⟩)) ?_
 have hr := aeJ C (hA w) hw4
 have JV := (ajb C (hA w)).shape Q.c
 obtain ⟨q, hq⟩ : ∃ q, q = spK w p C := ⟨_, rfl⟩
 rw [← hq] at hr JV ⊢
 have ZR : q.ref ≠ -1 := by rw [hr]; omega
 refine bf E.g E.aZ (ad4 (d := q.chD) (aK (c_ (q.bs, q.nm, q.ks, q.es, q.ss, q.is, q.os, q.ws) E.W4 E.Df (ao (vE E.aO.1 rfl (acq q)) aG) trivial (Qs q)) (t2 := q.chT) rfl) (acr q)) ?_
 refine b5 (pP (ai (aK (c_ (q.bs, q.nm, q.ks, q.es, q.ss, q.is, q.os, q.ws) E.KR E.xj (ao (aL E.aZ) aG) JV rfl) (t2 := .sh (.int (w : Nat))) (congrArg (fun z => T.sh (.int z)) hr))) (aL E.qt)).1 (fun hp => by rw [asN rfl] at hp; cases hp) (fun _ => ak ?_)
 have hcl : ∀ l : List Bool, (T.lst ((l.map L3.D.bl).map T.sh)).clean = true := fun l => cj (bS (fun _ => rfl) _)
 refine b5 (Lq E.u (d1 := .lst ((bsL (w : Int)).map .bl)) (d2 := .lst ((bsL (w : Int)).map .bl)) (bK (aK (c_ (q.bs, q.nm, q.ks, q.es, q.ss, q.is, q.os, q.ws) E.afE E.M0 (ao (aL E.aZ) aG) (by dsimp only [tS]; exact ⟨JV, ZR⟩) (hcl _)) (t2 := .lst (((bsL (w : Int)).map L3.D.bl).map T.sh)) (congrArg (fun z => T.lst (((bsL z).map L3.D.bl).map T.sh)) hr))) (bK (aK (ua (ds := [.bl true]) (V0 := ((List.range 5).map fun k : Nat => decide ((k : Int) = (w : Int))).map .bl) (bK (fM (ay f9 bH) Q.i)) (bK (aK (rK (p := fun _ => true) (g := fun d => T.sh (.bl (decide (d.Hv = (w : Int))))) (eX (.cons E.qt.1 (.inl E.afC) .nil) Q.d) E.g.calm (gb E.dm Q.b Q.a E.di) (.inr rfl) (fun C s0 H0 f0 b' d hd => ?ajE) (Nat.le_of_lt (cR Q.c))) (t2 := .lst ((((List.range 5).map fun k : Nat => decide ((k : Int) = (w : Int))).map .bl).map T.sh)) ?apn)) rfl (bS (fun _ => rfl) _) Q.i) (t2 := .lst (((bsL (w : Int)).map .bl).map T.sh)) rfl)) (WZ _) (WZ _)).1 (fun hp => by rw [afB] at hp; cases hp) (fun _ => ak ?_)
 case ajE =>
   obtain ⟨i, _, rfl⟩ := asW.mp hd
   exact ⟨rfl, fun _ => (bG Q.ae (ai (v_ (pQ (i := 1) rfl Q.d)))).2⟩
 case apn =>
   rfl
 have hR2 : ig p.bs p.nm p.ks p.es p.ss p.is p.os p.ws = -1 := hR
 refine bu (aK (bG (ai (aK (c_ (p.bs, p.nm, p.ks, p.es, p.ss, p.is, p.os, p.ws) E.KR E.xj (ao (Bw (VP (aK (c_ (p.bs, p.nm, p.ks, p.es, p.ss, p.is, p.os, p.ws) E.W4 E.Df (ao (Bw (VP (aK (c_ s E.W3 E.De (ao (vL E.bT.1) aG) hsl (by show (T.lst _).clean = true; rw [W0]; exact Qq _)) (t2 := vv p) (by rw [hp]; exact W0 s))) (acq p)) aG) trivial (Qs p)) (t2 := p.chT) rfl)) (acr p)) aG) ((hA 0).sh.shape Q.c) rfl) (t2 := .sh (.int (-1))) (congrArg (fun z => T.sh (.int z)) hR2))) (ai Q.u)).2 (t2 := .sh (.bl true)) rfl) rfl
theorem pU : pM (az W2) ([("script", aF), ("which", .cell), ("parts", aF), ("chart", aF), ("_law_cell_at", aE), ("_law_parts", aE), ("_law_spoil", aE), ("_law_chart", aE), ("_law_refusal", aE), ("_law_bases", aE), ("range", aE)]) = true := Q.f
theorem acu : aY ["script", "which", "parts", "chart"] ["script"] (az W2) := bz
def cl (aJ aM aD aq au aA av aB : Addr) : Str -> Addr := fun c => if c = "Chart" then aJ else if c = "Tree" then aM else if c = "MoodError" then aD else if c = "BadTree" then aq else if c = "BadName" then au else if c = "BadBox" then aA else if c = "BadDeed" then av else if c = "BadWay" then aB else 0
variable {aJ aM aD aq au aA av aB : Addr}
theorem nk : cl aJ aM aD aq au aA av aB "Chart" = aJ := by unfold cl; rw [asM rfl]
theorem yz : cl aJ aM aD aq au aA av aB "Tree" = aM := by unfold cl; rw [asH Q.d]; rw [asM rfl]
theorem kC : cl aJ aM aD aq au aA av aB "MoodError" = aD := by unfold cl; rw [asH Q.d]; rw [asH Q.d]; rw [asM rfl]
theorem bA : cl aJ aM aD aq au aA av aB "BadTree" = aq := by unfold cl; rw [asH Q.d]; rw [asH Q.d]; rw [asH Q.d]; rw [asM rfl]
theorem bB : cl aJ aM aD aq au aA av aB "BadName" = au := by unfold cl; rw [asH Q.d]; rw [asH Q.d]; rw [asH Q.d]; rw [asH Q.d]; rw [asM rfl]
theorem bN : cl aJ aM aD aq au aA av aB "BadBox" = aA := by unfold cl; rw [asH Q.d]; rw [asH Q.d]; rw [asH Q.d]; rw [asH Q.d]; rw [asH Q.d]; rw [asM rfl]
theorem bC : cl aJ aM aD aq au aA av aB "BadDeed" = av := by unfold cl; rw [asH Q.d]; rw [asH Q.d]; rw [asH Q.d]; rw [asH Q.d]; rw [asH Q.d]; rw [asH Q.d]; rw [asM rfl]
theorem bO : cl aJ aM aD aq au aA av aB "BadWay" = aB := by unfold cl; rw [asH Q.d]; rw [asH Q.d]; rw [asH Q.d]; rw [asH Q.d]; rw [asH Q.d]; rw [asH Q.d]; rw [asH Q.d]; rw [asM rfl]
theorem ajR {x : Str} (h : VM x = true) : cl aJ aM aD aq au aA av aB x = 0 := by unfold cl; rw [asH Q.ar]; rw [asH Q.ar]; rw [asH Q.ar]; rw [asH Q.ar]; rw [asH Q.ar]; rw [asH Q.ar]; rw [asH Q.ar]; rw [asH Q.ar]
theorem all_mk {l : PySem.W.OpenLaw} {w : World} {K : Q.l} {h : Heap} {mg : Q.A} {fa KS IW Qt W5 W6 ag4 acv acw acy ag5 ag6 W7 uM IX uN xm IY IZ Qu uO KW xo M3 sC qy W8 W9 Xa rq sE I0 rz vC KY sF Dg sG vD vG sH xq xr tU Dh KZ Xb ag7 : Addr} (XX : K.In h) (G : h.Ns mainGlobals mg) (hfa : mg "law" = some (.ref fa))
   {YR Tj acz afF afG amq ajS ajT ajU amr ams afH M4 Tp M5 Qv Tq Tr acA M6 YS Qw afI Qx M7 afJ Cq MN lA mS d7 lB lg mz eU mW jB e7 pT jC qY qZ ku gJ YT afK ag8 : FuncData}
   (M8 : kL K "Chart" aJ) (Ja : PySem.W.plainGet K aJ Str.empty = true) (Jb : PySem.W.hasDictIn K aJ = true) (Jc : PySem.W.plainOver K aJ = true) (Jd : PySem.W.findIn K (.ref aJ) "__setattr__" = some (some (.builtin "object.__setattr__"))) (Je : PySem.W.makesIn K aJ = true) (Jf : PySem.W.keepIn K (.ref aJ) = true)
   (sR : PySem.W.findIn K (.ref aJ) "boxes" = some none)
   (sS : PySem.W.findIn K (.ref aJ) "names" = some none)
   (uP : PySem.W.findIn K (.ref aJ) "tree" = some none)
   (xu : PySem.W.findIn K (.ref aJ) "ins" = some none)
   (uQ : PySem.W.findIn K (.ref aJ) "outs" = some none)
   (uR : PySem.W.findIn K (.ref aJ) "ways" = some none)
   (Tt : kL K "Tree" aM) (M9 : PySem.W.plainGet K aM Str.empty = true) (Nb : PySem.W.hasDictIn K aM = true) (Nf : PySem.W.plainOver K aM = true) (Ng : PySem.W.findIn K (.ref aM) "__setattr__" = some (some (.builtin "object.__setattr__"))) (Nh : PySem.W.makesIn K aM = true) (Ni : PySem.W.keepIn K (.ref aM) = true)
   (uS : PySem.W.findIn K (.ref aM) "kinds" = some none)
   (sU : PySem.W.findIn K (.ref aM) "elders" = some none)
   (sV : PySem.W.findIn K (.ref aM) "starts" = some none)
   (xx : kL K "MoodError" aD)
   (Ey : kL K "BadTree" aq)
   {Tv Tw : Str} {Ez : Addr} {Tz Jg TF : Q.q} {TH TJ : Bool} {TL : Q.h} {Qy : Option Bool} {TN : Option Addr} {TQ TR TV TX TY : Option Value} (Ad : K.lookup aq = some (excClassObj Tv Tw aq Ez Tz Jg TH TL TF TJ Qy TN TQ TR TV TX TY "ValueError.__new__")) (Ae : PySem.W.nsOkIn K Ez = true) (Af : PySem.W.nsIn K Ez "__init__" = some none) (Ag : PySem.W.tailIn K uf Jg = true)
   (EA : kL K "BadName" au)
   {T3 T4 : Str} {EB : Addr} {T5 Jh T6 : Q.q} {T7 T8 : Bool} {T9 : Q.h} {Qz : Option Bool} {Ua : Option Addr} {Ub Uc Ud Ue Ug : Option Value} (Ah : K.lookup au = some (excClassObj T3 T4 au EB T5 Jh T7 T9 T6 T8 Qz Ua Ub Uc Ud Ue Ug "ValueError.__new__")) (Ai : PySem.W.nsOkIn K EB = true) (Aj : PySem.W.nsIn K EB "__init__" = some none) (Ak : PySem.W.tailIn K uf Jh = true)
   (Ji : kL K "BadBox" aA)
   {YV YW : Str} {Jj : Addr} {YX K0 YY : Q.q} {YZ Y0 : Bool} {Y3 : Q.h} {Uh : Option Bool} {Y4 : Option Addr} {Y5 Y6 Y7 Y8 Y9 : Option Value} (EC : K.lookup aA = some (excClassObj YV YW aA Jj YX K0 YZ Y3 YY Y0 Uh Y4 Y5 Y6 Y7 Y8 Y9 "ValueError.__new__")) (ED : PySem.W.nsOkIn K Jj = true) (EE : PySem.W.nsIn K Jj "__init__" = some none) (EF : PySem.W.tailIn K uf K0 = true)
   (EG : kL K "BadDeed" av)
   {Ui Uj : Str} {EH : Addr} {Uk Jk Ul : Q.q} {Um Uo : Bool} {Up : Q.h} {QB : Option Bool} {Uq : Option Addr} {Ur Us Ut Uu Uv : Option Value} (Al : K.lookup av = some (excClassObj Ui Uj av EH Uk Jk Um Up Ul Uo QB Uq Ur Us Ut Uu Uv "ValueError.__new__")) (Am : PySem.W.nsOkIn K EH = true) (An : PySem.W.nsIn K EH "__init__" = some none) (Ao : PySem.W.tailIn K uf Jk = true)
   (Jl : kL K "BadWay" aB)
   {Za Zb : Str} {Jm : Addr} {Zc K1 Zd : Q.q} {Ze Zf : Bool} {Zg : Q.h} {Uw : Option Bool} {Zh : Option Addr} {Zi Zj Zk Zm Zn : Option Value} (EI : K.lookup aB = some (excClassObj Za Zb aB Jm Zc K1 Ze Zg Zd Zf Uw Zh Zi Zj Zk Zm Zn "ValueError.__new__")) (EJ : PySem.W.nsOkIn K Jm = true) (EK : PySem.W.nsIn K Jm "__init__" = some none) (EL : PySem.W.tailIn K uf K1 = true)
   (nq : PySem.W.kitOne K (.ref aq) (.ref aA) = some false)
   (lD : PySem.W.kitOne K (.ref aq) (.ref av) = some false)
   (lF : PySem.W.kitOne K (.ref aq) (.ref au) = some false)
   (lG : PySem.W.kitOne K (.ref aq) (.ref aq) = some true)
   (nu : PySem.W.kitOne K (.ref aq) (.ref aB) = some false)
   (jg : PySem.W.kitOne K (.ref aq) (.type "ValueError") = some true)
   (ny : PySem.W.kitOne K (.ref au) (.ref aA) = some false)
   (lH : PySem.W.kitOne K (.ref au) (.ref av) = some false)
   (lI : PySem.W.kitOne K (.ref au) (.ref au) = some true)
   (lJ : PySem.W.kitOne K (.ref au) (.ref aq) = some false)
   (nA : PySem.W.kitOne K (.ref au) (.ref aB) = some false)
   (jh : PySem.W.kitOne K (.ref au) (.type "ValueError") = some true)
   (oJ : PySem.W.kitOne K (.ref aA) (.ref aA) = some true)
   (nB : PySem.W.kitOne K (.ref aA) (.ref av) = some false)
   (nE : PySem.W.kitOne K (.ref aA) (.ref au) = some false)
   (nF : PySem.W.kitOne K (.ref aA) (.ref aq) = some false)
   (oK : PySem.W.kitOne K (.ref aA) (.ref aB) = some false)
   (jW : PySem.W.kitOne K (.ref aA) (.type "ValueError") = some true)
   (nG : PySem.W.kitOne K (.ref av) (.ref aA) = some false)
   (lK : PySem.W.kitOne K (.ref av) (.ref av) = some true)
   (lM : PySem.W.kitOne K (.ref av) (.ref au) = some false)
   (lN : PySem.W.kitOne K (.ref av) (.ref aq) = some false)
   (nI : PySem.W.kitOne K (.ref av) (.ref aB) = some false)
   (ji : PySem.W.kitOne K (.ref av) (.type "ValueError") = some true)
   (oM : PySem.W.kitOne K (.ref aB) (.ref aA) = some false)
   (nJ : PySem.W.kitOne K (.ref aB) (.ref av) = some false)
   (nK : PySem.W.kitOne K (.ref aB) (.ref au) = some false)
   (nL : PySem.W.kitOne K (.ref aB) (.ref aq) = some false)
   (oN : PySem.W.kitOne K (.ref aB) (.ref aB) = some true)
   (jX : PySem.W.kitOne K (.ref aB) (.type "ValueError") = some true)
   (Aq : PySem.W.findIn K (.ref aq) "__getattribute__" = some Q.aB) (As : PySem.W.findIn K (.ref aq) "__getattr__" = some none) (Au : PySem.W.hasDictIn K aq = true) (Av : PySem.W.findIn K (.ref aq) "__class__" = some (some Q.aa)) (Aw : PySem.W.mroIn K aq (.type "object") = some true) (Ax : PySem.W.mroIn K aq (.type "BaseException") = some true)
   (Ay : PySem.W.findIn K (.ref au) "__getattribute__" = some Q.aB) (Az : PySem.W.findIn K (.ref au) "__getattr__" = some none) (AA : PySem.W.hasDictIn K au = true) (AF : PySem.W.findIn K (.ref au) "__class__" = some (some Q.aa)) (AG : PySem.W.mroIn K au (.type "object") = some true) (AH : PySem.W.mroIn K au (.type "BaseException") = some true)
   (ER : PySem.W.findIn K (.ref aA) "__getattribute__" = some Q.aB) (EV : PySem.W.findIn K (.ref aA) "__getattr__" = some none) (EW : PySem.W.hasDictIn K aA = true) (EX : PySem.W.findIn K (.ref aA) "__class__" = some (some Q.aa)) (EY : PySem.W.mroIn K aA (.type "object") = some true) (EZ : PySem.W.mroIn K aA (.type "BaseException") = some true)
   (AI : PySem.W.findIn K (.ref av) "__getattribute__" = some Q.aB) (AJ : PySem.W.findIn K (.ref av) "__getattr__" = some none) (AK : PySem.W.hasDictIn K av = true) (AO : PySem.W.findIn K (.ref av) "__class__" = some (some Q.aa)) (AQ : PySem.W.mroIn K av (.type "object") = some true) (AU : PySem.W.mroIn K av (.type "BaseException") = some true)
   (E1 : PySem.W.findIn K (.ref aB) "__getattribute__" = some Q.aB) (E2 : PySem.W.findIn K (.ref aB) "__getattr__" = some none) (E3 : PySem.W.hasDictIn K aB = true) (E4 : PySem.W.findIn K (.ref aB) "__class__" = some (some Q.aa)) (E5 : PySem.W.mroIn K aB (.type "object") = some true) (E6 : PySem.W.mroIn K aB (.type "BaseException") = some true)
   (AV : PySem.W.specialIn K Q.aa "__get__" = some (some (.builtin "getset_descriptor.__get__"))) (AW : PySem.W.takesIn K Q.aa = some true)
   (nM : PySem.W.exmOne K (.ref aq) (.ref aA) = some false)
   (lO : PySem.W.exmOne K (.ref aq) (.ref av) = some false)
   (lP : PySem.W.exmOne K (.ref aq) (.ref au) = some false)
   (lQ : PySem.W.exmOne K (.ref aq) (.ref aq) = some true)
   (nO : PySem.W.exmOne K (.ref aq) (.ref aB) = some false)
   (nP : PySem.W.exmOne K (.ref au) (.ref aA) = some false)
   (lR : PySem.W.exmOne K (.ref au) (.ref av) = some false)
   (lS : PySem.W.exmOne K (.ref au) (.ref au) = some true)
   (lT : PySem.W.exmOne K (.ref au) (.ref aq) = some false)
   (nQ : PySem.W.exmOne K (.ref au) (.ref aB) = some false)
   (oO : PySem.W.exmOne K (.ref aA) (.ref aA) = some true)
   (nR : PySem.W.exmOne K (.ref aA) (.ref av) = some false)
   (nS : PySem.W.exmOne K (.ref aA) (.ref au) = some false)
   (nT : PySem.W.exmOne K (.ref aA) (.ref aq) = some false)
   (oQ : PySem.W.exmOne K (.ref aA) (.ref aB) = some false)
   (nU : PySem.W.exmOne K (.ref av) (.ref aA) = some false)
   (lU : PySem.W.exmOne K (.ref av) (.ref av) = some true)
   (lV : PySem.W.exmOne K (.ref av) (.ref au) = some false)
   (lW : PySem.W.exmOne K (.ref av) (.ref aq) = some false)
   (nV : PySem.W.exmOne K (.ref av) (.ref aB) = some false)
   (oR : PySem.W.exmOne K (.ref aB) (.ref aA) = some false)
   (nW : PySem.W.exmOne K (.ref aB) (.ref av) = some false)
   (nX : PySem.W.exmOne K (.ref aB) (.ref au) = some false)
   (nY : PySem.W.exmOne K (.ref aB) (.ref aq) = some false)
   (oS : PySem.W.exmOne K (.ref aB) (.ref aB) = some true)
   (jY : PySem.W.exmOne K (.ref aq) (.ref aD) = some true)
   (jZ : PySem.W.exmOne K (.ref au) (.ref aD) = some true)
   (kJ : PySem.W.exmOne K (.ref aA) (.ref aD) = some true)
   (j3 : PySem.W.exmOne K (.ref av) (.ref aD) = some true)
   (kK : PySem.W.exmOne K (.ref aB) (.ref aD) = some true)
   (E7 : kL K "_law_cell_at" KS) (Zo : oj K "_law_cell_at" "_law_cell_at" xT KS YR)
   (AX : kL K "_law_above" IW) (Ux : oj K "_law_above" "_law_above" uq IW Tj)
   (Jo : kL K "_law_elders" Qt) (acB : oj K "_law_elders" "_law_elders" BP Qt acz)
   (Nj : kL K "_law_kinds" W5) (afL : oj K "_law_kinds" "_law_kinds" GP W5 afF)
   (Nk : kL K "_law_names" W6) (afM : oj K "_law_names" "_law_names" GR W6 afG)
   (acC : kL K "_law_far" ag4) (amt : oj K "_law_far" "_law_far" Wy ag4 amq)
   (Uy : kL K "_law_term" acv) (ajV : oj K "_law_term" "_law_term" Mf acv ajS)
   (Uz : kL K "_law_deed" acw) (ajW : oj K "_law_deed" "_law_deed" Mi acw ajT)
   (UA : kL K "_law_rows" acy) (ajX : oj K "_law_rows" "_law_rows" Ml acy ajU)
   (acD : kL K "_law_ask" ag5) (amu : oj K "_law_ask" "_law_ask" Wz ag5 amr)
   (acE : kL K "_law_way" ag6) (amv : oj K "_law_way" "_law_way" WC ag6 ams)
   (Nm : kL K "_law_parts" W7) (afN : oj K "_law_parts" "_law_parts" G4 W7 afH)
   (uT : kL K "_law_spoil_tree" uM) (uU : oj K "_law_spoil_tree" "_law_spoil_tree" qh uM M4)
   (AY : kL K "_law_bad_name" IX) (UB : oj K "_law_bad_name" "_law_bad_name" uA IX Tp)
   (uV : kL K "_law_spoil_name" uN) (uW : oj K "_law_spoil_name" "_law_spoil_name" qj uN M5)
   (xA : kL K "_law_spoil_box" xm) (xB : oj K "_law_spoil_box" "_law_spoil_box" rR xm Qv)
   (AZ : kL K "_law_bad_term" IY) (UC : oj K "_law_bad_term" "_law_bad_term" uC IY Tq)
   (A0 : kL K "_law_bad_deed" IZ) (UD : oj K "_law_bad_deed" "_law_bad_deed" uE IZ Tr)
   (Jp : kL K "_law_put_in" Qu) (acF : oj K "_law_put_in" "_law_put_in" Cb Qu acA)
   (uX : kL K "_law_spoil_deed" uO) (uY : oj K "_law_spoil_deed" "_law_spoil_deed" qp uO M6)
   (E8 : kL K "_law_bad_ask" KW) (Zq : oj K "_law_bad_ask" "_law_bad_ask" ye KW YS)
   (xC : kL K "_law_spoil_way" xo) (xD : oj K "_law_spoil_way" "_law_spoil_way" rY xo Qw)
   (Nn : kL K "_law_spoil" M3) (Np : oj K "_law_spoil" "_law_spoil" G5 M3 afI)
   (xE : PySem.W.findIn K (.ref aM) "__init__" = some (some (.ref sC))) (xF : PySem.W.isFn K (.ref sC) = true) (FU : oj K "__init__" "Tree.__init__" r6 sC Qx)
   (uZ : PySem.W.findIn K (.ref aJ) "__init__" = some (some (.ref qy))) (u0 : PySem.W.isFn K (.ref qy) = true) (Di : oj K "__init__" "Chart.__init__" qu qy M7)
   (Nq : kL K "_law_chart" W8) (afO : oj K "_law_chart" "_law_chart" G7 W8 afJ)
   (Nr : kL K "above" W9) (afP : oj K "above" "above" G9 W9 Cq)
   (Nt : kL K "depth" Xa) (afQ : oj K "depth" "depth" Hg Xa MN)
   (lX : kL K "are_elders_right" rq) (A1 : oj K "are_elders_right" "are_elders_right" iG rq lA)
   (n6 : kL K "are_kinds_right" sE) (Dj : oj K "are_kinds_right" "are_kinds_right" jm sE mS)
   (A2 : kL K "is_place" I0) (UE : oj K "is_place" "is_place" uI I0 d7)
   (lY : kL K "are_starts_right" rz) (A3 : oj K "are_starts_right" "are_starts_right" iI rz lB)
   (pV : kL K "is_tree_right" vC) (Gj : oj K "is_tree_right" "is_tree_right" kX vC lg)
   (E9 : kL K "is_name" KY) (Zr : oj K "is_name" "is_name" yo KY mz)
   (n8 : kL K "are_names_right" sF) (Dk : oj K "are_names_right" "are_names_right" jt sF eU)
   (u9 : kL K "is_bounded" Dg) (Nu : oj K "is_bounded" "is_bounded" qx Dg mW)
   (n9 : kL K "are_boxes_right" sG) (Dl : oj K "are_boxes_right" "are_boxes_right" ju sG jB)
   (pW : kL K "is_term_right" vD) (Gk : oj K "is_term_right" "is_term_right" kZ vD e7)
   (pX : kL K "is_deed_right" vG) (Gm : oj K "is_deed_right" "is_deed_right" k7 vG pT)
   (oh : kL K "are_deeds_right" sH) (Dm : oj K "are_deeds_right" "are_deeds_right" jz sH jC)
   (rA : kL K "is_ask_right" xq) (Jq : oj K "is_ask_right" "is_ask_right" mX xq qY)
   (rB : kL K "is_way_right" xr) (Jr : oj K "is_way_right" "is_way_right" mZ xr qZ)
   (oU : kL K "are_ways_right" tU) (Fb : oj K "are_ways_right" "are_ways_right" ko tU ku)
   (Js : kL K "looked" Dh) (tV : oj K "looked" "looked" wY Dh gJ)
   (Fd : kL K "_law_refusal" KZ) (Zt : oj K "_law_refusal" "_law_refusal" yq KZ YT)
   (Nv : kL K "_law_bases" Xb) (afR : oj K "_law_bases" "_law_bases" Hi Xb afK)
   (Xc : kL K "law" ag7) (acG : oj K "law" "law" W2 ag7 ag8)
   (acH : PySem.W.nsIn K mainGlobals "len" = some none)
   (Nx : PySem.W.nsIn K mainGlobals "range" = some none)
   (acI : PySem.W.nsIn K mainGlobals "str" = some none)
   (Ny : PySem.W.nsIn K mainGlobals "tuple" = some none)
   (Jt : PySem.W.nsIn K mainGlobals "sorted" = some none)
   (acJ : PySem.W.nsIn K mainGlobals "int" = some none)
   (UG : PySem.W.nsIn K mainGlobals "list" = some none)
   {UH : Tok} (Fe : PySem.W.nsIn K mainGlobals "DEEPEST" = some (some (.int 12 UH)))
   (xG : PySem.W.nsIn K mainGlobals "enumerate" = some none)
   {Xd : Addr} {acK : Option Addr} {MP : Nat} {acL : Array (Option Value)} {UI UJ UK : Tok} (Nz : PySem.W.nsIn K mainGlobals "KINDS" = some (some (.ref Xd))) (Ju : K.lookup Xd = some ⟨.type "tuple", acK, .seq #[.str "leaf" UI, .str "one" UJ, .str "all" UK] MP, acL⟩)
   {Gn : Tok} (rC : PySem.W.nsIn K mainGlobals "LONGEST_NAME" = some (some (.int 12 Gn)))
   {Xe : Addr} {acM : Option Addr} {MQ : Nat} {acN : Array (Option Value)} {UL UM UN UO UQ UR UT UU UW UX QC QD QF QG QH QI QJ QK QL : Tok} (NB : PySem.W.nsIn K mainGlobals "WORDS" = some (some (.ref Xe))) (Jv : K.lookup Xe = some ⟨.type "tuple", acM, .seq #[.str "all" UL, .str "and" UM, .str "box" UN, .str "call" UO, .str "do" UQ, .str "far" UR, .str "if" UT, .str "in" UU, .str "leaf" UW, .str "near" UX, .str "on" QC, .str "one" QD, .str "open" QF, .str "out" QG, .str "put" QH, .str "say" QI, .str "shut" QJ, .str "then" QK, .str "to" QL] MQ, acN⟩)
   {UY : Tok} (Ff : PySem.W.nsIn K mainGlobals "LETTERS" = some (some (.str "abcdefghijklmnopqrstuvwxyz" UY)))
   {vd : Tok} (jj : PySem.W.nsIn K mainGlobals "LETTERS_AND_FIGURES" = some (some (.str "abcdefghijklmnopqrstuvwxyz0123456789" vd)))
   (acO : PySem.W.nsIn K mainGlobals "set" = some none)
   {acP : Tok} (NC : PySem.W.nsIn K mainGlobals "DEEDS" = some (some (.int 3 acP)))
   {Xf : Addr} {acQ : Option Addr} {MT : Nat} {acR : Array (Option Value)} {UZ U0 U1 U3 : Tok} (NF : PySem.W.nsIn K mainGlobals "MARKS" = some (some (.ref Xf))) (Jw : K.lookup Xf = some ⟨.type "tuple", acQ, .seq #[.str "<" UZ, .str "<=" U0, .str "=" U1, .str "!=" U3] MT, acR⟩)
   {Zu : Tok} (Jx : PySem.W.nsIn K mainGlobals "TARGET" = some (some (.int 4 Zu)))
   {afS : Tok} (U4 : PySem.W.nsIn K mainGlobals "MODE" = some (some (.int 5 afS)))
   {Zv : Tok} (Jy : PySem.W.nsIn K mainGlobals "SOURCE" = some (some (.int 0 Zv)))
   {afT : Tok} (U5 : PySem.W.nsIn K mainGlobals "SIGN" = some (some (.int 1 afT)))
   {Xg : Addr} {acS : Option Addr} {MV : Nat} {acT : Array (Option Value)} {U6 U7 U8 : Tok} (NK : PySem.W.nsIn K mainGlobals "MODES" = some (some (.ref Xg))) (Jz : K.lookup Xg = some ⟨.type "tuple", acS, .seq #[.str "new" U6, .str "near" U7, .str "far" U8] MV, acT⟩)
   {afU : Tok} (U9 : PySem.W.nsIn K mainGlobals "ASKS" = some (some (.int 2 afU)))
   (ve : PySem.W.nsIn K mainGlobals "isinstance" = some none)
   (vf : PySem.W.nsIn K mainGlobals "ValueError" = some none)
   : ∃ fd : FuncData, (∀ (s : Shared) (v : Value), BindsTo s fd ⟨[v], []⟩ [("script", v)]) /\ ∀ base : Heap, K.In base -> base.Ns mainGlobals mg -> ic l.prog w K mg base xO 8 fa fd ["script"] (XO K (fun _ => 0) 1 yw yx yy) := by
 have e := hfa.symm.trans (ate XX G Xc)
 cases e
 have NP := ate XX G uT
 have NQ := uU.binds (ps := ["parts", "cell"]) Q.aC
 have NR := ate XX G uV
 have NS := uW.binds (ps := ["parts", "cell"]) Q.aC
 have QM := ate XX G xA
 have QN := xB.binds (ps := ["parts", "cell"]) Q.aC
 have NT := ate XX G uX
 have NV := uY.binds (ps := ["parts", "cell"]) Q.aC
 have QO := ate XX G xC
 have QS := xD.binds (ps := ["parts", "cell"]) Q.aC
 have afV := ate XX G Nn
 have afW := Np.binds (ps := ["parts", "which", "cell"]) fun _ _ _ _ _ _ => by refine qP ?_; exact fun _ _ _ => rfl
 have QT := FU.binds (ps := ["self", "kinds", "elders", "starts"]) fun _ _ _ _ _ _ => by refine qP ?_; exact fun _ _ _ _ => rfl
 have NW := Di.binds (ps := ["self", "boxes", "names", "tree", "ins", "outs", "ways"]) fun _ _ _ _ _ _ => by refine qP ?_; exact fun _ _ _ _ _ _ _ => rfl
 have JA := ate XX G Js
 have JB := tV.binds (ps := ["chart"]) fun _ _ _ _ _ _ => by refine qP ?_; exact fun _ => rfl
 have aqr := ate XX G Xc
 have aqs := acG.binds (ps := ["script"]) fun _ _ _ _ _ _ => by refine qP ?_; exact fun _ => rfl
 have afX := ate XX G M8
 have b7 : DM K aJ := ⟨Ja, Jb, Jc, Jd⟩
 have qz : DM K ((cl aJ aM aD aq au aA av aB) "Chart") := by rw [nk]; exact b7
 have kW : bQ K ((cl aJ aM aD aq au aA av aB) "Chart") "boxes" := by rw [nk]; exact sR
 have jb : bQ K ((cl aJ aM aD aq au aA av aB) "Chart") "names" := by rw [nk]; exact sS
 have vg : bQ K ((cl aJ aM aD aq au aA av aB) "Chart") "tree" := by rw [nk]; exact uP
 have FW : bQ K ((cl aJ aM aD aq au aA av aB) "Chart") "ins" := by rw [nk]; exact xu
 have Dn : bQ K ((cl aJ aM aD aq au aA av aB) "Chart") "outs" := by rw [nk]; exact uQ
 have vh : bQ K ((cl aJ aM aD aq au aA av aB) "Chart") "ways" := by rw [nk]; exact uR
 have ajY := ate XX G Tt
 have eZ : DM K aM := ⟨M9, Nb, Nf, Ng⟩
 have Fg : DM K ((cl aJ aM aD aq au aA av aB) "Tree") := by rw [yz]; exact eZ
 have qA : bQ K ((cl aJ aM aD aq au aA av aB) "Tree") "kinds" := by rw [yz]; exact uS
 have jc : bQ K ((cl aJ aM aD aq au aA av aB) "Tree") "elders" := by rw [yz]; exact sU
 have sW : bQ K ((cl aJ aM aD aq au aA av aB) "Tree") "starts" := by rw [yz]; exact sV
 have QV := ate XX G xx
 have yC := ate XX G Ey
 have Va : kG K aq := ⟨Aq, As, Au, Av, AV, AW, Aw, Ax⟩
 have vm : fU K aq := ⟨⟨_, _, _, _, _, _, _, _, _, _, _, _, _, _, _, _, Ad, Ae, Af, Ag⟩⟩
 have yE := ate XX G EA
 have Vb : kG K au := ⟨Ay, Az, AA, AF, AV, AW, AG, AH⟩
 have vn : fU K au := ⟨⟨_, _, _, _, _, _, _, _, _, _, _, _, _, _, _, _, Ah, Ai, Aj, Ak⟩⟩
 have Dp := ate XX G Ji
 have Zw : kG K aA := ⟨ER, EV, EW, EX, AV, AW, EY, EZ⟩
 have yF : fU K aA := ⟨⟨_, _, _, _, _, _, _, _, _, _, _, _, _, _, _, _, EC, ED, EE, EF⟩⟩
 have yG := ate XX G EG
 have Vc : kG K av := ⟨AI, AJ, AK, AO, AV, AW, AQ, AU⟩
 have vo : fU K av := ⟨⟨_, _, _, _, _, _, _, _, _, _, _, _, _, _, _, _, Al, Am, An, Ao⟩⟩
 have Dq := ate XX G Jl
 have Zx : kG K aB := ⟨E1, E2, E3, E4, AV, AW, E5, E6⟩
 have yH : fU K aB := ⟨⟨_, _, _, _, _, _, _, _, _, _, _, _, _, _, _, _, EI, EJ, EK, EL⟩⟩
 have ou := atQ XX G acH
 have qB := atQ XX G Nx
 have acU := atQ XX G acI
 have Hl := atQ XX G Ny
 have acV := atQ XX G Jt
 have amw := atQ XX G acJ
 have JC := atQ XX G UG
 have Zy : ∃ u, mg "DEEPEST" = some (.int 12 u) := ⟨_, ate XX G Fe⟩
 have FY := atQ XX G xG
 have afY := ate XX G Nz
 have JD : ∃ u, mg "LONGEST_NAME" = some (.int 12 u) := ⟨_, ate XX G rC⟩
 have afZ := ate XX G NB
 have Zz : ∃ u, mg "LETTERS" = some (.str "abcdefghijklmnopqrstuvwxyz" u) := ⟨_, ate XX G Ff⟩
 have vU : ∃ u, mg "LETTERS_AND_FIGURES" = some (.str "abcdefghijklmnopqrstuvwxyz0123456789" u) := ⟨_, ate XX G jj⟩
 have amx := atQ XX G acO
 have af0 : ∃ u, mg "DEEDS" = some (.int 3 u) := ⟨_, ate XX G NC⟩
 have af1 := ate XX G NF
 have acW : ∃ u, mg "TARGET" = some (.int 4 u) := ⟨_, ate XX G Jx⟩
 have ajZ : ∃ u, mg "MODE" = some (.int 5 u) := ⟨_, ate XX G U4⟩
 have QW : ∃ u, mg "SOURCE" = some (.int 0 u) := ⟨_, ate XX G Jy⟩
 have aj0 : ∃ u, mg "SIGN" = some (.int 1 u) := ⟨_, ate XX G U5⟩
 have af2 := ate XX G NK
 have aj1 : ∃ u, mg "ASKS" = some (.int 2 u) := ⟨_, ate XX G U9⟩
 have NX := atQ XX G ve
 have NZ := atQ XX G vf
 refine ⟨ag8, ?bind, fun base _ _ => ?_⟩
 case bind =>
   obtain ⟨oc, od, kV, doc, pm, an, lu, ct, osl, rfl, lk, rE⟩ := acG.ex
   exact fun s v => .of_eq rfl
 have q := @aiU l.prog w mg base K h Q.ac XX G
 have qK := q 0 gi gj gk Zo Si E7 fun _ _ _ _ _ _ _ _ hr u p => Yp (by exact ⟨u, b4 zy 0, b4 zy 1, cG zy 2, ou⟩) p
 have Vd := q 0 qe j5 qf Ux PJ AX fun _ _ _ _ _ _ _ _ hr u p => Sl (by exact ⟨u, b4 wu 0, b4 wu 1, b4 wu 2⟩) p
 have acX := q 1 uw qR ux acB Ys Jo fun _ _ _ _ _ _ _ _ hr u p => abE (by exact ⟨u, b4 iZ 0, b4 iZ 1, frC iZ 2, jk iZ 2 rfl, b4 iZ 3, b4 iZ 4, cG iZ 5, cG iZ 6, cG iZ 7, cG iZ 8, qB, cX Vd hr, cX qK hr, ou⟩) p
 have af3 := q 1 xV xW xX afL abI Nj fun _ _ _ _ _ _ _ _ hr u p => aeO (by exact ⟨u, b4 jI 0, frC jI 1, jk jI 1 rfl, b4 jI 2, b4 jI 3, frC jI 4, jk jI 4 rfl, b4 jI 5, cG jI 6, cG jI 7, cG jI 8, qB, ou, cX qK hr⟩) p
 have af4 := q 0 xZ tK x6 afM abM Nk fun _ _ _ _ _ _ _ _ hr u p => aeX (by exact ⟨u, b4 kO 0, b4 kO 1, b4 kO 2, b4 kO 3, b4 kO 4, b4 kO 5, b4 kO 6, b4 kO 7, cG kO 8, cG kO 9, qB, acU⟩) p
 have ag9 := q 0 BW BX BZ amt ajf acC fun _ _ _ _ _ _ _ _ hr u p => al5 (by exact ⟨u, b4 abP 0, b4 abP 1⟩) p
 have acY := q 1 wF wG wH ajV aeY Uy fun _ _ _ _ _ _ _ _ hr u p => ajh (by exact ⟨u, b4 Mh 0, b4 Mh 1, cG Mh 2, cX ag9 hr⟩) p
 have acZ := q 2 wI wJ wK ajW aeZ Uz fun _ _ _ _ _ _ _ _ hr u p => ajj (by exact ⟨u, b4 B3 0, b4 B3 1, b4 B3 2, b4 B3 3, cG B3 4, cX acY hr⟩) p
 have aj2 := q 3 B4 tL B5 ajX ae0 UA fun _ _ _ _ _ _ _ _ hr u p => ajn (by exact ⟨u, b4 iB 0, frC iB 1, jk iB 1 rfl, frC iB 2, jk iB 2 rfl, b4 iB 3, b4 iB 4, frC iB 5, jk iB 5 rfl, frC iB 6, jk iB 6 rfl, cG iB 7, cG iB 8, cG iB 9, cG iB 10, qB, ou, cX qK hr, Hl, cX acZ hr⟩) p
 have amy := q 2 GV B6 GX amu ajp acD fun _ _ _ _ _ _ _ _ hr u p => al7 (by exact ⟨u, b4 Ed 0, b4 Ed 1, b4 Ed 2, b4 Ed 3, b4 Ed 4, cG Ed 5, cX acY hr⟩) p
 have amA := q 3 GY B7 GZ amv ajs acE fun _ _ _ _ _ _ _ _ hr u p => ama (by exact ⟨u, b4 jJ 0, b4 jJ 1, b4 jJ 2, b4 jJ 3, b4 jJ 4, b4 jJ 5, b4 jJ 6, b4 jJ 7, b4 jJ 8, b4 jJ 9, b4 jJ 10, b4 jJ 11, cG jJ 12, cG jJ 13, cG jJ 14, cG jJ 15, cG jJ 16, cX qK hr, qB, cX amy hr, cX acZ hr, Hl⟩) p
 have af5 := q 4 x9 yb yc afN ab5 Nm fun _ _ _ _ _ _ _ _ hr u p => afg (by exact ⟨u, frC cu 0, jk cu 0 rfl, b4 cu 1, frC cu 2, jk cu 2 rfl, b4 cu 3, b4 cu 4, b4 cu 5, b4 cu 6, frC cu 7, jk cu 7 rfl, b4 cu 8, b4 cu 9, b4 cu 10, b4 cu 11, b4 cu 12, b4 cu 13, cG cu 14, cG cu 15, cG cu 16, cG cu 17, cG cu 18, cG cu 19, cG cu 20, cG cu 21, cG cu 22, cX qK hr, cX acX hr, cX af3 hr, cX af4 hr, qB, cX aj2 hr, acV, ou, cX amA hr, acU, cX ag9 hr⟩) p
 have N1 : ic l.prog w K mg base xO 1 uM _ ["parts", "cell"] (spM K Q.ac 2 jK mH jL g6) := DX uU yW (fun a hp => by
   obtain ⟨p0, p1, p2, p3⟩ := a; dsimp only [jK, g6]
   repeat (first | exact trivial | refine ⟨rfl, ?_⟩)) fun lu Ar outer s H E b a hr hp => by
   obtain ⟨p0, p1, p2, p3⟩ := a; refine Mx ?_ p0 p1 p2 p3 hp
   exact ⟨⟨⟨yW.nd, rfl, .never⟩, hr.units⟩, b4 eo 0, b4 eo 1, b4 eo 2, b4 eo 3, b4 eo 4, b4 eo 5, cG eo 6, cG eo 7, cG eo 8, ou, amw, qB, acU⟩
 have vp := q 0 iC iD iE UB P9 AY fun _ _ _ _ _ _ _ _ hr u p => SQ (by exact ⟨u, b4 wM 0, b4 wM 1, b4 wM 2⟩) p
 have N2 : ic l.prog w K mg base xO 2 uN _ ["parts", "cell"] (spM K Q.ac 2 jM mJ jN g7) := DX uW yX (fun a hp => by
   obtain ⟨p0, p1, p2, p3⟩ := a; dsimp only [jM, g7]
   repeat (first | exact trivial | refine ⟨rfl, ?_⟩)) fun lu Ar outer s H E b a hr hp => by
   obtain ⟨p0, p1, p2, p3⟩ := a; refine Mz ?_ p0 p1 p2 p3 hp
   exact ⟨⟨⟨yX.nd, rfl, .never⟩, hr.units⟩, b4 i6 0, b4 i6 1, b4 i6 2, b4 i6 3, cG i6 4, cG i6 5, ou, cX vp hr⟩
 have QX : ic l.prog w K mg base xO 2 xm _ ["parts", "cell"] (spM K Q.ac 2 kP oZ kQ i7) := DX xB B9 (fun a hp => by
   obtain ⟨p0, p1, p2, p3⟩ := a; dsimp only [kP, i7]
   repeat (first | exact trivial | refine ⟨rfl, ?_⟩)) fun lu Ar outer s H E b a hr hp => by
   obtain ⟨p0, p1, p2, p3⟩ := a; refine Qc ?_ p0 p1 p2 p3 hp
   exact ⟨⟨⟨B9.nd, rfl, .never⟩, hr.units⟩, b4 gu 0, b4 gu 1, b4 gu 2, b4 gu 3, b4 gu 4, b4 gu 5, cG gu 6, cG gu 7, ou, cX vp hr⟩
 have JF := q 0 mK mL mO UC Qd AZ fun _ _ _ _ _ _ _ _ hr u p => SV (by exact ⟨u, b4 rT 0, b4 rT 1, b4 rT 2, b4 rT 3⟩) p
 have Ve := q 1 ql qm qo UD Qe A0 fun _ _ _ _ _ _ _ _ hr u p => SX (by exact ⟨u, b4 pJ 0, b4 pJ 1, b4 pJ 2, cG pJ 3, cG pJ 4, cX JF hr, cX vp hr⟩) p
 have QY := q 0 qV jP qW acF Yx Jp fun _ _ _ _ _ _ _ _ hr u p => ab9 (by exact ⟨u, b4 qE 0, b4 qE 1, b4 qE 2, cG qE 3, cG qE 4, cG qE 5, JC, ou, Hl⟩) p
 have N3 : ic l.prog w K mg base xO 3 uO _ ["parts", "cell"] (spM K Q.ac 2 jQ mP jR g8) := DX uY yZ (fun a hp => by
   obtain ⟨p0, p1, p2, p3⟩ := a; dsimp only [jQ, g8]
   repeat (first | exact trivial | refine ⟨rfl, ?_⟩)) fun lu Ar outer s H E b a hr hp => by
   obtain ⟨p0, p1, p2, p3⟩ := a; refine MD ?_ p0 p1 p2 p3 hp
   exact ⟨⟨⟨yZ.nd, rfl, .never⟩, hr.units⟩, b4 ez 0, b4 ez 1, b4 ez 2, b4 ez 3, b4 ez 4, b4 ez 5, cG ez 6, cG ez 7, cG ez 8, cX Ve hr, ou, cX QY hr⟩
 have ZC := q 1 rV rW rX Zq S6 E8 fun _ _ _ _ _ _ _ _ hr u p => Yz (by exact ⟨u, b4 qX 0, b4 qX 1, b4 qX 2, b4 qX 3, cG qX 4, cX JF hr⟩) p
 have QZ : ic l.prog w K mg base xO 3 xo _ ["parts", "cell"] (spM K Q.ac 2 kR pA kT i9) := DX xD Cg (fun a hp => by
   obtain ⟨p0, p1, p2, p3⟩ := a; dsimp only [kR, i9]
   repeat (first | exact trivial | refine ⟨rfl, ?_⟩)) fun lu Ar outer s H E b a hr hp => by
   obtain ⟨p0, p1, p2, p3⟩ := a; refine Qh ?_ p0 p1 p2 p3 hp
   exact ⟨⟨⟨Cg.nd, rfl, .never⟩, hr.units⟩, b4 cU 0, b4 cU 1, b4 cU 2, b4 cU 3, b4 cU 4, b4 cU 5, b4 cU 6, cG cU 7, cG cU 8, cG cU 9, cG cU 10, cG cU 11, cG cU 12, ou, JC, cX vp hr, cX QY hr, cX ZC hr, Hl⟩
 have af6 : ic l.prog w K mg base xO 4 M3 _ ["parts", "which", "cell"] (spM K Q.ac 3 tM yg tN qF) := DX Np Qk (fun a hp => by
   obtain ⟨p0, p1, p2, p3, p4⟩ := a; dsimp only [tM, qF]
   repeat (first | exact trivial | refine ⟨rfl, ?_⟩)) fun lu Ar outer s H E b a hr hp => by
   obtain ⟨p0, p1, p2, p3, p4⟩ := a; refine afk ?_ p0 p1 p2 p3 p4 hp
   exact ⟨⟨⟨Qk.nd, rfl, .never⟩, hr.units⟩, b4 pK 0, b4 pK 1, b4 pK 2, cG pK 3, cG pK 4, cG pK 5, cG pK 6, cG pK 7, ⟨⟨_, _, _, N1, NP, uU.kp, NQ⟩, hr.mono Q.c⟩, ⟨⟨_, _, _, N2, NR, uW.kp, NS⟩, hr.mono Q.c⟩, ⟨⟨_, _, _, QX, QM, xB.kp, QN⟩, hr.mono Q.c⟩, ⟨⟨_, _, _, N3, NT, uY.kp, NV⟩, hr.mono Q.c⟩, ⟨⟨_, _, _, QZ, QO, xD.kp, QS⟩, hr.mono Q.c⟩⟩
 have Q0 : ic l.prog w K mg base xO 1 sC _ ["self", "kinds", "elders", "starts"] (spI K Q.ac "Tree" 4 y9 za zb) := VZ FU Cm fun lu Ar outer s H E b a y hr hp => by
   obtain ⟨p0, p1, p2⟩ := a; refine Qm ?_ p0 p1 p2 y hp
   exact ⟨⟨⟨Cm.nd, rfl, .never⟩, hr.units⟩, b4 mQ 0, b4 mQ 1, b4 mQ 2, b4 mQ 3, cG mQ 4, JC, Fg, qA, jc, sW⟩
 have N4 : ic l.prog w K mg base xO 1 qy _ ["self", "boxes", "names", "tree", "ins", "outs", "ways"] (spI K Q.ac "Chart" 7 wO wQ wR) := VZ Di zc fun lu Ar outer s H E b a y hr hp => by
   obtain ⟨p0, p1, p2, p3, p4, p5⟩ := a; refine MK ?_ p0 p1 p2 p3 p4 p5 y hp
   exact ⟨⟨⟨zc.nd, rfl, .never⟩, hr.units⟩, b4 fD 0, b4 fD 1, b4 fD 2, b4 fD 3, b4 fD 4, b4 fD 5, b4 fD 6, cG fD 7, JC, qz, kW, jb, vg, FW, Dn, vh⟩
 have af7 := q 2 yh yi yj afO acd Nq fun _ _ _ _ _ _ _ _ hr u p => afo (by exact ⟨u, b4 wU 0, b4 wU 1, cG wU 2, cG wU 3, cG wU 4, ⟨⟨_, _, _, by rw [yz]; exact ⟨Nh, xE, xF, Ni⟩, Q0, by rw [yz]; exact ajY, QT⟩, hr.mono Q.c⟩, JC, ⟨⟨_, _, _, by rw [nk]; exact ⟨Je, uZ, u0, Jf⟩, N4, by rw [nk]; exact afX, NW⟩, hr.mono Q.c⟩⟩) p
 have Xh := q 0 tO qG tP afP ace Nr fun _ _ _ _ _ _ _ _ hr u p => afq (by exact ⟨u, b4 Cp 0, b4 Cp 1, b4 Cp 2, b4 Cp 3, Fg, jc⟩) p
 have af8 := q 1 yk tQ ym afQ acf Nt fun _ _ _ _ _ _ _ _ hr u p => afs (by exact ⟨u, b4 Cr 0, b4 Cr 1, cG Cr 2, cG Cr 3, ou, cX Xh hr⟩) p
 have A4 := q 2 gw eG gy A1 yO lX fun _ _ _ _ _ _ _ _ hr u p => zF (by exact ⟨u, b4 cH 0, b4 cH 1, b4 cH 2, cG cH 3, cG cH 4, cG cH 5, cG cH 6, cG cH 7, qB, ou, cX Xh hr, cX af8 hr, Zy, Fg, jc⟩) p
 have Dr := q 0 gR fk gS Dj zG n6 fun _ _ _ _ _ _ _ _ hr u p => Cu (by exact ⟨u, b4 dG 0, b4 dG 1, b4 dG 2, b4 dG 3, b4 dG 4, cG dG 5, cG dG 6, FY, V6 afY Ju Q.i (.cons ⟨_, rfl⟩ (.cons ⟨_, rfl⟩ (.cons ⟨_, rfl⟩ (.nil)))), Fg, jc, qA⟩) p
 have rD := q 0 gA gB gC UE Qn A2 fun _ _ _ _ _ _ _ _ hr u p => S9 (by exact ⟨u, b4 wX 0, b4 wX 1, cG wX 2, ou⟩) p
 have A5 := q 1 gD eK gE A3 yP lY fun _ _ _ _ _ _ _ _ hr u p => zI (by exact ⟨u, b4 fq 0, b4 fq 1, b4 fq 2, cG fq 3, cG fq 4, FY, cX rD hr, Fg, sW, qA, jc⟩) p
 have vH := q 3 jo jq jr Gj Eh pV fun _ _ _ _ _ _ _ _ hr u p => Ga (by exact ⟨u, b4 d8 0, b4 d8 1, b4 d8 2, cG d8 3, cG d8 4, cG d8 5, cG d8 6, ou, cX A4 hr, cX Dr hr, cX A5 hr, Fg, qA, jc, sW⟩) p
 have Fi := q 0 mj mq mw Zr Tc E9 fun _ _ _ _ _ _ _ _ hr u p => YJ (by exact ⟨u, b4 lC 0, b4 lC 1, cG lC 2, cG lC 3, cG lC 4, cG lC 5, cG lC 6, ou, JD, V6 afZ Jv Q.i (.cons ⟨_, rfl⟩ (.cons ⟨_, rfl⟩ (.cons ⟨_, rfl⟩ (.cons ⟨_, rfl⟩ (.cons ⟨_, rfl⟩ (.cons ⟨_, rfl⟩ (.cons ⟨_, rfl⟩ (.cons ⟨_, rfl⟩ (.cons ⟨_, rfl⟩ (.cons ⟨_, rfl⟩ (.cons ⟨_, rfl⟩ (.cons ⟨_, rfl⟩ (.cons ⟨_, rfl⟩ (.cons ⟨_, rfl⟩ (.cons ⟨_, rfl⟩ (.cons ⟨_, rfl⟩ (.cons ⟨_, rfl⟩ (.cons ⟨_, rfl⟩ (.cons ⟨_, rfl⟩ (.nil)))))))))))))))))))), Zz, vU⟩) p
 have oi := q 1 fu cI fz Dk zL n8 fun _ _ _ _ _ _ _ _ hr u p => Cz (by exact ⟨u, b4 fK 0, b4 fK 1, cG fK 2, cG fK 3, cG fK 4, cX Fi hr, ou, amx⟩) p
 have Ds := q 0 jS jT jU Nu Kc u9 fun _ _ _ _ _ _ _ _ hr u p => MS (by exact ⟨u, b4 Ka 0⟩) p
 have sI := q 2 gT dQ gU Dl zM n9 fun _ _ _ _ _ _ _ _ hr u p => CD (by exact ⟨u, b4 iK 0, b4 iK 1, cG iK 2, cG iK 3, cX Ds hr, cX oi hr⟩) p
 have vI := q 1 gF gG gH Gk Ej pW fun _ _ _ _ _ _ _ _ hr u p => Gd (by exact ⟨u, b4 j6 0, b4 j6 1, cG j6 2, cG j6 3, cX rD hr, cX Ds hr, qz, kW⟩) p
 have Gp := q 2 jw jx jy Gm Ek pX fun _ _ _ _ _ _ _ _ hr u p => Gf (by exact ⟨u, b4 fE 0, b4 fE 1, b4 fE 2, cG fE 3, cG fE 4, cG fE 5, cX rD hr, cX vI hr, cX Fi hr, qz, kW⟩) p
 have sJ := q 3 gV dR gW Dm zN oh fun _ _ _ _ _ _ _ _ hr u p => CG (by exact ⟨u, b4 d9 0, b4 d9 1, b4 d9 2, b4 d9 3, cG d9 4, cG d9 5, ou, cX Gp hr, af0, qz, jb, FW, Dn, vh⟩) p
 have JG := q 2 j7 j8 j9 Jq Gh rA fun _ _ _ _ _ _ _ _ hr u p => IK (by exact ⟨u, b4 fX 0, b4 fX 1, b4 fX 2, cG fX 3, cG fX 4, cG fX 5, cX rD hr, V6 af1 Jw Q.i (.cons ⟨_, rfl⟩ (.cons ⟨_, rfl⟩ (.cons ⟨_, rfl⟩ (.cons ⟨_, rfl⟩ (.nil))))), cX vI hr, qz, jb⟩) p
 have JH := q 3 kg kh ki Jr Gi rB fun _ _ _ _ _ _ _ _ hr u p => IU (by exact ⟨u, b4 bU 0, b4 bU 1, b4 bU 2, b4 bU 3, b4 bU 4, cG bU 5, cG bU 6, cG bU 7, cG bU 8, cG bU 9, cG bU 10, cG bU 11, cG bU 12, cG bU 13, acW, ajZ, cX rD hr, QW, cX Fi hr, aj0, V6 af2 Jz Q.i (.cons ⟨_, rfl⟩ (.cons ⟨_, rfl⟩ (.cons ⟨_, rfl⟩ (.nil)))), aj1, cX JG hr, qz, jb⟩) p
 have tW := q 4 iL iM iN Fb CK oU fun _ _ _ _ _ _ _ _ hr u p => Em (by exact ⟨u, b4 gI 0, b4 gI 1, b4 gI 2, cG gI 3, cG gI 4, QW, cX JH hr, qz, vh⟩) p
 have ac0 : ic l.prog w K mg base xO 6 Dh _ ["chart"] (XO K Q.ac 1 rg oE rm) := Lh tV yp fun lu Ar outer s H E b a hr hp => by
   refine ack ?_ hp
   exact ⟨⟨⟨yp.nd, rfl, .never⟩, hr.units⟩, b4 cy 0, cG cy 1, cG cy 2, cG cy 3, cG cy 4, cG cy 5, cG cy 6, cG cy 7, cG cy 8, cG cy 9, cG cy 10, cX vH hr, by rw [bA]; exact yC, by rw [bA]; exact vm, cX oi hr, by rw [bB]; exact yE, by rw [bB]; exact vn, cX sI hr, by rw [bN]; exact Dp, by rw [bN]; exact yF, cX sJ hr, by rw [bC]; exact yG, by rw [bC]; exact vo, cX tW hr, by rw [bO]; exact Dq, by rw [bO]; exact yH, qz, vg, jb, kW⟩
 have Q5 := alC ac0 JA tV.kp JB
 have K2 : ic l.prog w K mg base (CX8 l.prog w) 6 Dh _ ["chart"] (spR K Q.ac 1 m8 cA m9) := aiL tV yp fun lu Ar outer s H E b a hr hp hE => by
   obtain ⟨p0, p1, p2, p3, p4, p5, p6, p7⟩ := a; refine YK ?_ p0 p1 p2 p3 p4 p5 p6 p7 hp hE
   exact ⟨⟨⟨yp.nd, rfl, aek rfl rfl⟩, hr.units⟩, b4 cy 0, cG cy 1, cG cy 2, cG cy 3, cG cy 4, cG cy 5, cG cy 6, cG cy 7, cG cy 8, cG cy 9, cG cy 10, cX vH hr, by rw [bA]; exact yC, by rw [bA]; exact vm, cX oi hr, by rw [bB]; exact yE, by rw [bB]; exact vn, cX sI hr, by rw [bN]; exact Dp, by rw [bN]; exact yF, cX sJ hr, by rw [bC]; exact yG, by rw [bC]; exact vo, cX tW hr, by rw [bO]; exact Dq, by rw [bO]; exact yH, qz, vg, jb, kW⟩
 have ZD := q 6 sj sq su Zt Ti Fd fun _ _ _ _ _ _ _ _ hr u p => YN (by exact ⟨u, b4 iO 0, b4 iO 1, b4 iO 2, cG iO 3, cG iO 4, cG iO 5, cG iO 6, cG iO 7, cG iO 8, cX Q5 hr, by rw [bA]; exact yC, by rw [bA]; exact vm, by rw [bB]; exact yE, by rw [bB]; exact vn, by rw [bN]; exact Dp, by rw [bN]; exact yF, by rw [bC]; exact yG, by rw [bC]; exact vo, by rw [bO]; exact Dq, by rw [bO]; exact yH, ⟨⟨_, _, _, K2, JA, tV.kp, JB⟩, hr.mono Q.c⟩, rfl, rfl, rfl, by rw [bA, bN]; exact nM, by rw [bA, bC]; exact lO, by rw [bA, bB]; exact lP, by rw [bA]; exact lQ, by rw [bA, bO]; exact nO, by rw [bB, bN]; exact nP, by rw [bB, bC]; exact lR, by rw [bB]; exact lS, by rw [bB, bA]; exact lT, by rw [bB, bO]; exact nQ, by rw [bN]; exact oO, by rw [bN, bC]; exact nR, by rw [bN, bB]; exact nS, by rw [bN, bA]; exact nT, by rw [bN, bO]; exact oQ, by rw [bC, bN]; exact nU, by rw [bC]; exact lU, by rw [bC, bB]; exact lV, by rw [bC, bA]; exact lW, by rw [bC, bO]; exact nV, by rw [bO, bN]; exact oR, by rw [bO, bC]; exact nW, by rw [bO, bB]; exact nX, by rw [bO, bA]; exact nY, by rw [bO]; exact oS⟩) p
 have af9 := q 6 yt tS yu afR aco Nv fun _ _ _ _ _ _ _ _ hr u p => afA (by exact ⟨u, b4 iW 0, b4 iW 1, b4 iW 2, cG iW 3, cG iW 4, cG iW 5, cG iW 6, cG iW 7, cG iW 8, cG iW 9, cG iW 10, cG iW 11, cX Q5 hr, by rw [kC]; exact QV, NX, NZ, by rw [bA]; exact yC, by rw [bA]; exact vm, by rw [bB]; exact yE, by rw [bB]; exact vn, by rw [bN]; exact Dp, by rw [bN]; exact yF, by rw [bC]; exact yG, by rw [bC]; exact vo, by rw [bO]; exact Dq, by rw [bO]; exact yH, ⟨⟨_, _, _, K2, JA, tV.kp, JB⟩, hr.mono Q.c⟩, rfl, rfl, rfl, by rw [bA, kC]; exact jY, by rw [bB, kC]; exact jZ, by rw [bN, kC]; exact kJ, by rw [bC, kC]; exact j3, by rw [bO, kC]; exact kK, rfl, rfl, by rw [bA, bN]; exact nq, by rw [bB, bN]; exact ny, by rw [bN]; exact oJ, by rw [bC, bN]; exact nG, by rw [bO, bN]; exact oM, by rw [bA, bC]; exact lD, by rw [bB, bC]; exact lH, by rw [bN, bC]; exact nB, by rw [bC]; exact lK, by rw [bO, bC]; exact nJ, by rw [bA, bB]; exact lF, by rw [bB]; exact lI, by rw [bN, bB]; exact nE, by rw [bC, bB]; exact lM, by rw [bO, bB]; exact nK, by rw [bA]; exact lG, by rw [bB, bA]; exact lJ, by rw [bN, bA]; exact nF, by rw [bC, bA]; exact lN, by rw [bO, bA]; exact nL, by rw [bA, bO]; exact nu, by rw [bB, bO]; exact nA, by rw [bN, bO]; exact oK, by rw [bC, bO]; exact nI, by rw [bO]; exact oN, by rw [bA]; exact jg, by rw [bB]; exact jh, by rw [bN]; exact jW, by rw [bC]; exact ji, by rw [bO]; exact jX, by rw [bA]; exact Va, by rw [bB]; exact Vb, by rw [bN]; exact Zw, by rw [bC]; exact Vc, by rw [bO]; exact Zx⟩) p
 have amB : ic l.prog w K mg base xO 8 _ _ ["script"] (XO K Q.ac 1 yw yx yy) := Lh acG acu fun lu Ar outer s H E b a hr hp => by
   refine amn ?_ hp
   exact ⟨⟨⟨acu.nd, rfl, .never⟩, hr.units⟩, b4 pU 0, frC pU 1, jk pU 1 rfl, b4 pU 2, b4 pU 3, cG pU 4, cG pU 5, cG pU 6, cG pU 7, cG pU 8, cG pU 9, cG pU 10, cX qK hr, cX af5 hr, ⟨⟨_, _, _, af6, afV, Np.kp, afW⟩, hr.mono Q.c⟩, cX af7 hr, cX ZD hr, cX af9 hr, qB⟩
 exact amB.imp (aik (fun _ => rfl) (fun _ => rfl) fun x hx => ajR hx)
theorem walk {l : PySem.W.OpenLaw} {q : Program} {loose : Q.h} {XP : Q.A -> Heap -> Prop} {YP : World -> Heap -> Prop} {d : DefRec} {K : Params -> PySem.W.Frag} (hn : l.most = some 63) (hdf : d.params.defaults = [])
   (hY : ∀ (w : World) (h : Heap), YP w h -> (K w.params).In h)
   (F : ∀ (w : World) (mg : Q.A) (fa : Addr) (h : Heap), (K w.params).In h -> h.Ns mainGlobals mg -> mg d.name = some (.ref fa) →
     ∃ fd : FuncData, (∀ (s : Shared) (u : Value), BindsTo s fd ⟨[u], []⟩ [("script", u)]) /\ ∀ base : Heap, (K w.params).In base -> base.Ns mainGlobals mg -> ic l.prog w (K w.params) mg base xO 8 fa fd ["script"] (XO (K w.params) (fun _ => 0) 1 yw yx yy)) :
   PySem.W.WalkO q loose XP YP l.row.toRowW d [] (fun f vs => PySem.call f vs) :=
 L2.adK (n := 63) (k := 8) (x := "script") (CX := fun _ => xO) (sp := fun w => XO (K w.params) (fun _ => 0) 1 yw yx yy) hn Q.c hdf ⟨rfl, by decide, by decide⟩ hY F (fun _ _ a ns hl _ hS => aib rfl hl rfl hS) fun _ _ _ _ _ z => z
end Law
end
namespace PySem.W.Fast
 def tw4534319672094908579 := 0
 def tw12029394523530766199 := 0
 def tw15130209690992596799 := 0
 def tw11960419230932897526 := 0
 def tw11902932059274371122 := 0
 def tw11993977611132774162 := 0
 def tw3567153053204014062 := 0
 def tw8925243080934869134 := 0
 def tw11866873278730437120 := 0
 def tw587481320078410599 := 0
 def tw43788689526696056 := 0
 def tw17699055075359428287 := 0
 def tw12171917686303173612 := 0
 def tw17854928019482592239 := 0
 def tw5500954739773819407 := 0
 def tw181208273461424992 := 0
 def tw3774585443438468854 := 0
 def tw1288509512745884142 := 0
 def tw6938013868040825964 := 0
 def tw17102822138864271742 := 0
 def tw286962388233915190 := 0
 def tw12873404004240291617 := 0
 def tw14348693163552074590 := 0
 def tw13720021010928176249 := 0
 def tw15850467392403074535 := 0
 def tw11177690254327136629 := 0
 def tw7154580598890629525 := 0
 def tw1005836986392447323 := 0
 def tw16507243231319733284 := 0
 def tw13921176995344019699 := 0
 def tw6640154493538875269 := 0
 def tw7587030041322912246 := 0
 def tw8847597943930677044 := 0
 def tw18281310475102458206 := 0
 def tw9892767403435113151 := 0
 def tw8133925374194565473 := 0
 def tw8734479450884646499 := 0
 def tw14185278664824500682 := 0
 def tw13289435302511045280 := 0
 def tw3364845067106879987 := 0
 def tw6135497496901775889 := 0
 def tw4338869738543515389 := 0
 def tw10820753633769920980 := 0
 def tw16075301947381525200 := 0
 def tw11588777643848766976 := 0
 def tw1704938512703482146 := 0
 def tw15146313761305907035 := 0
 def tw12155297294472702942 := 0
 def tw6757558818125527403 := 0
 def tw10924884012432767227 := 0
 def tw8079440171096404967 := 0
 def tw18069465587402247497 := 0
 def tw1865917893988151821 := 0
 def tw8130335459265231760 := 0
 def tw17877887686132727904 := 0
 def tw5022293513192472713 := 0
 def tw3648560206584328033 := 0
 def tw10215393884514662311 := 0
 def tw5976051236009941130 := 0
 def tw5734245015864224210 := 0
 def tw10338440863017627252 := 0
 def tw10726980468158339574 := 0
 def tw15679158817136496610 := 0
 def tw11334073305408552471 := 0
 def tw18268250334040404400 := 0
 def tw11417278919199092741 := 0
 def tw12019480251232387845 := 0
 def tw11960479015314699650 := 0
 def tw1770515711778798507 := 0
 def tw15829170779988603268 := 0
 def tw15654789918940174323 := 0
 def tw15091879098248269995 := 0
 def tw4687347512042592894 := 0
 def tw11228101761966125515 := 0
 def tw13726853857444169583 := 0
 def tw5390540367367342362 := 0
 def tw5165491273366417127 := 0
 def tw12494249245451023632 := 0
 def tw7247794546609300058 := 0
end PySem.W.Fast
open PySem PySem.W PyProof.Rows
set_option maxRecDepth 100000 in
set_option maxHeartbeats 0 in
theorem PySem.Challenge.cw_moodtree_k16_one_spoiling_is_told_holds : PySem.Challenge.rw_moodtree_k16_one_spoiling_is_told.Holds := by
 w_on; o_law; k_head; (case hw => w_witness2)
 k_fill
 refine Law.walk (l := PySem.Challenge.rw_moodtree_k16_one_spoiling_is_told) rfl rfl (fun w h Y => PySem.W.kIn_of Y) ?F
 case F =>
   intro w mg fa h KX G hmg
   refine' Law.all_mk KX G hmg ?M8 ?Ja ?Jb ?Jc ?Jd ?Je ?Jf ?sR ?sS ?uP ?xu ?uQ ?uR ?Tt ?M9 ?Nb ?Nf ?Ng ?Nh ?Ni ?uS ?sU ?sV ?xx ?Ey ?Ad ?Ae ?Af ?Ag ?EA ?Ah ?Ai ?Aj ?Ak ?Ji ?EC ?ED ?EE ?EF ?EG ?Al ?Am ?An ?Ao ?Jl ?EI ?EJ ?EK ?EL ?nq ?lD ?lF ?lG ?nu ?jg ?ny ?lH ?lI ?lJ ?nA ?jh ?oJ ?nB ?nE ?nF ?oK ?jW ?nG ?lK ?lM ?lN ?nI ?ji ?oM ?nJ ?nK ?nL ?oN ?jX ?Aq ?As ?Au ?Av ?Aw ?Ax ?Ay ?Az ?AA ?AF ?AG ?AH ?ER ?EV ?EW ?EX ?EY ?EZ ?AI ?AJ ?AK ?AO ?AQ ?AU ?E1 ?E2 ?E3 ?E4 ?E5 ?E6 ?AV ?AW ?nM ?lO ?lP ?lQ ?nO ?nP ?lR ?lS ?lT ?nQ ?oO ?nR ?nS ?nT ?oQ ?nU ?lU ?lV ?lW ?nV ?oR ?nW ?nX ?nY ?oS ?jY ?jZ ?kJ ?j3 ?kK ?E7 (L2.bV ?ZE ?ZF ?ZG) ?AX (L2.bV ?Vf ?Vg ?Vh) ?Jo (L2.bV ?dI ?ac1 ?wA) ?Nj (L2.bV ?qg ?aga ?agb) ?Nk (L2.bV ?dX ?agc ?Mp) ?acC (L2.bV ?amC ?amD ?amE) ?Uy (L2.bV ?IG ?aj3 ?aj4) ?Uz (L2.bV ?jf ?aj5 ?aj6) ?UA (L2.bV ?Ir ?aj7 ?aj8) ?acD (L2.bV ?zf ?amF ?amG) ?acE (L2.bV ?bM ?amH ?amI) ?Nm (L2.bV ?aO ?agd ?age) ?uT (L2.bV ?N5 ?N6 ?N7) ?AY (L2.bV ?Vi ?Vj ?Vk) ?uV (L2.bV ?N8 ?N9 ?Oa) ?xA (L2.bV ?Q6 ?Q7 ?Q8) ?AZ (L2.bV ?Vl ?Vm ?Vo) ?A0 (L2.bV ?Vp ?Vq ?Vr) ?Jp (L2.bV ?ac2 ?ac3 ?ac4) ?uX (L2.bV ?Ob ?Oc ?Od) ?E8 (L2.bV ?ZH ?ZI ?ZJ) ?xC (L2.bV ?Q9 ?Ra ?Rb) ?Nn (L2.bV ?agf ?agg ?agh) ?xE ?xF (L2.bV ?Rc ?Rf ?Rg) ?uZ ?u0 (L2.bV ?Oe ?Og ?Oh) ?Nq (L2.bV ?aZ ?agi ?agj) ?Nr (L2.bV ?agk ?agl ?agm) ?Nt (L2.bV ?agn ?ago ?agp) ?lX (L2.bV ?A6 ?A7 ?A8) ?n6 (L2.bV ?Dt ?Du ?Dv) ?A2 (L2.bV ?Vs ?Vt ?Vu) ?lY (L2.bV ?A9 ?Ba ?Bb) ?pV (L2.bV ?Gq ?Gr ?Gs) ?E9 (L2.bV ?ZK ?ZL ?ZM) ?n8 (L2.bV ?Dw ?Dy ?Dz) ?u9 (L2.bV ?Oi ?Oj ?Ol) ?n9 (L2.bV ?DB ?DC ?DE) ?pW (L2.bV ?Gu ?Gv ?Gw) ?pX (L2.bV ?Gy ?Gz ?GA) ?oh (L2.bV ?DF ?DG ?DH) ?rA (L2.bV ?JK ?JL ?JM) ?rB (L2.bV ?JN ?JQ ?JR) ?oU (L2.bV ?Fj ?Fl ?Fo) ?Js (L2.bV ?ac5 ?ac6 ?ac7) ?Fd (L2.bV ?ZN ?ZO ?ZP) ?Nv (L2.bV ?agq ?agr ?ags) ?Xc (L2.bV ?amJ ?amK ?amL) ?acH ?Nx ?acI ?Ny ?Jt ?acJ ?UG ?Fe ?xG ?Nz ?Ju ?rC ?NB ?Jv ?Ff ?jj ?acO ?NC ?NF ?Jw ?Jx ?U4 ?Jy ?U5 ?NK ?Jz ?U9 ?ve ?vf
   case M8 | Ja | Jb | Jc | Jd | Je | Jf | sR | sS | uP | xu | uQ | uR | Tt | M9 | Nb | Nf | Ng | Nh | Ni | uS | sU | sV | xx | Ey | Ad => (try delta L3.kL); k_is
   case Ae => kernel_rfl
   case Af => (try delta L3.kL); k_is
   case Ag => kernel_rfl
   case EA | Ah => (try delta L3.kL); k_is
   case Ai => kernel_rfl
   case Aj => (try delta L3.kL); k_is
   case Ak => kernel_rfl
   case Ji | EC => (try delta L3.kL); k_is
   case ED => kernel_rfl
   case EE => (try delta L3.kL); k_is
   case EF => kernel_rfl
   case EG | Al => (try delta L3.kL); k_is
   case Am => kernel_rfl
   case An => (try delta L3.kL); k_is
   case Ao => kernel_rfl
   case Jl | EI => (try delta L3.kL); k_is
   case EJ => kernel_rfl
   case EK => (try delta L3.kL); k_is
   case EL => kernel_rfl
   case nq => kit_is
   case lD => kit_is
   case lF => kit_is
   case lG => kit_is
   case nu => kit_is
   case jg => kit_is
   case ny => kit_is
   case lH => kit_is
   case lI => kit_is
   case lJ => kit_is
   case nA => kit_is
   case jh => kit_is
   case oJ => kit_is
   case nB => kit_is
   case nE => kit_is
   case nF => kit_is
   case oK => kit_is
   case jW => kit_is
   case nG => kit_is
   case lK => kit_is
   case lM => kit_is
   case lN => kit_is
   case nI => kit_is
   case ji => kit_is
   case oM => kit_is
   case nJ => kit_is
   case nK => kit_is
   case nL => kit_is
   case oN => kit_is
   case jX => kit_is
   case Aq | As | Au | Av | Aw | Ax | Ay | Az | AA | AF | AG | AH | ER | EV | EW | EX | EY | EZ | AI | AJ | AK | AO | AQ | AU | E1 | E2 | E3 | E4 | E5 | E6 | AV | AW => (try delta L3.kL); k_is
   case nM => kts_exm
   case lO => kts_exm
   case lP => kts_exm
   case lQ => kts_exm
   case nO => kts_exm
   case nP => kts_exm
   case lR => kts_exm
   case lS => kts_exm
   case lT => kts_exm
   case nQ => kts_exm
   case oO => kts_exm
   case nR => kts_exm
   case nS => kts_exm
   case nT => kts_exm
   case oQ => kts_exm
   case nU => kts_exm
   case lU => kts_exm
   case lV => kts_exm
   case lW => kts_exm
   case nV => kts_exm
   case oR => kts_exm
   case nW => kts_exm
   case nX => kts_exm
   case nY => kts_exm
   case oS => kts_exm
   case jY => kts_exm
   case jZ => kts_exm
   case kJ => kts_exm
   case j3 => kts_exm
   case kK => kts_exm
   case E7 | ZE | ZF | ZG | AX | Vf | Vg | Vh | Jo | dI | ac1 | wA | Nj | qg | aga | agb | Nk | dX | agc | Mp | acC | amC | amD | amE | Uy | IG | aj3 | aj4 | Uz | jf | aj5 | aj6 | UA | Ir | aj7 | aj8 | acD | zf | amF | amG | acE | bM | amH | amI | Nm | aO | agd | age | uT | N5 | N6 | N7 | AY | Vi | Vj | Vk | uV | N8 | N9 | Oa | xA | Q6 | Q7 | Q8 | AZ | Vl | Vm | Vo | A0 | Vp | Vq | Vr | Jp | ac2 | ac3 | ac4 | uX | Ob | Oc | Od | E8 | ZH | ZI | ZJ | xC | Q9 | Ra | Rb | Nn | agf | agg | agh | xE | xF | Rc | Rf | Rg | uZ | u0 | Oe | Og | Oh | Nq | aZ | agi | agj | Nr | agk | agl | agm | Nt | agn | ago | agp | lX | A6 | A7 | A8 | n6 | Dt | Du | Dv | A2 | Vs | Vt | Vu | lY | A9 | Ba | Bb | pV | Gq | Gr | Gs | E9 | ZK | ZL | ZM | n8 | Dw | Dy | Dz | u9 | Oi | Oj | Ol | n9 | DB | DC | DE | pW | Gu | Gv | Gw | pX | Gy | Gz | GA | oh | DF | DG | DH | rA | JK | JL | JM | rB | JN | JQ | JR | oU | Fj | Fl | Fo | Js | ac5 | ac6 | ac7 | Fd | ZN | ZO | ZP | Nv | agq | agr | ags | Xc | amJ | amK | amL | acH | Nx | acI | Ny | Jt | acJ | UG | Fe | xG | Nz | Ju | rC | NB | Jv | Ff | jj | acO | NC | NF | Jw | Jx | U4 | Jy | U5 | NK | Jz | U9 | ve | vf => (try delta L3.kL); k_is
