import PyProof.Rows.All
import Wide.All
import OpenK.AllK
import Wide.FinOn
import Lean
import PyProof.EqAt
import PyProof.EqKinds
import PyProof.TupleCall
import PySem.Challenge.RW_moodtree_k50_branches_in_order
set_option Elab.async false
set_option linter.all false
set_option maxRecDepth 100000
set_option maxHeartbeats 4000000
set_option hygiene false
local macro_rules | `($x:ident) => match x.getId with
  | .str (.str .anonymous "y0") s => (match s with
   | "a" => `((by decide +kernel))
   | "b" => `((by omega))
   | "c" => `((cl ay aE ak ao aq az au aA ai aB aC aD aL))
   | "d" => `((model X.prog X.w))
   | "e" => `((by dsimp only [bG]; exact (⟨by omega, by omega, hs⟩)))
   | "f" => `((ah (cY (aP E.bW) (ah av) ⟨by decide, by decide⟩)))
   | "g" => `((by decide))
   | "h" => `((fun _ _ h r k => .cons (h fun a ha => k a (amw _ ha)) (r fun a ha => k a (ami _ ha))))
   | "i" => `((x == ("__debug__" : Str)))
   | "j" => `((eG ws ops sg es (jo ks ops)))
   | "k" => `((if op = true then ("open" : Str) else "shut"))
   | "l" => `((eL X scope Nc s3.heap.objs.size s3 (upd H s.heap.objs.size (.lst [])) fp))
   | "m" => `((s.heap.objs.size + 1))
   | "n" => `((fun h _ r a ha => (amt.mp ha).elim (fun q => ⟨_, q ▸ h⟩) (r a)))
   | "o" => `((Obj.mapSeq fun _ => (#[] : Array Value)))
   | "p" => `((Addr × Obj))
   | "q" => `((x == ("__classdict__" : Str)))
   | "r" => `((cZ (v_ E.aW.1) (ah (bD E.jc E.jb)) (aY (j := 2) rfl)))
   | "s" => `((cZ (v_ E.aW.1) (ah (bD E.gF E.gE)) (aY (j := 3) rfl)))
   | "t" => `((fun _ _ _ => trivial))
   | "u" => `((fun _ _ _ _ => trivial))
   | "v" => `((dO X.env scope.names []))
   | "w" => `((model prog w))
   | "x" => `((r fun a ha => k a (amn _ ha)))
   | "y" => `((di I q (by simp)))
   | "z" => `((bz (cF (bs, nm, j3 ks es ss, is, os, ws, R, s) E.D7 E.su (aG (v_ E.dh.1) (aG (v_ E.pS.1) (aG (v_ E.aW.1) bE))) (by dsimp only [iR]; exact ⟨by omega, hs.j1, ⟨by omega, by omega, by omega⟩, fun l hl => (U7 l hl).1, hag⟩)) (t2 := .lst (((Hf ws R s).map sW).map T.sh)) rfl))
   | "A" => `((.ListComp elt [⟨tg, iter, ifs, 0⟩] scope pos))
   | "B" => `((.refl _))
   | "C" => `((by simp))
   | "D" => `((aj (aP E.aU) (aj (ah av) aV)))
   | "E" => `((show false = true from hs))
   | "F" => `((z1.trans z2))
   | "G" => `((.sh (.lst (s.map .int))))
   | "H" => `((y9 (bz (c_ (bs, nm, ks, es, ss, is, os, ws.map dz, ops) E.tL E.jS (aj (aP E.dh) (aj (aP E.bX) aV)) (by dsimp only [eU]; exact ⟨by omega, fun x hx => by rw [Yq]; exact ho x hx⟩) (cT _)) (t2 := .lst (((jo ks ops).map .int).map T.sh)) rfl)))
   | "I" => `((fun _ _ h r => .cons h r))
   | "J" => `((.Name x pp))
   | "K" => `((bL (aP E.lM) (ah av) rfl))
   | "L" => `((fun _ _ h r a ha => (amx.mp ha).elim (h a) (r a)))
   | "M" => `((starEach es X.env))
   | "N" => `((ne c (by simp [hc])))
   | "O" => `((by simp; omega))
   | "P" => `((if false = true then ("open" : Str) else "shut"))
   | "Q" => `((anf (cQ (by simp [bM]; omega))))
   | "R" => `((if true = true then ("open" : Str) else "shut"))
   | "S" => `((k1.trans k2))
   | "T" => `((.ref (CL "TooWide")))
   | "U" => `((if ([] : List Keyword).isEmpty then 0 else 1))
   | "V" => `((fun r s' => r = .ok (.ret (.bool true)) /\ OldK s₁.heap s'.heap /\ s'.os = s₁.os /\ AllBare s'.gens))
   | "W" => `((fun z => hc (by simp [z])))
   | "X" => `((v_ E.aW.1))
   | "Y" => `((k7 (sY (EA (ah (isL E.bB E.dX E.bA E.dW (aP E.gu))) (ah (isL E.bB E.dX E.bA E.dW (aP E.cK)))).1 (fun _ => m9 (EA (ah (isT E.bB E.g8 E.bA E.g7 (aP E.gu))) (ah (isT E.bB E.g8 E.bA E.g7 (aP E.cK)))).1))))
   | "Z" => `((envOfC qual (aF st) s.heap.objs.size f eo))
   | "aa" => `((bL (aP E.aW) (ah (bD E.jz E.jy)) (aY (j := 0) rfl)))
   | "ab" => `((.lst ((((List.range j).map fun k => Cj s es n k ((mz s es.length).getD k 0)).map dz).map T.sh)))
   | "ac" => `((by intro z; cases dd <;> cases z))
   | "ad" => `((fun _ _ => False))
   | "ae" => `((.builtin "object.__class__"))
   | "af" => `((EP X pins σ Q))
   | "ag" => `((e :: es))
   | "ah" => `((ops.map .int))
   | "ai" => `((by rw [T.clean] at k; exact k))
   | "aj" => `((aY (j := 0) rfl))
   | "ak" => `((ah (b8 (aP E.iF) (ah av))))
   | "al" => `((ha pins s σ H _ I h))
   | "am" => `((.Name x pos))
   | "an" => `((aP E.aU))
   | "ao" => `((eL X scope Nc C s0 H0 f0))
   | "ap" => `((.sh (.lst (es.map .int))))
   | "aq" => `((bL (aP E.bV) (ah av) rfl))
   | "ar" => `((f1 ++ (g ++ f3)))
   | "as" => `((ws.map dz))
   | "at" => `((aY (j := 1) rfl))
   | "au" => `((fun _ => .nil))
   | "av" => `((fun w hw => qv rx fx r fs w (by simpa using hw)))
   | "aw" => `((some (.Name x pos')))
   | "ax" => `((ha pos pins s σ H _ I h))
   | "ay" => `((if (k' == NameKind.free && env.scope.kind == .function && env.kindOf n == some .cell) = true then (n, NameKind.cell) else (n, k')))
   | "az" => `((.inl rfl))
   | "aA" => `((fun _ => trivial))
   | "aB" => `((ah (KW (ah av) (ah av) ⟨by decide, by decide, by decide⟩)))
   | "aC" => `((by simpa using hi))
   | "aD" => `((dg (amh ..) E.cJ (aP E.bN) E.cO))
   | "aE" => `((es.getD src.toNat 0))
   | "aF" => `((show T.clean (.sh (.tup (iH _ _ _))) = true from (j5 _ _ _)))
   | "aG" => `((b ∈ X.ex \/ X.s₀.heap.objs.size <= b))
   | "aH" => `((fun a ha => absurd ha amJ))
   | "aI" => `((.ref s.heap.objs.size))
   | "aJ" => `((.Name "isinstance" pp))
   | "aK" => `((arrOf z))
   | "aL" => `((qz (aP E.Ot) (ah (rT E.lB E.vp (aP E.lU) (hkk.2))) ((by rw [amV]; show one.length + (sI k).length <= _; omega))))
   | "aM" => `((EH (.inl w) E.u (aP E.fc) (aP E.nI) rfl))
   | "aN" => `((gU (ah (b8 (aP E.jB) (ah av))) (show L3.D.int ((s.i : Int) + 1) = L3.D.int ((s.i + 1 : Nat) : Int) from rfl)))
   | "aO" => `((iU (isS E.bB E.lB E.bA E.vp (aP E.gu))))
   | "aP" => `((by simpa using e))
   | "aQ" => `((.ListComp elt [⟨.Name y px, iter, ifs, 0⟩] scope pc))
   | "aR" => `((by simp only [amF] <;> omega))
   | "aS" => `((pi pins s σ H _ I (hw H Z σ ts vs (fun J H1 => ED X CL b δ1 σ ts vs Z H ds J H1) S fun J H1 C => C)))
   | "aT" => `((aP E.lU))
   | "aU" => `((cL b9 (amM _)))
   | "aV" => `((show (0 : Int) < 3 by decide))
   | "aW" => `((fun hp => by simp at hp))
   | "aX" => `((some (.builtin "object.__setattr__")))
   | "aY" => `((.builtin "getset_descriptor.__get__"))
   | "aZ" => `((wI CX P w K mg base N qual scope f eo A outer s H E))
   | "ba" => `((HT.B4 xs.length xs.length hi - HT.B4 xs.length 0 lo))
   | "bb" => `((dc eS fC hs))
   | "bc" => `((seqObj "list" #[] 0))
   | "bd" => `((iV ⟨_, rfl⟩))
   | "be" => `((fun h f k => .kZ ((k _ amj).trans h) (cH.mono e f)))
   | "bf" => `((fun _ _ q => ⟨rfl, by rw [show decide (V.int i = V.int j) = decide (i = j) by simp]; exact q⟩))
   | "bg" => `((PySem.W.instObj C s.heap.objs.size))
   | "bh" => `((fun a ha => aO (keep a (amw _ ha))))
   | "bi" => `((.ins (CL c) dx (kW f v gs)))
   | "bj" => `((seqObj "list" us.toArray 0))
   | "bk" => `((by exact amm rfl))
   | "bl" => `((CL "Chart"))
   | "bm" => `((I.dM.fresh (amo _)))
   | "bn" => `((.inr rfl))
   | "bo" => `((fun z => nomatch z))
   | "bp" => `((hp.nodup_iff.mp nd))
   | "bq" => `((.ListComp elt [⟨tg, iter, ifs, 0⟩] scope pc))
   | "br" => `((j3 ks es ss))
   | "bs" => `((bT bE (aM rfl)))
   | "bt" => `((List.replicate (n + 1) (.tup [])))
   | "bu" => `((he pins s σ H _ I h))
   | "bv" => `((keywordEach [] X.env))
   | "bw" => `((.Subscript e1 e2 pos))
   | "bx" => `((arrOf st))
   | "by" => `((.inl ⟨by decide, by decide⟩))
   | "bz" => `((aN s (200 + 12 * (j : Int) + 7)))
   | "bA" => `((fun h _ a ha => (amt.mp ha).elim (fun q => ⟨_, q ▸ h⟩) (fun q => absurd q amJ)))
   | "bB" => `((by simp [ha]))
   | "bC" => `((fun _ => rfl))
   | "bD" => `((abk ha hb I h fun v u s2 x y H2 I2 rx ry q => ho pins s2 σ H2 x y v u Q I2 rx ry q))
   | "bE" => `((fun x => x.1.isSome))
   | "bF" => `((keys.zip us.toArray))
   | "bG" => `((EP X kC σ fun v H'' => v = .int k /\ J H''))
   | "bH" => `((d.at1.toS ∈ (["open", "shut"] : List Str)))
   | "bI" => `((.cons E.dh.1 (.inl E.mE) (.cons E.bX.1 (.inl E.zv) (.cons E.iI.1 (.inl E.U6) .nil))))
   | "bJ" => `((ah (v_ (eN (i := 0) rfl y0.a))))
   | "bK" => `((fun hp => absurd hp y0.g))
   | "bL" => `((ah (bO (aP E.bW) (ah av) y0.g)))
   | "bM" => `((bO (ah (cY (ah (c_ ((s, 0)) E.c7 E.bf y0.D y0.e rfl)) (ah av) ⟨by decide, by decide⟩)) (ah av) y0.g))
   | "bN" => `((ah (v_ (gT (i := 1) rfl y0.a))))
   | "bO" => `((.Call y0.J y0.ag [] pos))
   | "bP" => `((gU (bY (u0 (ds := [.tup []]) (bY (ds := [.tup []]) (cL (bu y0.bs b9) (aM rfl))) (ah (b8 (aP E.d8) (ah av))) rfl y0.b y0.b (sz y0.b))) (er _ n1)))
   | "bQ" => `((bz (c_ ((s, q + 1 + (j : Int))) E.c7 E.bf (aj y0.an (aj (ah (b8 y0.ak y0.aT)) aV)) y0.e rfl) (t2 := .sh (.int (aN s (q + 1 + (j : Int))))) rfl))
   | "bR" => `((ah (v_ (gT (i := 2) rfl y0.a))))
   | "bS" => `((ah (bO y0.f (ah av) y0.g)))
   | "bT" => `((ah (bO (ah (c_ ((s, q)) E.c7 E.bf (aj y0.an (aj (aP E.iF) aV)) (by dsimp only [bG]; exact (⟨q0, by omega, hs⟩)) rfl)) (ah av) y0.g)))
   | "bU" => `((.Call (.Attribute y0.J "append" pa) [e] [] pb))
   | "bV" => `((cZ y0.X (ah (bD E.uc E.ua)) (aY (j := 4) rfl)))
   | "bW" => `((decide (y0.k = "open") && !decide (m ∈ ops)))
   | "bX" => `((decide (y0.k = "shut") && decide (m ∈ ops)))
   | "bY" => `((q2.mono y0.B fun c hc => aO y0.N))
   | "bZ" => `((ah (dg (amh ..) E.cJ y0.an E.cO)))
   | "ca" => `((.sh (jx bs es ks ss is os y0.as)))
   | "cb" => `((cL (bu (cF (Qt s w) E.jf E.fH (aG (cF (s, w) E.qX E.j8 (aG y0.X (aG (v_ E.fc.1) bE)) hp2) bE) trivial) b9) (aM rfl)))
   | "cc" => `((aG (bz (c_ ((c / 16, n)) E.Aw E.j4 (aj y0.f (aj (aP E.e9) aV)) (hn) rfl) (t2 := .sh (yr (c / 16) n)) rfl) bE))
   | "cd" => `((show p ∈ ([] : List y0.p) from hp))
   | "ce" => `((.sh (.lst y0.ah)))
   | "cf" => `((cZ y0.X (ah (bD E.jz E.jy)) y0.aj))
   | "cg" => `((PySem.W.kla_obj "<lambda>" q params body scope y0.v ((X.mg "__name__").getD .none) c' ctv))
   | "ch" => `((gU y0.ak (show L3.D.int ((s.j : Int) + 1) = L3.D.int ((s.j + 1 : Nat) : Int) from rfl)))
   | "ci" => `((fun h _ r k => .lst ((k _ amj).trans h) y0.x))
   | "cj" => `((fun h _ r k => .ins ((k _ amj).trans h) y0.x))
   | "ck" => `((fun h _ r k => .dct ((k _ amj).trans h) y0.x))
   | "cl" => `((.Call (.Name x p) y0.ag [] pos))
   | "cm" => `((c_ (bs, nm, ks, es, ss, is, os, ws, ops, x, sg) (pe E.lO) (g6 y0.a) (aj y0.bN (aj y0.bR (aj y0.bJ (aj (ah (v_ (gT (i := 3) rfl y0.a))) aV)))) (by dsimp only [jA]; exact ⟨ht, by omega, x0, x1, NV, Ws⟩) (cT _)))
   | "cn" => `((qz (ah bS) (ah (rT E.lB (g6 y0.a) y0.bJ ((by rw [ei]; exact q1)))) ((by rw [ei, amV]; show 1 + (toString (i : Int) : Str).length <= _; omega))))
   | _ => Lean.Macro.throwUnsupported)
  | _ => Lean.Macro.throwUnsupported
noncomputable section
namespace L2
open PySem PySem.Spec PyProof.Rows
abbrev amg := @if_neg
abbrev amh := @List.length_map
abbrev ami := @List.mem_append_right
abbrev amj := @List.mem_cons_self
abbrev amk := @List.getD_eq_getElem?_getD
abbrev aml := @if_pos
abbrev amm := @Nat.le_of_ble_eq_true
abbrev amn := @List.mem_cons_of_mem
abbrev amo := @Nat.le_refl
abbrev amq := @List.getElem?_eq_getElem
abbrev amr := @List.append_assoc
abbrev ams := @wpAny_bind
abbrev amt := @List.mem_cons
abbrev amu := @PySem.W.mg_of
abbrev amv := @List.length_append
abbrev amw := @List.mem_append_left
abbrev amx := @List.mem_append
abbrev amy := @Heap.get?_push_of_some
abbrev amA := @Int.emod_lt_of_pos
abbrev amB := @List.length_cons
abbrev amC := @of_decide_eq_true
abbrev amD := @List.map_cons
abbrev amE := @Bool.false_ne_true
abbrev amF := @List.size_toArray
abbrev amG := @Heap.lt_size
abbrev amH := @List.append_nil
abbrev amI := @List.mem_map
abbrev amJ := @List.not_mem_nil
abbrev amK := @Option.some.inj
abbrev amL := @List.cons_append
abbrev amM := @Nat.zero_le
abbrev amN := @Int.emod_nonneg
abbrev amO := @List.map_map
abbrev amP := @List.map_append
abbrev amQ := @List.mem_singleton
abbrev amR := @of_decide_eq_false
abbrev amS := @Int.toNat_natCast
abbrev amT := @List.getElem?_map
abbrev amU := @List.getElem?_eq_some_iff
abbrev amV := @sizeLine_eq
abbrev amW := @wpAny_pure
abbrev amX := @Nat.ne_of_lt
abbrev amY := @Heap.get?_push_size
abbrev amZ := @List.mem_range
abbrev am0 := @Nat.lt_of_lt_of_le
abbrev am1 := @Bool.and_eq_true
abbrev am2 := @List.Perm.append_left
abbrev am3 := @List.Sublist.refl
abbrev am4 := @List.lookup_cons
abbrev am5 := @List.Sublist.append
abbrev am6 := @List.perm_append_comm
abbrev am7 := @List.map_congr_left
abbrev am8 := @List.length_drop
abbrev am9 := @List.pairwise_cons
abbrev ana := @PySem.W.mg_none_of
abbrev anb := @List.mem_of_getElem?
abbrev anc := @List.length_range
abbrev ane := @List.length_replicate
abbrev anf := @Nat.le_of_lt
abbrev ang := @decide_eq_false
abbrev anh := @List.nodup_append
abbrev ani := @wpAny_mono
abbrev anj := @wpS_bind
abbrev ank := @List.nodup_cons
abbrev anl := @Bool.false_eq_true
abbrev anm := @List.mem_filter
abbrev ano := @List.all_eq_true
abbrev anp := @Int.zero_add
abbrev anq := @List.filterMap_cons
abbrev anr := @List.getElem?_range
abbrev ant := @List.perm_middle
abbrev anu := @List.getElem_mem
abbrev anv := @PySem.mem_of_lookup
abbrev anw := @List.flatMap_cons
abbrev anx := @List.length_singleton
abbrev anz := @List.length_filter_le
abbrev anA := @List.pairwise_singleton
abbrev anB := @Nat.le_trans
abbrev anC := @decide_eq_true
abbrev anD := @List.nodup_nil
abbrev anE := @decide_eq_true_eq
abbrev anF := @wpS_pure
abbrev anG := @List.find?_cons
abbrev anH := @List.sublist_append_right
abbrev anI := @List.range_succ
abbrev anJ := @beq_eq_false_iff_ne
abbrev anK := @Array.length_toList
abbrev anL := @List.replicate_succ
abbrev anM := @List.getElem?_append_right
abbrev anN := @wpAny_Call_Name_kw
abbrev anO := @Array.getElem?_toList
abbrev anP := @List.length_nil
abbrev anQ := @List.nil_append
abbrev anR := @List.flatten_cons
abbrev anS := @List.any_cons
abbrev anT := @List.filter_cons_of_neg
abbrev anU := @PySem.W.hideAll_get
abbrev anV := @PyProof.Rows.callWith_type1
abbrev anW := @wpAny_passesOwn
abbrev anY := @List.getElem?_eq_none
abbrev anZ := @PySem.W.kia_one
abbrev an0 := @wpAny_holding
abbrev an1 := @if_false
abbrev an2 := @wpAny_truthy_bool
abbrev an3 := @List.ext_getElem?
abbrev an4 := @List.reverse_cons
abbrev an5 := @List.drop_eq_getElem_cons
abbrev an6 := @Nat.pow_le_pow_right
abbrev an7 := @Nat.le_succ
abbrev an8 := @Ne.symm
abbrev an9 := @beq_self_eq_true
abbrev aoa := @List.flatMap_def
abbrev aob := @List.getElem?_replicate
abbrev aoc := @Nat.lt_of_le_of_lt
abbrev aod := @List.filter_append
abbrev aoe := @List.map_replicate
abbrev aof := @or_false
abbrev aog := @List.eq_nil_of_length_eq_zero
abbrev aoh := @List.take_add_one
abbrev aoi := @if_true
abbrev aoj := @Nat.lt_irrefl
abbrev aok := @List.reverse_append
abbrev aol := @List.getElem?_append_left
abbrev aom := @List.filter_nil
abbrev aon := @PySem.W.of_hideAll
abbrev aoo := @List.mem_filterMap
abbrev aop := @PySem.F.args_tuple_add_2
abbrev aoq := @wpS_forRange
abbrev aor := @List.eq_of_mem_replicate
abbrev aos := @beq_iff_eq
abbrev aot := @List.Perm.refl
abbrev aou := @PySem.F.entry_tuple_add
abbrev aov := @PySem.F.plainAttrs_list
abbrev aow := @List.filter_cons_of_pos
abbrev aox := @List.all_cons
abbrev Key := Sum Int Str
def Dm : Key -> Value -> Bool
 | .inl k, v => Value.isInt k v
 | .inr x, v => Value.isStrOf x v
def ahc (w : World) : Key -> Int
 | .inl k => hashInt k
 | .inr x => hashStr w x
theorem eY : ∀ {k : Key} {v : Value}, Dm k v = true -> (∃ i t, k = Sum.inl i /\ v = Value.int i t) \/ (∃ x t, k = Sum.inr x /\ v = Value.str x t)
 | .inl i, v, h => by
   obtain ⟨t, e⟩ := Value.isInt_shape (k := i) (v := v) h
   exact .inl ⟨i, t, rfl, e⟩
 | .inr x, v, h => by
   obtain ⟨t, e⟩ := Value.isStrOf_shape (x := x) (v := v) h
   exact .inr ⟨x, t, rfl, e⟩
theorem OY (i : Int) (t : Tok) : Dm (.inl i) (.int i t) = true := by simp [Dm, Value.isInt]
theorem OZ (x : Str) (t : Tok) : Dm (.inr x) (.str x t) = true := by simp [Dm, Value.isStrOf]
theorem aaP (a b : Int) : decide ((Sum.inl a : Key) = Sum.inl b) = (a == b) := by
 by_cases e : a = b
 . subst e; simp
 . have h : ¬ (Sum.inl a : Key) = Sum.inl b := fun q => e (Sum.inl.inj q)
   rw [ang h]
   exact (anJ.mpr e).symm
theorem aaQ (a b : Str) : decide ((Sum.inr a : Key) = Sum.inr b) = decide (a = b) := by
 by_cases e : a = b
 . subst e; simp
 . have h : ¬ (Sum.inr a : Key) = Sum.inr b := fun q => e (Sum.inr.inj q)
   rw [ang h, ang e]
theorem aaR (a : Int) (b : Str) : decide ((Sum.inl a : Key) = Sum.inr b) = false := ang (fun q => nomatch q)
theorem aaS (a : Str) (b : Int) : decide ((Sum.inr a : Key) = Sum.inl b) = false := ang (fun q => nomatch q)
def gj (prog : Program) (w : World) : PySem.KeyKind prog w Key where
 is := Dm
 hash := ahc w
 inj := fun v a b ha hb => by
   rcases eY ha with ⟨i, t, rfl, rfl⟩ | ⟨x, t, rfl, rfl⟩
   . rcases eY hb with ⟨j, u, rfl, e⟩ | ⟨y, u, rfl, e⟩
     . injection e with e1 _; rw [e1]
     . exact nomatch e
   . rcases eY hb with ⟨j, u, rfl, e⟩ | ⟨y, u, rfl, e⟩
     . exact nomatch e
     . injection e with e1 _; rw [e1]
 byValue := fun k v h => by
   rcases eY h with ⟨i, t, rfl, rfl⟩ | ⟨x, t, rfl, rfl⟩ <;> rfl
 pyHash := fun hv h => by
   rcases eY hv with ⟨i, t, rfl, rfl⟩ | ⟨x, t, rfl, rfl⟩
   . exact wpAny_pyHash_int h
   . exact wpAny_pyHash_str h
 eqBool := fun hu hv h => by
   rcases eY hu with ⟨i, t, rfl, rfl⟩ | ⟨x, t, rfl, rfl⟩
   . rcases eY hv with ⟨j, u, rfl, rfl⟩ | ⟨y, u, rfl, rfl⟩
     . rw [aaP] at h; exact wpAny_eqBool_int h
     . rw [aaR] at h; exact SeqAt.EqAt.int_str i t y u _ _ _ _ h
   . rcases eY hv with ⟨j, u, rfl, rfl⟩ | ⟨y, u, rfl, rfl⟩
     . rw [aaS] at h; exact SeqAt.EqAt.str_int x t j u _ _ _ _ h
     . rw [aaQ] at h; exact wpAny_eqBool_str h
 «strs» := fun k x t v h => by
   rcases eY h with ⟨i, u, rfl, e⟩ | ⟨y, u, rfl, e⟩
   . exact nomatch e
   . injection e with e1 _
     subst e1
     cases v <;> rfl
theorem Hg (prog : Program) (w : World) (i : Int) (t : Tok) : (gj prog w).is (.inl i) (.int i t) = true := OY i t
theorem Hh (prog : Program) (w : World) (x : Str) (t : Tok) : (gj prog w).is (.inr x) (.str x t) = true := OZ x t
inductive V where
 | non | bl (b : Bool) | int (i : Int) | str (x : Str) | Nu (b : Array UInt8) | flt (b : UInt64) | ref (a : Addr) | ty (n : String)
 deriving DecidableEq
def RelV : V -> Value -> Prop
 | .non, u => u = Value.none
 | .bl b, u => u = Value.bool b
 | .int i, u => ∃ t, u = Value.int i t
 | .str x, u => ∃ t, u = Value.str x t
 | .Nu b, u => ∃ t, u = Value.bytes b t
 | .flt b, u => ∃ t, u = Value.float b t
 | .ref a, u => u = Value.ref a
 | .ty n, u => u = Value.type n
abbrev Vals : List V -> List Value -> Prop := Paired RelV
theorem Vals.length {xs : List V} {us : List Value} (r : Vals xs us) : xs.length = us.length := Paired.length r
theorem Vals.get : ∀ {xs : List V} {us : List Value} {i : Nat} {x : V}, Vals xs us -> xs[i]? = some x -> ∃ u, us[i]? = some u /\ RelV x u
 | _, _, _, _, .nil, e => by simp at e
 | _, _, 0, _, .cons r _, e => by simp at e; subst e; exact ⟨_, rfl, r⟩
 | _, _, i + 1, x, .cons _ t, e => by
   obtain ⟨u, h1, h2⟩ := Vals.get (i := i) (x := x) t y0.aP
   exact ⟨u, by simpa using h1, h2⟩
theorem Vals.set {x : V} {u : Value} (r : RelV x u) : ∀ {xs : List V} {us : List Value} (i : Nat), Vals xs us -> Vals (xs.set i x) (us.set i u)
 | _, _, _, .nil => .nil
 | _, _, 0, .cons _ t => .cons r t
 | _, _, i + 1, .cons q t => .cons q (Vals.set r i t)
theorem Vals.append : ∀ {xs ys : List V} {us ws : List Value}, Vals xs us -> Vals ys ws -> Vals (xs ++ ys) (us ++ ws)
 | _, _, _, _, .nil, s => s
 | _, _, _, _, .cons r t, s => .cons r (Vals.append t s)
theorem Vals.take : ∀ {xs : List V} {us : List Value} (n : Nat), Vals xs us -> Vals (xs.take n) (us.take n)
 | _, _, 0, _ => .nil
 | _, _, _ + 1, .nil => .nil
 | _, _, n + 1, .cons r t => .cons r (Vals.take n t)
theorem Vals.drop : ∀ {xs : List V} {us : List Value} (n : Nat), Vals xs us -> Vals (xs.drop n) (us.drop n)
 | _, _, 0, r => r
 | _, _, _ + 1, .nil => .nil
 | _, _, n + 1, .cons _ t => Vals.drop n t
def wA : Option V -> Option Value -> Prop
 | some v, some u => RelV v u
 | none, none => True
 | _, _ => False
def KV {κ : Type} : List (κ × V) -> List (κ × Value) -> Prop := Paired fun (p : κ × V) (q : κ × Value) => p.1 = q.1 /\ RelV p.2 q.2
def kV : Key -> V
 | .inl i => .int i
 | .inr x => .str x
inductive HO where
 | lst (xs : List V)
 | tup (xs : List V)
 | dK (bH : List (Key × V)) | dT (bH : List (List Key × V))
 | set (S : Int -> Bool) (n : Nat)
 | ins (C dx : Addr) (fs : List (Str × V))
 | own (x : Addr)
 | xd (fs : List (Str × V))
 | met (f x : Addr)
 | rng (lo hi : Int)
 | eF (o : Obj) (u : HO)
 | tbl (ps : Array Value)
 | tabs (q : Str)
 | Nv (q : Str)
 | ext (φ : Heap -> Prop)
abbrev Hp := Addr -> Option HO
def upd (H : Hp) (a : Addr) (o : HO) : Hp := fun b => if b = a then some o else H b
theorem bw {H : Hp} {a : Addr} {o : HO} : upd H a o a = some o := by unfold upd; rw [aml rfl]
theorem aO {H : Hp} {a b : Addr} {o : HO} (h : b ≠ a) : upd H a o b = H b := by unfold upd; rw [amg h]
theorem aeE {H : Hp} {a b : Addr} {o u : HO} (h : H a = some o) (h' : H b = some u) (d : o ≠ u) : a ≠ b := by
 intro e; subst e; rw [h] at h'; exact d (amK h')
theorem aZ {H : Hp} {a b : Addr} {o : HO} (h : H a = some o) (h' : H b = none) : a ≠ b := by
 intro e; subst e; rw [h] at h'; cases h'
section
variable (P : Program) (w : World)
def fB (H : Hp) (h : Heap) (a : Addr) : HO -> Prop
 | .lst xs => xs.length <= sizeLine /\ ∃ (its : List Value) (n : Nat), Vals xs its /\ h.get? a = some { cls := .type "list", data := .seq its.toArray n }
 | .tup xs => xs.length <= sizeLine /\ ∃ its : List Value, Vals xs its /\ IsTup h a its.toArray
 | .dK bH => bH.length <= sizeLine /\ (a == sysModules) = false /\ ∃ vs, KV bH vs /\ h.DictOf (gj P w) a vs
 | .dT bH => bH.length <= sizeLine /\ (a == sysModules) = false /\ ∃ xs : List (List Key × Addr × Value),
     Paired (fun (p : List Key × V) (q : List Key × Addr × Value) => p.1 = q.1 /\ H q.2.1 = some (.tup (p.1.map kV)) /\ RelV p.2 q.2.2) bH xs ∧
     ∃ o es ep, h.get? a = some o /\ o.ExactDict /\ o.data = .dict es ep /\ es.toList = xs.map (entryOfKey (tupleKind (gj P w))) /\ (xs.map (·.1)).Nodup
 | .set S n => h.SetOf (intKind P w) a S n
 | .ins C dx fs => H dx = some (.own a) /\ fs.length <= 1000 /\ dx ≠ a /\ h.get? a = some (PySem.W.instObj C dx) ∧
     ∃ mA, h.Ns1 dx mA /\ (∀ f, wA (fs.lookup f) (mA f)) /\ PySem.Within mA (fs.map (·.1))
 | .own _ => ∃ o, h.get? a = some o
 | .xd fs => ∃ mA, h.Ns1 a mA /\ ∀ f, wA (fs.lookup f) (mA f)
 | .rng lo hi => ∃ t u v, h.get? a = some { cls := .type "range", data := .fields #[.int lo t, .int hi u, .int 1 v] }
 | .eF o u => h.get? a = some o /\ fB H h a u
 | .tbl ps => h.get? a = some { cls := .none, data := .fields ps }
 | .tabs q => ∃ ps : Array Value, h.get? a = some { cls := .none, data := .fields ps } /\ TriplesOk ps.toList /\ ∀ pos cv, codeAmong pos ps.toList = some cv -> ∃ c, cv = .ref c /\ H c = some (.Nv q)
 | .Nv q => ∃ o vs t, h.get? a = some o /\ o.data = .fields vs /\ vs[1]? = some (.str q t)
 | .met f x => h.get? a = some (PySem.W.methodObj (.ref f) (.ref x))
 | .ext φ => φ h /\ (∃ o, h.get? a = some o) /\ ∀ h1 h2 : Heap, φ h1 -> (∀ o, h1.get? a = some o -> h2.get? a = some o) -> φ h2
def qo (H : Hp) (h : Heap) : Prop := ∀ a o, H a = some o -> fB P w H h a o
end
section
variable {P : Program} {w : World} {H H' : Hp} {h h' : Heap} {a : Addr} {o : HO}
theorem fB.lt (x : fB P w H h a o) : a < h.objs.size := by
 cases o with
 | lst xs => obtain ⟨_, _, _, _, e⟩ := x; exact amG e
 | tup xs => obtain ⟨_, _, _, p⟩ := x; exact p.lt
 | dK bH => obtain ⟨_, _, _, _, o, _, _, e, _⟩ := x; exact amG e
 | dT bH => obtain ⟨_, _, _, _, o, _, _, e, _⟩ := x; exact amG e
 | set S n => obtain ⟨o, _, _, _, e, _⟩ := x; exact amG e
 | ins C dx fs => obtain ⟨_, _, _, e, _⟩ := x; exact amG e
 | own y => obtain ⟨_, e⟩ := x; exact amG e
 | xd fs => obtain ⟨_, ⟨_, _, _, e, _⟩, _⟩ := x; exact amG e
 | rng lo hi => obtain ⟨_, _, _, e⟩ := x; exact amG e
 | eF ob u => obtain ⟨e, _⟩ := x; exact amG e
 | tbl ps => exact amG (show h.get? a = some _ from x)
 | tabs q => obtain ⟨_, e, _⟩ := x; exact amG e
 | Nv q => obtain ⟨_, _, _, e, _⟩ := x; exact amG e
 | met f y => exact amG (show h.get? a = some _ from x)
 | ext φ => obtain ⟨_, ⟨_, e⟩, _⟩ := x; exact amG e
theorem Paired.aaT {α β : Type} {F G : α -> β -> Prop} : ∀ {l₁ : List α} {l₂ : List β}, Paired F l₁ l₂ -> (∀ a b, F a b -> G a b) -> Paired G l₁ l₂
 | _, _, .nil, _ => .nil
 | _, _, .cons r t, f => .cons (f _ _ r) (Paired.aaT t f)
theorem fB.yG (x : fB P w H h a o) (k : ∀ b u, (b = a \/ H b = some (.own a)) -> h.get? b = some u -> h'.get? b = some u)
   (ho : ∀ b, H b = some (.own a) -> H' b = some (.own a)) (ht : ∀ b xs, H b = some (.tup xs) -> H' b = some (.tup xs)) (ko : ∀ b q, H b = some (.Nv q) -> H' b = some (.Nv q) := by intro _ _ q; exact q) : fB P w H' h' a o := by
 induction o with
 | lst xs => obtain ⟨z, its, n, r, e⟩ := x; exact ⟨z, its, n, r, k _ _ y0.az e⟩
 | tup xs => obtain ⟨z, its, r, ob, e, c⟩ := x; exact ⟨z, its, r, ob, k _ _ y0.az e, c⟩
 | dK bH => obtain ⟨z, y, vs, r, ob, es, ep, e, c⟩ := x; exact ⟨z, y, vs, r, ob, es, ep, k _ _ y0.az e, c⟩
 | dT bH =>
   obtain ⟨z, y, xs, r, ob, es, ep, e, c⟩ := x
   exact ⟨z, y, xs, Paired.aaT r fun p q z => ⟨z.1, ht _ _ z.2.1, z.2.2⟩, ob, es, ep, k _ _ y0.az e, c⟩
 | set S n => obtain ⟨ob, es, ep, t, e, c⟩ := x; exact ⟨ob, es, ep, t, k _ _ y0.az e, c⟩
 | ins C dx fs =>
   obtain ⟨d, z, ne, e, mA, ⟨od, es, ep, e2, c⟩, r⟩ := x
   exact ⟨ho _ d, z, ne, k _ _ y0.az e, mA, ⟨od, es, ep, k _ _ (.inr d) e2, c⟩, r⟩
 | own y => obtain ⟨ob, e⟩ := x; exact ⟨ob, k _ _ y0.az e⟩
 | xd fs => obtain ⟨mA, ⟨od, es, ep, e, c⟩, r⟩ := x; exact ⟨mA, ⟨od, es, ep, k _ _ y0.az e, c⟩, r⟩
 | rng lo hi => obtain ⟨t, u, v, e⟩ := x; exact ⟨t, u, v, k _ _ y0.az e⟩
 | eF ob u ih => obtain ⟨e, q⟩ := x; exact ⟨k _ _ y0.az e, ih q⟩
 | tbl ps =>
   have e : h.get? a = some { cls := .none, data := .fields ps } := x
   show h'.get? a = some { cls := .none, data := .fields ps }
   exact k a _ y0.az e
 | met f y =>
   have e : h.get? a = some (PySem.W.methodObj (.ref f) (.ref y)) := x
   show h'.get? a = some (PySem.W.methodObj (.ref f) (.ref y))
   exact k a _ y0.az e
 | tabs q => obtain ⟨ps, e, tr, cs⟩ := x; exact ⟨ps, k _ _ y0.az e, tr, fun pos cv z => let ⟨c, e1, e2⟩ := cs pos cv z; ⟨c, e1, ko _ _ e2⟩⟩
 | Nv q => obtain ⟨ob, vs, t, e, r⟩ := x; exact ⟨ob, vs, t, k _ _ y0.az e, r⟩
 | ext φ => obtain ⟨p, ⟨o, e⟩, st⟩ := x; exact ⟨st _ _ p fun o q => k _ _ y0.az q, ⟨o, k _ _ y0.az e⟩, st⟩
theorem qo.lt (x : qo P w H h) (e : H a = some o) : a < h.objs.size := (x a o e).lt
theorem qo.fresh (x : qo P w H h) (e : h.objs.size <= a) : H a = none := by
 cases q : H a with
 | none => rfl
 | some u => exact absurd (am0 (x.lt q) e) (aoj _)
theorem qo.kept (x : qo P w H h) (k : ∀ b u, h.get? b = some u -> h'.get? b = some u) : qo P w H h' := fun a o e =>
 (x a o e).yG (fun b u _ q => k b u q) (fun _ q => q) fun _ _ q => q
theorem qo.laid (x : qo P w H h) (k : ∀ b u, h.get? b = some u -> h'.get? b = some u) (hp : h.objs.size <= a) (new : fB P w (upd H a o) h' a o) : qo P w (upd H a o) h' := fun b u e => by
 have hn := x.fresh hp
 by_cases hb : b = a
 . subst hb; rw [bw] at e; cases e; exact new
 . rw [aO hb] at e
   exact (x b u e).yG (fun c v _ q => k c v q) (fun c q => by rw [aO (aZ q hn)]; exact q) (fun c xs q => by rw [aO (aZ q hn)]; exact q) fun c z q => by rw [aO (aZ q hn)]; exact q
end
def Rd (H : Hp) (a : Addr) (u : HO) : Prop := H a = some u \/ ∃ o, H a = some (.eF o u)
theorem Rd.ok {P : Program} {w : World} {H : Hp} {h : Heap} {a : Addr} {u : HO} (r : Rd H a u) (x : qo P w H h) : fB P w H h a u := by
 rcases r with r | ⟨o, r⟩
 . exact x a u r
 . obtain ⟨_, q⟩ := x a _ r
   exact q
def Mut : Option HO -> Prop
 | some (.lst _) => True
 | some (.dK _) => True
 | some (.dT _) => True
 | some (.set _ _) => True
 | some (.ins _ _ _) => True
 | some (.ext _) => True
 | some (.tabs _) => True
 | _ => False
section
variable {P : Program} {w : World} {H : Hp} {h h' : Heap} {x e : Addr} {o' : HO}
theorem qo.write (ok : qo P w H h) (mu : Mut (H x)) (he : e = x \/ H e = some (.own x)) (k : ∀ b u, b ≠ e -> h.get? b = some u -> h'.get? b = some u) (heo : ∃ u, h'.get? e = some u)
   (new : fB P w (upd H x o') h' x o') : qo P w (upd H x o') h' := fun b u q => by
 have aeG : ∀ c y, H c = some (.own y) -> c ≠ x := fun c y r z => by subst z; rw [r] at mu; exact mu
 have ahd : ∀ c xs, H c = some (.tup xs) -> c ≠ x := fun c xs r z => by subst z; rw [r] at mu; exact mu
 have ahe : ∀ c q, H c = some (.Nv q) -> c ≠ x := fun c q r z => by subst z; rw [r] at mu; exact mu
 by_cases hb : b = x
 . subst hb; rw [bw] at q; cases q; exact new
 . rw [aO hb] at q
   by_cases hbe : b = e
   . have q' : H b = some (.own x) := by
       rcases he with z | z
       . exact absurd (hbe.trans z) hb
       . rw [hbe]; exact z
     rw [q] at q'; cases q'
     obtain ⟨v, hv⟩ := heo
     exact ⟨v, by rw [hbe]; exact hv⟩
   . refine (ok b u q).yG (fun c v hc r => k c v ?_ r) (fun c r => by rw [aO (aeG c b r)]; exact r) (fun c xs r => by rw [aO (ahd c xs r)]; exact r) fun c z r => by rw [aO (ahe c z r)]; exact r
     rcases hc with rfl | hc
     . exact hbe
     . rintro rfl
       rcases he with z | z
       . exact aeG c b hc z
       . rw [hc] at z; cases z; exact hb rfl
end
structure Un (fs ex : List Addr) (H H' : Hp) (h h' : Heap) : Prop where
 keep : ∀ b o, h.get? b = some o -> H b = none -> b ∉ fs -> b ∉ ex -> h'.get? b = some o
 slot : ∀ b o, h.get? b = some o -> H b = none -> b ∈ fs -> b ∉ ex -> ∃ sl, h'.get? b = some { o with slots := sl }
 free : ∀ b o, h.get? b = some o -> H b = none -> b ∉ ex -> H' b = none
 there : ∀ b o, h.get? b = some o -> b ∉ ex -> ∃ o', h'.get? b = some o'
 yH : ∀ b xs, H b = some (.tup xs) -> H' b = some (.tup xs)
 dQ : ∀ b o u, H b = some (.eF o u) -> H' b = some (.eF o u)
 yI : ∀ b ps, H b = some (.tbl ps) -> ∃ more, H' b = some (.tbl (ps ++ more))
section
variable {fs fs' ex ex' : List Addr} {H H1 H2 : Hp} {h h1 h2 h' : Heap} {a x e : Addr} {o : HO}
theorem Un.any (u : Un fs ex H H1 h h1) {b : Addr} {ob : Obj} (q : h.get? b = some ob) (n : H b = none) (hx : b ∉ ex) : ∃ sl, h1.get? b = some { ob with slots := sl } := by
 by_cases hb : b ∈ fs
 . exact u.slot b ob q n hb hx
 . exact ⟨ob.slots, u.keep b ob q n hb hx⟩
theorem Un.kept (k : ∀ b u, h.get? b = some u -> h'.get? b = some u) : Un fs ex H H h h' :=
 ⟨fun b ob q _ _ _ => k b ob q, fun b ob q _ _ _ => ⟨ob.slots, k b ob q⟩, fun _ _ _ n _ => n, fun b ob q _ => ⟨ob, k b ob q⟩, fun _ _ q => q, fun _ _ _ q => q, fun _ ps q => ⟨#[], by rw [q]; simp⟩⟩
theorem Un.refl : Un fs ex H H h h := Un.kept fun _ _ q => q
theorem Un.laid (k : ∀ b u, h.get? b = some u -> h'.get? b = some u) (hp : h.objs.size <= a) (hn : H a = none) : Un fs ex H (upd H a o) h h' where
 keep := fun b u q _ _ _ => k b u q
 slot := fun b u q _ _ _ => ⟨u.slots, k b u q⟩
 free := fun b u q n _ => by rw [aO (amX (am0 (amG q) hp))]; exact n
 there := fun b u q _ => ⟨u, k b u q⟩
 yH := fun b xs q => by rw [aO (aZ q hn)]; exact q
 dQ := fun b u xs q => by rw [aO (aZ q hn)]; exact q
 yI := fun b ps q => ⟨#[], by rw [aO (aZ q hn), q]; simp⟩
theorem Un.write (mu : Mut (H x)) (he : e = x \/ H e = some (.own x)) (k : ∀ b u, b ≠ e -> h.get? b = some u -> h'.get? b = some u) (heo : ∃ u, h'.get? e = some u) : Un fs ex H (upd H x o) h h' := by
 have hx : ∀ b, H b = none -> b ≠ x := fun b n z => by subst z; rw [n] at mu; exact mu
 have hb : ∀ b, H b = none -> b ≠ e := fun b n z => by
   subst z
   rcases he with r | r
   . exact hx b n r
   . rw [n] at r; cases r
 have hm : ∀ b u, H b = some u -> ¬ Mut (some u) -> b ≠ x := fun b u q nm z => by subst z; rw [q] at mu; exact nm mu
 refine ⟨fun b u q n _ _ => k b u (hb b n) q, fun b u q n _ _ => ⟨u.slots, k b u (hb b n) q⟩, fun b u q n _ => by rw [aO (hx b n)]; exact n, fun b u q _ => ?_,
   fun b xs q => by rw [aO (hm b _ q fun z => z)]; exact q, fun b u xs q => by rw [aO (hm b _ q fun z => z)]; exact q, fun b ps q => ⟨#[], by rw [aO (hm b _ q fun z => z), q]; simp⟩⟩
 by_cases hbe : b = e
 . subst hbe; exact heo
 . exact ⟨u, k b u hbe q⟩
end
def trk (h : Heap) (H : Hp) : List Addr := (List.range h.objs.size).filter fun a => (H a).isSome
def B3 (h : Heap) (H : Hp) : Heap := PySem.W.hideAll h (trk h H)
theorem O1 (h : Heap) (H : Hp) : (B3 h H).objs.size = h.objs.size := PySem.W.hideAll_size _ _
theorem R0 {h : Heap} {H : Hp} {b : Addr} {o : Obj} (e : h.get? b = some o) (n : H b = none) : (B3 h H).get? b = some o :=
 anU _ e fun hm => by
   have q : (H b).isSome = true := (anm.mp hm).2
   rw [n] at q; simp at q
theorem Wu {h : Heap} {H : Hp} {b : Addr} {o : Obj} (e : (B3 h H).get? b = some o) : h.get? b = some o /\ H b = none := by
 have e' : h.get? b = some o := aon (trk h H) e
 refine ⟨e', ?_⟩
 cases q : H b with
 | none => rfl
 | some x =>
   have hm : b ∈ trk h H := anm.mpr ⟨amZ.mpr (amG e'), by simp [q]⟩
   have z : (B3 h H).get? b = none := PySem.W.hideAll_none (trk h H) hm
   rw [z] at e; cases e
def Wv (g h : Heap) (L : Addr) : List (Addr × Obj) := (List.range h.objs.size).filterMap fun a => if a = L \/ (g.get? a).isSome = true then none else (h.get? a).map fun o => (a, o)
def rest (g h : Heap) (L d : Addr) : List (Addr × Obj) := (Wv g h L).filter fun p => decide (p.1 ≠ d)
structure Mod (K : PySem.W.Frag) (mg : Str -> Option Value) (base : Heap) : Prop where
 R1 : K.In base
 glob : base.Ns mainGlobals mg
 blt : ∃ mb, base.Ns builtinsNs mb /\ ∀ x : Str, x ≠ "__name__" -> mb x = bootBuiltins x
 nolimit : base.NoLimit
structure Cx where
 prog : Program
 w : World
 K : PySem.W.Frag
 mg : Str -> Option Value
 base : Heap
 A : Around
 N : List Str
 s₀ : Shared
 H₀ : Hp
 env : Env
 outer : List Env
 stack : List Env
 ex : List Addr
 fn : Str -> Bool
 calm : Bool
 pn : List y0.p
 xe : Value -> Shared -> Prop
def qp (l : List Env) : List Addr := l.filterMap (·.frame)
abbrev Cx.fs (X : Cx) : List Addr := qp X.outer
def Vis (sc : Scope) (x : Str) : Prop := sc.names.lookup x = some .local \/ sc.names.lookup x = some .cell \/ sc.names.lookup x = some .free
def Loc (sc : Scope) (x : Str) : Prop := sc.names.lookup x = some .local \/ sc.names.lookup x = some .cell
def Look (env : Env) (h : Heap) (m : Str -> Option Value) (x : Str) (u : Value) : Prop :=
 (env.kindOf x = some .local /\ m x = some u) \/ ((env.kindOf x = some .cell \/ env.kindOf x = some .free) /\ ∃ c, env.cells.lookup x = some c /\ h.IsCell c (some u))
structure Cx.Ok (X : Cx) : Prop where
 mod : Mod X.K X.mg X.base
 kind : X.env.scope.kind = .function
 glob : X.env.globals = mainGlobals
 blt : X.env.builtins = builtinsNs
 above : X.s₀.heap.objs.size <= X.env.locals
 inj : ∀ x y c, X.env.cells.lookup x = some c -> X.env.cells.lookup y = some c -> x = y
 has : ∀ x, (X.env.kindOf x = some .cell \/ X.env.kindOf x = some .free) -> ∃ c, X.env.cells.lookup x = some c
 cab : ∀ x c, X.fn x = true -> X.env.cells.lookup x = some c -> X.s₀.heap.objs.size <= c
 hd : X.calm = true -> X.A.handled = none
 frames : X.A.frames = some X.stack
 stk : X.stack = X.outer \/ (X.stack = X.env :: X.outer /\ X.env.frame = some X.env.locals)
 exf : ∀ b ∈ X.ex, b ≠ X.env.locals /\ ∀ x c, X.env.cells.lookup x = some c -> c ≠ b
 bs : ∀ b o, X.base.get? b = some o -> X.s₀.heap.get? b = some o /\ X.H₀ b = none
 RN : X.base.objs.size <= X.s₀.heap.objs.size
 Kq : ∀ b o, X.base.get? b = some o -> b ∉ X.ex
 O2 : ∀ b ∈ X.ex, b ∉ X.fs
 tR : X.s₀.heap.FunFrames X.base X.outer
 Wk : ∀ b ∈ X.fs, X.H₀ b = none
structure Inv (X : Cx) (pins : List (Addr × Obj)) (σ : List (Option V)) (H : Hp) (s : Shared) : Prop where
 ok : X.Ok
 os : s.os = X.s₀.os
 bare : AllBare s.gens
 base : Un X.fs X.ex X.H₀ H X.s₀.heap s.heap
 loc : ∃ m, s.heap.Ns X.env.locals m /\ ∀ (i : Nat) (x : Str) (v : V), X.N[i]? = some x -> σ[i]? = some (some v) -> Vis X.env.scope x -> ∃ u, RelV v u /\ Look X.env s.heap m x u
 cell : ∀ x c, X.env.cells.lookup x = some c -> ∃ v, s.heap.IsCell c v
 free : H X.env.locals = none
 jX : ∀ x c, X.env.cells.lookup x = some c -> H c = none
 pin : ∀ p ∈ X.pn ++ pins, s.heap.get? p.1 = some p.2 /\ H p.1 = none /\ p.1 ≠ X.env.locals /\ p.1 ∉ X.fs /\ ∀ v, p.2.data ≠ .cell v
 dM : qo X.prog X.w H s.heap
 len : σ.length = X.N.length
section
variable {X : Cx} {pins : List (Addr × Obj)} {σ : List (Option V)} {H H' : Hp} {s : Shared} {h' : Heap}
theorem Cx.Ok.ahf (ok : X.Ok) {b : Addr} {o : Obj} (e : X.base.get? b = some o) : b ∉ X.fs := fun hb => by
 have := (ok.tR.mem hb).1
 rw [e] at this; cases this
theorem Inv.bs (I : Inv X pins σ H s) : ∀ b o, X.base.get? b = some o -> s.heap.get? b = some o /\ H b = none := fun b o e =>
 ⟨I.base.keep b o (I.ok.bs b o e).1 (I.ok.bs b o e).2 (I.ok.ahf e) (I.ok.Kq b o e), I.base.free b o (I.ok.bs b o e).1 (I.ok.bs b o e).2 (I.ok.Kq b o e)⟩
theorem Inv.bk (I : Inv X pins σ H s) : ∀ b o, X.base.get? b = some o -> s.heap.get? b = some o := fun b o e => (I.bs b o e).1
theorem Inv.mod (I : Inv X pins σ H s) : Mod X.K X.mg X.base := I.ok.mod
theorem Inv.wB (I : Inv X pins σ H s) : X.K.In s.heap := I.ok.mod.R1.keeps I.bk
theorem Inv.nolimit (I : Inv X pins σ H s) : s.heap.NoLimit := I.ok.mod.nolimit.keeps I.bk
theorem Inv.lt (I : Inv X pins σ H s) : X.env.locals < s.heap.objs.size := let ⟨_, hn, _⟩ := I.loc; hn.lt
theorem Inv.sz (I : Inv X pins σ H s) : X.s₀.heap.objs.size <= s.heap.objs.size := anB I.ok.above (anf I.lt)
theorem Inv.ahg (I : Inv X pins σ H s) {a : Addr} (h : s.heap.objs.size <= a) : a ∉ X.fs := fun hb => by
 obtain ⟨_, o, ho, _⟩ := I.ok.tR.mem hb
 exact absurd (am0 (amG ho) (anB I.sz h)) (aoj _)
theorem Inv.cne (I : Inv X pins σ H s) : ∀ x c, X.env.cells.lookup x = some c -> c ≠ X.env.locals := fun x c e z => by
 obtain ⟨v, o, ho, hd⟩ := I.cell x c e
 obtain ⟨m, ⟨o', es, ep, Nx, Ww, _⟩, _⟩ := I.loc
 rw [z, Nx] at ho; cases ho; rw [Ww] at hd; cases hd
theorem Inv.tR (I : Inv X pins σ H s) : s.heap.FunFrames X.base X.outer := by
 have all : ∀ (l : List Env), (∀ b ∈ qp l, b ∈ X.fs) -> X.s₀.heap.FunFrames X.base l -> s.heap.FunFrames X.base l := by
   intro l
   induction l with
   | nil => intro _ _; trivial
   | cons env r ih =>
     intro hs hl
     obtain ⟨hk, ⟨L, o, hf, hn, ho, hd⟩, hr⟩ := hl
     have hL : L ∈ X.fs := hs L (by unfold qp; rw [anq, hf]; exact amj)
     obtain ⟨sl, e⟩ := I.base.slot L o ho (I.ok.Wk L hL) hL fun z => I.ok.O2 L z hL
     exact ⟨hk, ⟨L, _, hf, hn, e, hd⟩, ih (fun b hb => hs b (by unfold qp; rw [anq, hf]; exact amn _ hb)) hr⟩
 exact all X.outer (fun _ hb => hb) I.ok.tR
theorem Inv.stack (I : Inv X pins σ H s) : s.heap.FunFrames X.base X.stack := by
 rcases I.ok.stk with e | ⟨e, hf⟩
 . rw [e]; exact I.tR
 . rw [e]
   obtain ⟨m, hn, _⟩ := I.loc
   refine .cons (by rw [I.ok.kind]; decide) hf hn ?_ I.tR
   exact Heap.get?_none_of_le (anB I.ok.RN I.ok.above)
theorem Inv.Ej (I : Inv X pins σ H s) : ∀ b ∈ qp X.stack, b ∈ X.env.locals :: X.fs := fun b hb => by
 rcases I.ok.stk with e | ⟨e, hf⟩
 . rw [e] at hb; exact amn _ hb
 . rw [e] at hb
   unfold qp at hb
   rw [anq, hf] at hb
   exact hb
theorem Inv.yO (I : Inv X pins σ H s) : ∀ b ∈ qp X.stack, H b = none := fun b hb => by
 rcases amt.mp (I.Ej b hb) with e | hb
 . rw [e]; exact I.free
 . obtain ⟨_, o, ho, _⟩ := I.ok.tR.mem hb
   exact I.base.free b o ho (I.ok.Wk b hb) fun z => I.ok.O2 b z hb
theorem Inv.step {g' : Array GenState} {t' : Nat} {d' : Drawn} {ch : List Addr} (I : Inv X pins σ H s)
   (O4 : ∀ b ∈ ch, y0.aG /\ b ≠ X.env.locals /\ (∀ x c, X.env.cells.lookup x = some c -> c ≠ b) /\ ∀ p ∈ X.pn ++ pins, p.1 ≠ b)
   (keep : ∀ b o, b ≠ X.env.locals -> b ∉ X.fs -> b ∉ ch -> s.heap.get? b = some o -> H b = none -> h'.get? b = some o)
   (slot : ∀ b o, b ≠ X.env.locals -> b ∈ X.fs -> b ∉ ch -> s.heap.get? b = some o -> H b = none -> ∃ sl, h'.get? b = some { o with slots := sl }) (free : ∀ b o, b ∉ ch -> s.heap.get? b = some o -> H b = none -> H' b = none)
   (there : ∀ b o, b ∉ ch -> s.heap.get? b = some o -> ∃ o', h'.get? b = some o')
   (yH : ∀ b xs, H b = some (.tup xs) -> H' b = some (.tup xs)) (dQ : ∀ b o u, H b = some (.eF o u) -> H' b = some (.eF o u)) (yI : ∀ b ps, H b = some (.tbl ps) -> ∃ more, H' b = some (.tbl (ps ++ more)))
   (ns : ∀ m, s.heap.Ns X.env.locals m -> h'.Ns X.env.locals m) (dM : qo X.prog X.w H' h') (hg : AllBare g') :
   Inv X pins σ H' { s with heap := h', gens := g', drawn := d', toks := t' } := by
 have neL : ∀ b o, X.s₀.heap.get? b = some o -> b ≠ X.env.locals := fun b o e => amX (am0 (amG e) I.ok.above)
 have neC : ∀ b o, X.s₀.heap.get? b = some o -> b ∉ X.ex -> b ∉ ch := fun b o e hx hb => by
   rcases (O4 b hb).1 with z | z
   . exact hx z
   . exact absurd (am0 (amG e) z) (aoj _)
 have cellK : ∀ x c, X.env.cells.lookup x = some c -> ∀ v, s.heap.IsCell c v -> h'.IsCell c v := fun x c e v ⟨o, ho, hd⟩ => by
   have nch : c ∉ ch := fun z => (O4 c z).2.2.1 x c e rfl
   by_cases hc : c ∈ X.fs
   . obtain ⟨sl, q⟩ := slot c o (I.cne x c e) hc nch ho (I.jX x c e)
     exact ⟨_, q, hd⟩
   . exact ⟨o, keep c o (I.cne x c e) hc nch ho (I.jX x c e), hd⟩
 refine ⟨I.ok, I.os, hg, ⟨fun b o e n hb hx => ?_, fun b o e n hb hx => ?_, fun b o e n hx => ?_, fun b o e hx => ?_, fun b xs e => yH b xs (I.base.yH b xs e), fun b o xs e => dQ b o xs (I.base.dQ b o xs e), fun b ps e => ?_⟩, ?_, fun x c e => ?_, ?_, fun x c e => ?_, fun p hp => ?_, dM, I.len⟩
 . exact keep b o (neL b o e) hb (neC b o e hx) (I.base.keep b o e n hb hx) (I.base.free b o e n hx)
 . obtain ⟨sl, e1⟩ := I.base.slot b o e n hb hx
   obtain ⟨sl', e2⟩ := slot b _ (neL b o e) hb (neC b o e hx) e1 (I.base.free b o e n hx)
   exact ⟨sl', e2⟩
 . obtain ⟨o', e1⟩ := I.base.there b o e hx
   exact free b o' (neC b o e hx) e1 (I.base.free b o e n hx)
 . obtain ⟨o', e1⟩ := I.base.there b o e hx
   exact there b o' (neC b o e hx) e1
 . obtain ⟨m1, e1⟩ := I.base.yI b ps e
   obtain ⟨m2, e2⟩ := yI b _ e1
   exact ⟨m1 ++ m2, by rw [e2, Array.append_assoc]⟩
 . obtain ⟨m, hn, hl⟩ := I.loc
   refine ⟨m, ns m hn, fun i x v e1 e2 e3 => ?_⟩
   obtain ⟨u, r, l⟩ := hl i x v e1 e2 e3
   refine ⟨u, r, ?_⟩
   rcases l with l | ⟨k, c, e, z⟩
   . exact .inl l
   . exact .inr ⟨k, c, e, cellK x c e _ z⟩
 . obtain ⟨v, z⟩ := I.cell x c e
   exact ⟨v, cellK x c e v z⟩
 . obtain ⟨m, ⟨o, _, _, ho, _⟩, _⟩ := I.loc
   exact free _ o (fun z => (O4 _ z).2.1 rfl) ho I.free
 . obtain ⟨v, o, ho, hd⟩ := I.cell x c e
   exact free c o (fun z => (O4 c z).2.2.1 x c e rfl) ho (I.jX x c e)
 . obtain ⟨e, n, ne, nf, d⟩ := I.pin p hp
   have nch : p.1 ∉ ch := fun z => (O4 p.1 z).2.2.2 p hp rfl
   exact ⟨keep p.1 p.2 ne nf nch e n, free p.1 p.2 nch e n, ne, nf, d⟩
theorem Inv.un {t' : Nat} (I : Inv X pins σ H s) (u : Un X.fs [] H H' s.heap h') (dM : qo X.prog X.w H' h') : Inv X pins σ H' { s with heap := h', toks := t' } := by
 obtain ⟨m, ⟨o, es, ep, ho, r⟩, _⟩ := id I.loc
 obtain ⟨sl, hL⟩ := u.any ho I.free y0.C
 exact I.step (g' := s.gens) (d' := s.drawn) (ch := []) (fun _ z => nomatch z) (fun b o _ hb _ e n => u.keep b o e n hb y0.C) (fun b o _ hb _ e n => u.slot b o e n hb y0.C) (fun b o _ e n => u.free b o e n y0.C) (fun b o _ e => u.there b o e y0.C) u.yH u.dQ u.yI (fun m' hm => by
   obtain ⟨o', es', ep', Nx, r'⟩ := hm
   rw [ho] at Nx; cases Nx
   exact ⟨_, es', ep', hL, r'⟩) dM I.bare
theorem Inv.call {g' : Array GenState} {t' : Nat} {d' : Drawn} {ch : List Addr} (I : Inv X pins σ H s) (u : Un (qp X.stack) ch H H' s.heap h') (dM : qo X.prog X.w H' h') (hg : AllBare g')
   (O4 : ∀ b ∈ ch, y0.aG /\ b ≠ X.env.locals /\ (∀ x c, X.env.cells.lookup x = some c -> c ≠ b) /\ ∀ p ∈ X.pn ++ pins, p.1 ≠ b) :
   Inv X pins σ H' { s with heap := h', gens := g', drawn := d', toks := t' } := by
 obtain ⟨m, ⟨o, es, ep, ho, r⟩, _⟩ := id I.loc
 obtain ⟨sl, hL⟩ := u.any ho I.free fun z => (O4 _ z).2.1 rfl
 exact I.step (ch := ch) O4 (fun b o hL hb hc e n => u.keep b o e n (fun z => (amt.mp (I.Ej b z)).elim hL hb) hc) (fun b o _ _ hc e n => u.any e n hc) (fun b o hc e n => u.free b o e n hc) (fun b o hc e => u.there b o e hc) u.yH u.dQ u.yI (fun m' hm => by
   obtain ⟨o', es', ep', Nx, r'⟩ := hm
   rw [ho] at Nx; cases Nx
   exact ⟨_, es', ep', hL, r'⟩) dM hg
theorem Inv.turned {t' : Nat} {it : Addr} (I : Inv X pins σ H s) (k : ∀ b o, b ≠ it -> s.heap.get? b = some o -> h'.get? b = some o) (hn : H it = none) (hL : it ≠ X.env.locals)
   (h1 : it ∈ X.ex \/ X.s₀.heap.objs.size <= it) (h2 : ∀ x c, X.env.cells.lookup x = some c -> c ≠ it) (h3 : ∀ p ∈ X.pn ++ pins, p.1 ≠ it) : Inv X pins σ H { s with heap := h', toks := t' } := by
 have nit : ∀ b u, H b = some u -> b ≠ it := fun b u e z => by rw [z, hn] at e; cases e
 refine I.step (g' := s.gens) (d' := s.drawn) (ch := [it]) (fun b hb => ?_) (fun b o _ _ hc e _ => k b o y0.W e) (fun b o _ _ hc e _ => ⟨o.slots, k b o y0.W e⟩) (fun _ _ _ _ n => n)
   (fun b o hc e => ⟨o, k b o y0.W e⟩) (fun _ _ e => e) (fun _ _ _ e => e) (fun b ps e => ⟨#[], by rw [e]; simp⟩) (fun m hm => ?_) (fun b u e => ?_) I.bare
 . have e : b = it := by simpa using hb
   subst e
   exact ⟨h1, hL, h2, h3⟩
 . obtain ⟨o, es, ep, ho, r⟩ := hm
   exact ⟨o, es, ep, k _ o (an8 hL) ho, r⟩
 . refine (I.dM b u e).yG (fun c v hc q => k c v ?_ q) (fun _ q => q) fun _ _ q => q
   rcases hc with z | z
   . rw [z]; exact nit b u e
   . exact nit c _ z
theorem Inv.tok (I : Inv X pins σ H s) (t : Nat) : Inv X pins σ H { s with toks := t } := I.un (h' := s.heap) (t' := t) Un.refl I.dM
theorem Inv.kept {t' : Nat} (I : Inv X pins σ H s) (k : ∀ b u, s.heap.get? b = some u -> h'.get? b = some u) : Inv X pins σ H { s with heap := h', toks := t' } := I.un (Un.kept k) (I.dM.kept k)
theorem Inv.laid {a : Addr} {o : HO} {t' : Nat} (I : Inv X pins σ H s) (k : ∀ b u, s.heap.get? b = some u -> h'.get? b = some u) (hp : s.heap.objs.size <= a) (new : fB X.prog X.w (upd H a o) h' a o) :
   Inv X pins σ (upd H a o) { s with heap := h', toks := t' } := I.un (Un.laid k hp (I.dM.fresh hp)) (I.dM.laid k hp new)
theorem Inv.write {x e : Addr} {o : HO} {t' : Nat} (I : Inv X pins σ H s) (mu : Mut (H x)) (he : e = x \/ H e = some (.own x)) (k : ∀ b u, b ≠ e -> s.heap.get? b = some u -> h'.get? b = some u) (heo : ∃ u, h'.get? e = some u)
   (new : fB X.prog X.w (upd H x o) h' x o) : Inv X pins σ (upd H x o) { s with heap := h', toks := t' } := I.un (Un.write mu he k heo) (I.dM.write mu he k heo new)
theorem Inv.yP {kC : List (Addr × Obj)} (I : Inv X pins σ H s) (h : ∀ p ∈ kC, s.heap.get? p.1 = some p.2 /\ H p.1 = none /\ p.1 ≠ X.env.locals /\ p.1 ∉ X.fs /\ ∀ v, p.2.data ≠ .cell v) : Inv X kC σ H s :=
 ⟨I.ok, I.os, I.bare, I.base, I.loc, I.cell, I.free, I.jX, fun p hp => (amx.mp hp).elim (fun z => I.pin p (amw _ z)) (h p), I.dM, I.len⟩
theorem zF {N : List Str} (hN : N.Nodup) {i j : Nat} {x : Str} (a : N[i]? = some x) (b : N[j]? = some x) : i = j := by
 obtain ⟨h1, e1⟩ := amU.mp a
 obtain ⟨h2, e2⟩ := amU.mp b
 exact (List.getElem_inj hN).mp (e1.trans e2.symm)
theorem O5 {M : Model} {A : Around} {E : Value -> Shared -> Prop} {i : Nat} {x : Str} {v : V} {u : Value} {Q : Unit -> Shared -> Prop} (I : Inv X pins σ H s) (hN : X.N.Nodup) (hi : X.N[i]? = some x) (hx : Loc X.env.scope x) (r : RelV v u)
   (h : ∀ s', Inv X pins (σ.set i (some v)) H s' -> (∃ a, Heap.SameBut a s.heap s'.heap /\ (a = X.env.locals \/ X.env.cells.lookup x = some a)) -> Q () s') (hf : X.fn x = true \/ X.env.scope.names.lookup x = some .local := by first | exact .inl rfl | exact .inr rfl | assumption) : wpAny M A (storeName X.env x u) Q E s := by
 obtain ⟨m, hn, hl⟩ := id I.loc
 have R3 : (X.env.scope.kind == .class || (X.env.scope.kind == .module && X.env.locals != X.env.globals)) = false := by rw [I.ok.kind]; rfl
 have hiσ : i < σ.length := by rw [I.len]; exact (amU.mp hi).1
 have cne := I.cne
 have tracked : ∀ {a : Addr} {h' : Heap}, (∃ o, s.heap.get? a = some o /\ H a = none) -> Heap.SameBut a s.heap h' -> qo X.prog X.w H h' := fun {a h'} ha hs b ob e => by
   obtain ⟨_, _, Hi⟩ := ha
   refine (I.dM b ob e).yG (fun c w' hc q => (hs.2 c ?_).trans q) (fun _ q => q) fun _ _ q => q
   rintro rfl
   rcases hc with rfl | hc
   . rw [Hi] at e; cases e
   . rw [Hi] at hc; cases hc
 rcases hx with hk | hk
 . refine wpAny_storeName_local hk hn (fun h' hn' hs => ?_) R3
   obtain ⟨oL, _, _, hoL, _⟩ := id hn
   refine h _ ⟨I.ok, I.os, I.bare, ⟨fun b o e n hb hx => ?_, fun b o e n hb hx => ?_, I.base.free, fun b o e hx => ?_, I.base.yH, I.base.dQ, I.base.yI⟩, ⟨_, hn', fun j y v' e1 e2 e3 => ?_⟩, fun y c e => ?_, I.free, I.jX, fun p hp => ?_, tracked ⟨oL, hoL, I.free⟩ hs, by simpa using I.len⟩ ⟨_, hs, .inl rfl⟩
   . exact (hs.2 b (amX (am0 (amG e) I.ok.above))).trans (I.base.keep b o e n hb hx)
   . obtain ⟨sl, e1⟩ := I.base.slot b o e n hb hx
     exact ⟨sl, (hs.2 b (amX (am0 (amG e) I.ok.above))).trans e1⟩
   . obtain ⟨o', e1⟩ := I.base.there b o e hx
     exact ⟨o', (hs.2 b (amX (am0 (amG e) I.ok.above))).trans e1⟩
   . by_cases hj : j = i
     . subst hj
       rw [hi] at e1; cases e1
       rw [List.getElem?_set_self hiσ] at e2
       cases e2
       exact ⟨u, r, .inl ⟨hk, by simp⟩⟩
     . rw [List.getElem?_set_ne (an8 hj)] at e2
       obtain ⟨u', r', q⟩ := hl j y v' e1 e2 e3
       refine ⟨u', r', ?_⟩
       rcases q with ⟨k, e⟩ | ⟨k, c, e, z⟩
       . refine .inl ⟨k, ?_⟩
         have : y ≠ x := fun e => hj (zF hN e1 (e ▸ hi))
         simp [this, e]
       . exact .inr ⟨k, c, e, z.sameBut hs (cne y c e)⟩
   . obtain ⟨w', z⟩ := I.cell y c e
     exact ⟨w', z.sameBut hs (cne y c e)⟩
   . obtain ⟨e, n, ne, nf, d⟩ := I.pin p hp
     exact ⟨(hs.2 p.1 ne).trans e, n, ne, nf, d⟩
 . have hfn : X.fn x = true := by
     rcases hf with z | z
     . exact z
     . rw [z] at hk; cases hk
   obtain ⟨c, hc⟩ := I.ok.has x (.inl hk)
   obtain ⟨w', z⟩ := I.cell x c hc
   refine wpAny_storeName_cell I.ok.kind hk hc z (fun h' R4 hs => ?_)
   obtain ⟨oc, Wm, ahl⟩ := id z
   refine h { s with heap := h' } ⟨I.ok, I.os, I.bare, ⟨fun b o e n hb hx => ?_, fun b o e n hb hx => ?_, I.base.free, fun b o e hx => ?_, I.base.yH, I.base.dQ, I.base.yI⟩, ⟨m, hn.sameBut hs (Ne.symm (cne x c hc)), fun j y v' e1 e2 e3 => ?_⟩, fun y c' e => ?_, I.free, I.jX, fun p hp => ?_, tracked ⟨oc, Wm, I.jX x c hc⟩ hs, by simpa using I.len⟩ ⟨c, hs, .inr hc⟩
   . exact (hs.2 b (amX (am0 (amG e) (I.ok.cab x c hfn hc)))).trans (I.base.keep b o e n hb hx)
   . obtain ⟨sl, e1⟩ := I.base.slot b o e n hb hx
     exact ⟨sl, (hs.2 b (amX (am0 (amG e) (I.ok.cab x c hfn hc)))).trans e1⟩
   . obtain ⟨o', e1⟩ := I.base.there b o e hx
     exact ⟨o', (hs.2 b (amX (am0 (amG e) (I.ok.cab x c hfn hc)))).trans e1⟩
   . by_cases hj : j = i
     . subst hj
       rw [hi] at e1; cases e1
       rw [List.getElem?_set_self hiσ] at e2
       cases e2
       exact ⟨u, r, .inr ⟨.inl hk, c, hc, R4⟩⟩
     . rw [List.getElem?_set_ne (an8 hj)] at e2
       obtain ⟨u', r', q⟩ := hl j y v' e1 e2 e3
       refine ⟨u', r', ?_⟩
       rcases q with q | ⟨k, c', e, z'⟩
       . exact .inl q
       . refine .inr ⟨k, c', e, z'.sameBut hs ?_⟩
         rintro rfl
         exact hj (zF hN e1 (I.ok.inj _ _ _ e hc ▸ hi))
   . by_cases hcc : c' = c
     . subst hcc; exact ⟨_, R4⟩
     . obtain ⟨w2, z2⟩ := I.cell y c' e
       exact ⟨w2, z2.sameBut hs hcc⟩
   . obtain ⟨e, n, ne, nf, d⟩ := I.pin p hp
     refine ⟨(hs.2 p.1 ?_).trans e, n, ne, nf, d⟩
     intro q
     rw [q, Wm] at e
     have q' : oc = p.2 := amK e
     exact d w' (by rw [← q']; exact ahl)
theorem zG {M : Model} {A : Around} {E : Value -> Shared -> Prop} {i : Nat} {x : Str} {v : V} {u : Value} {Q : Unit -> Shared -> Prop} (I : Inv X pins σ H s) (hN : X.N.Nodup) (hi : X.N[i]? = some x) (hx : Loc X.env.scope x) (r : RelV v u)
   (h : ∀ s', Inv X pins (σ.set i (some v)) H s' -> Q () s') (hf : X.fn x = true \/ X.env.scope.names.lookup x = some .local := by first | exact .inl rfl | exact .inr rfl | assumption) : wpAny M A (storeName X.env x u) Q E s :=
 O5 I hN hi hx r (fun s' I' _ => h s' I') hf
theorem Inv.aeJ {s' : Shared} {ch : List Addr} (I : Inv X pins σ H s) (ho : s'.os = s.os) (u : Un (qp X.stack) ch H H' s.heap s'.heap) (dM : qo X.prog X.w H' s'.heap) (hg : AllBare s'.gens)
   (O4 : ∀ b ∈ ch, y0.aG /\ b ≠ X.env.locals /\ (∀ x c, X.env.cells.lookup x = some c -> c ≠ b) /\ ∀ p ∈ X.pn ++ pins, p.1 ≠ b) : Inv X pins σ H' s' := by
 obtain ⟨h', g', d', t', o'⟩ := s'
 have e : o' = s.os := ho
 subst e
 exact I.call (g' := g') (t' := t') (d' := d') u dM hg O4
end
abbrev XK := Value -> Option Addr -> Hp -> Prop
abbrev St := List (Option V)
abbrev VK := V -> Hp -> Prop
abbrev TE := St -> Hp -> VK -> Prop
abbrev TT := St -> Hp -> (Bool -> Hp -> Prop) -> Prop
abbrev TA := St -> Hp -> (List V -> Hp -> Prop) -> Prop
structure Ends where
 nx : St -> Hp -> Prop
 rt : VK
 bk : St -> Hp -> Prop := fun _ _ => False
 ct : St -> Hp -> Prop := fun _ _ => False
abbrev TS := Ends -> St -> Hp -> Prop
def EP (X : Cx) (pins : List (Addr × Obj)) (σ : St) (Q : VK) (u : Value) (s' : Shared) : Prop := ∃ v H', Inv X pins σ H' s' /\ RelV v u /\ Q v H'
def TP (X : Cx) (pins : List (Addr × Obj)) (σ : St) (Q : Bool -> Hp -> Prop) (b : Bool) (s' : Shared) : Prop := ∃ H', Inv X pins σ H' s' /\ Q b H'
def AP (X : Cx) (pins : List (Addr × Obj)) (σ : St) (Q : List V -> Hp -> Prop) (us : List Value) (s' : Shared) : Prop := ∃ vs H', Inv X pins σ H' s' /\ Vals vs us /\ Q vs H'
def SP (X : Cx) (pins : List (Addr × Obj)) (D : Ends) (f : Flow) (s' : Shared) : Prop :=
 match f with
 | .next => ∃ σ' H', Inv X pins σ' H' s' /\ D.nx σ' H'
 | .brk => ∃ σ' H', Inv X pins σ' H' s' /\ D.bk σ' H'
 | .cont => ∃ σ' H', Inv X pins σ' H' s' /\ D.ct σ' H'
 | .ret u => ∃ v σ' H', Inv X pins σ' H' s' /\ RelV v u /\ D.rt v H'
def PE (X : Cx) (e : Expr) (t : TE) : Prop :=
 ∀ (pins : List y0.p) (s : Shared) (σ : St) (H : Hp) (Q : VK), Inv X pins σ H s -> t σ H Q -> wpAny y0.d X.A (eval e X.env) y0.af X.xe s
def PT (X : Cx) (e : Expr) (t : TT) : Prop :=
 ∀ (pins : List y0.p) (s : Shared) (σ : St) (H : Hp) (Q : Bool -> Hp -> Prop), Inv X pins σ H s -> t σ H Q -> wpAny y0.d X.A (isTrue e X.env (eval e X.env)) (TP X pins σ Q) X.xe s
def PW (X : Cx) (e : Expr) (t : TT) : Prop :=
 ∀ (whole : Sem Value) (pins : List y0.p) (s : Shared) (σ : St) (H : Hp) (Q : Bool -> Hp -> Prop), Inv X pins σ H s -> t σ H Q -> wpAny y0.d X.A (isTrue e X.env whole) (TP X pins σ Q) X.xe s
def PA (X : Cx) (es : List Expr) (t : TA) : Prop :=
 ∀ (pos : Pos) (pins : List y0.p) (s : Shared) (σ : St) (H : Hp) (Q : List V -> Hp -> Prop), Inv X pins σ H s -> t σ H Q -> wpAny y0.d X.A (spliced (backTo pos y0.M)) (AP X pins σ Q) X.xe s
def PS (X : Cx) (st : Stmt) (t : TS) : Prop :=
 ∀ (pins : List y0.p) (s : Shared) (σ : St) (H : Hp) (D : Ends), Inv X pins σ H s -> t D σ H -> wpAny y0.d X.A (exec st X.env) (SP X pins D) X.xe s
def Kr (X : Cx) (st : List Stmt) (t : TS) : Prop :=
 ∀ (pins : List y0.p) (s : Shared) (σ : St) (H : Hp) (D : Ends), Inv X pins σ H s -> t D σ H -> wpAny y0.d X.A (execs st X.env) (SP X pins D) X.xe s
theorem fu {α : Type} {t : Sem α} {Q Q' : α -> Shared -> Prop} {M : Model} {A : Around} {E : Value -> Shared -> Prop} {s : Shared} (h : wpAny M A t Q E s) (hQ : ∀ a s, Q a s -> Q' a s) : wpAny M A t Q' E s := ani h hQ fun _ _ x => x
section
variable {X : Cx}
def ahm (i : Nat) : TE := fun σ H Q => ∃ v, σ[i]? = some (some v) /\ Q v H
def tC (v : V) : TE := fun _ H Q => Q v H
theorem m7 {i : Nat} {x : Str} {pos : Pos} (hN : X.N[i]? = some x) (hv : Vis X.env.scope x) (hd : (x == ("__debug__" : Str)) = false := by decide) (ko : y0.q = false := by decide) : PE X y0.am (ahm i) := by
 intro pins s σ H Q I h
 obtain ⟨v, e, h⟩ := h
 obtain ⟨m, hn, hl⟩ := I.loc
 obtain ⟨u, r, l⟩ := hl i x v hN e hv
 have fin : EP X pins σ Q u s := ⟨v, H, I, r, h⟩
 rcases l with ⟨hk, hm⟩ | ⟨hk, c, hc, x6⟩
 . exact wpAny_Name (wpAny_loadName_local I.ok.kind hk hn hm fin) hd
 . rcases hk with hk | hk
   . exact wpAny_Name (wpAny_loadName_cell I.ok.kind hk hc x6 fin) hd
   . exact wpAny_Name (wpAny_loadName_free I.ok.kind hk hc x6 fin ko) hd
theorem aaX {i j pos} : PE X (.Constant (.int i) j pos) (tC (.int i)) := fun _ _ _ H _ I h => wpAny_Constant_int ⟨.int i, H, I.tok _, ⟨_, rfl⟩, h⟩
theorem aeK {b j pos} : PE X (.Constant (.bool b) j pos) (tC (.bl b)) := fun _ _ _ H _ I h => Constant_bool ⟨.bl b, H, I, rfl, h⟩
theorem aaY {j pos} : PE X (.Constant .none j pos) (tC .non) := fun _ _ _ H _ I h => Constant_none ⟨.non, H, I, rfl, h⟩
theorem aaZ {x j pos} : PE X (.Constant (.str x) j pos) (tC (.str x)) := fun _ _ _ H _ I h => Calls.Constant_str ⟨.str x, H, I.tok _, ⟨_, rfl⟩, h⟩
def Gl (X : Cx) (x : Str) : Prop := X.env.kindOf x = some .globalImplicit
theorem oX {E : Value -> Shared -> Prop} {pins : List (Addr × Obj)} {s : Shared} {σ : St} {H : Hp} {x : Str} {u : Value} {pos : Pos} {Q : Value -> Shared -> Prop} (I : Inv X pins σ H s) (hg : Gl X x) (hm : X.mg x = some u) (h : Q u s)
   (hd : y0.i = false := by decide) : wpAny y0.d X.A (eval y0.am X.env) Q E s :=
 Calls.Name_function_global I.ok.kind hg (Calls.loadGlobal_global (by rw [I.ok.glob]; exact I.mod.glob.keeps I.bk) hm h) hd
theorem tS {E : Value -> Shared -> Prop} {pins : List (Addr × Obj)} {s : Shared} {σ : St} {H : Hp} {x : Str} {u : Value} {pos : Pos} {Q : Value -> Shared -> Prop} (I : Inv X pins σ H s) (hg : Gl X x) (hm : X.mg x = none) (hv : bootBuiltins x = some u) (h : Q u s)
   (hn : x ≠ "__name__" := by decide) (hd : y0.i = false := by decide) : wpAny y0.d X.A (eval y0.am X.env) Q E s := by
 obtain ⟨mb, h1, h2⟩ := I.mod.blt
 exact Calls.Name_function_global I.ok.kind hg (Calls.loadGlobal_builtin (by rw [I.ok.glob]; exact I.mod.glob.keeps I.bk) hm (by rw [I.ok.blt]; exact h1.keeps I.bk) ((h2 x hn).trans hv) h) hd
theorem Ny {x : Str} {v : V} {u : Value} {pos : Pos} (hg : Gl X x) (hm : X.mg x = some u) (r : RelV v u) (hd : (x == ("__debug__" : Str)) = false := by decide) : PE X y0.am (tC v) :=
 fun _ _ _ H _ I h => oX I hg hm ⟨v, H, I, r, h⟩ hd
theorem Nz {x : Str} {v : V} {u : Value} {pos : Pos} (hg : Gl X x) (hm : X.mg x = none) (hv : bootBuiltins x = some u) (r : RelV v u) (hn : x ≠ "__name__" := by decide) (hd : y0.i = false := by decide) : PE X y0.am (tC v) :=
 fun _ _ _ H _ I h => tS I hg hm hv ⟨v, H, I, r, h⟩ hn hd
variable {a b : Expr} {ta tb : TE} {pos : Pos}
def PC (X : Cx) (op : CmpOp) (a b : Expr) (t : TE) : Prop :=
 ∀ (pins : List y0.p) (s : Shared) (σ : St) (H : Hp) (Q : VK), Inv X pins σ H s -> t σ H Q →
   wpAny y0.d X.A (eval a X.env) (fun v s₁ => wpAny y0.d X.A (eval b X.env) (fun u s₂ => wpAny y0.d X.A (compareOp op v u) y0.af X.xe s₂) X.xe s₁) X.xe s
theorem R5 (b : Expr) {op : CmpOp} (h : op ≠ .In) (h2 : op ≠ .NotIn) : behindInMarks op b = false := by
 have e1 : (op == CmpOp.In) = false := by cases op <;> first | rfl | exact absurd rfl h
 have e2 : (op == CmpOp.NotIn) = false := by cases op <;> first | rfl | exact absurd rfl h2
 cases b <;> simp [behindInMarks, e1, e2]
def tB (t : TE) : TT := fun σ H Q => t σ H fun x H1 => ∃ c, x = .bl c /\ Q c H1
theorem aa0 {op : CmpOp} {t : TE} (h : PC X op a b t) (h1 : behindInMarks op b = false := by first | exact R5 _ y0.g y0.g | rfl) : PT X (.Compare a [op] [b] pos) (tB t) := by
 intro pins s σ H Q I hw
 refine wpAny_isTrue_Compare1 (fu (h pins s σ H _ I hw) fun v s1 h1 => fu h1 fun u s2 h2 => fu h2 fun c s3 zz => ?_) h1
 obtain ⟨x, H1, I1, r1, q1⟩ := zz
 obtain ⟨d, rfl, q⟩ := q1
 cases r1
 exact an2 ⟨H1, I1, q⟩
theorem aa1 {e : Expr} {t : TE} (h : PE X e t) (he : ∀ whole, isTrue e X.env whole = (do let v ← whole; standAt e.pos; holding [v] (truthy v)) := by intro _; rfl) : PT X e (tB t) := by
 intro pins s σ H Q I hw
 refine isTrue_plain (fu (h pins s σ H _ I hw) fun v s1 zz => ?_) (he _)
 obtain ⟨x, H1, I1, r1, q1⟩ := zz
 obtain ⟨d, rfl, q⟩ := q1
 cases r1
 exact an2 ⟨H1, I1, q⟩
variable {tA tB' : TT} {rest : List Expr}
def ahn (t u : TT) : TT := fun σ H Q => t σ H fun c H1 => if c = true then u σ H1 Q else Q false H1
def tOr (t u : TT) : TT := fun σ H Q => t σ H fun c H1 => if c = true then Q true H1 else u σ H1 Q
def aho (t : TT) : TT := fun σ H Q => t σ H fun c H1 => Q (!c) H1
theorem Wx (ha : PT X a tA) : PW X (.BoolOp .And [a] pos) tA := by
 intro wh pins s σ H Q I h
 refine isTrue_and (fu (ha pins s σ H Q I h) fun c s1 e => ?_)
 cases c with
 | true => exact isTrue_and_nil e
 | false => exact e
theorem aa2 (ha : PT X a tA) : PW X (.BoolOp .Or [a] pos) tA := by
 intro wh pins s σ H Q I h
 refine isTrue_or (fu (ha pins s σ H Q I h) fun c s1 e => ?_)
 cases c with
 | false => exact isTrue_or_nil e
 | true => exact e
theorem aa3 (ha : PT X a tA) (hb : PW X (.BoolOp .And (b :: rest) pos) tB') : PW X (.BoolOp .And (a :: b :: rest) pos) (ahn tA tB') := by
 intro wh pins s σ H Q I h
 refine isTrue_and (fu y0.al fun c s1 zz => ?_)
 obtain ⟨H1, I1, q1⟩ := zz
 cases c with
 | true => exact hb wh pins s1 σ H1 Q I1 q1
 | false => exact ⟨H1, I1, q1⟩
theorem aeL (ha : PT X a tA) (hb : PW X (.BoolOp .Or (b :: rest) pos) tB') : PW X (.BoolOp .Or (a :: b :: rest) pos) (tOr tA tB') := by
 intro wh pins s σ H Q I h
 refine isTrue_or (fu y0.al fun c s1 zz => ?_)
 obtain ⟨H1, I1, q1⟩ := zz
 cases c with
 | true => exact ⟨H1, I1, q1⟩
 | false => exact hb wh pins s1 σ H1 Q I1 q1
theorem aa4 (ha : PT X a tA) : PT X (.UnaryOp .Not a pos) (aho tA) := by
 intro pins s σ H Q I h
 exact isTrue_not (ha pins s σ H (fun c H1 => Q (!c) H1) I h)
def aeM (ta tb : TE) : TE := fun σ H Q => ta σ H fun x H1 => ∃ c, x = .bl c /\ if c = true then tb σ H1 Q else Q (.bl false) H1
def aeN (ta : TE) : TE := fun σ H Q => ta σ H fun x H1 => ∃ c, x = .bl c /\ Q (.bl (!c)) H1
theorem aa5 {op} {t : TE} (h : PE X a t) : PE X (.BoolOp op [a] pos) t := fun pins s σ H Q I hw => BoolOp_one (h pins s σ H Q I hw)
theorem aa6 (ha : PE X a ta) (hb : PE X (.BoolOp .And (b :: rest) pos) tb) : PE X (.BoolOp .And (a :: b :: rest) pos) (aeM ta tb) := by
 intro pins s σ H Q I h
 refine BoolOp_and (fu y0.al fun v s1 zz => ?_)
 obtain ⟨x, H1, I1, r1, q1⟩ := zz
 obtain ⟨c, rfl, q1⟩ := q1
 cases r1
 refine an2 ?_
 cases c with
 | true => exact hb pins s1 σ H1 Q I1 q1
 | false => exact ⟨.bl false, H1, I1, rfl, q1⟩
theorem aa7 (ha : PE X a ta) : PE X (.UnaryOp .Not a pos) (aeN ta) := by
 intro pins s σ H Q I h
 refine UnaryOp_ (fu y0.al fun v s1 zz => ?_)
 obtain ⟨x, H1, I1, r1, q1⟩ := zz
 obtain ⟨c, rfl, q1⟩ := q1
 cases r1
 exact not_of (an2 ⟨.bl (!c), H1, I1, rfl, q1⟩)
end
def qk (K : PySem.W.Frag) (H : Hp) (a : Addr) (xs : List V) : Prop :=
 Rd H a (.lst xs) ∨
   ∃ (o : Obj) (its : Array Value) (n : Nat), K.lookup a = some o /\ o.cls = .type "list" /\ o.dict = none /\ o.data = .seq its n /\ its.size <= sizeLine /\ Vals xs its.toList
def uM (K : PySem.W.Frag) (H : Hp) (a : Addr) (xs : List V) : Prop :=
 Rd H a (.tup xs) ∨
   ∃ (o : Obj) (its : Array Value) (n : Nat), K.lookup a = some o /\ o.cls = .type "tuple" /\ o.data = .seq its n /\ its.size <= sizeLine /\ Vals xs its.toList
def ahp : Value -> Option V
 | .none => some .non
 | .bool b => some (.bl b)
 | .int i _ => some (.int i)
 | .str x _ => some (.str x)
 | .bytes b _ => some (.Nu b)
 | .float b _ => some (.flt b)
 | .ref a => some (.ref a)
 | .type n => some (.ty n)
 | _ => none
theorem RelV.abs {x : V} {u : Value} (r : RelV x u) : ahp u = some x := by
 cases x with
 | non => cases r; rfl
 | bl _ => cases r; rfl
 | int _ => obtain ⟨t, rfl⟩ := r; rfl
 | str _ => obtain ⟨t, rfl⟩ := r; rfl
 | Nu _ => obtain ⟨t, rfl⟩ := r; rfl
 | flt _ => obtain ⟨t, rfl⟩ := r; rfl
 | ref _ => cases r; rfl
 | ty _ => cases r; rfl
theorem RelV.inj {x y : V} {u : Value} (r : RelV x u) (q : RelV y u) : x = y := amK (r.abs.symm.trans q.abs)
theorem Vals.inj {xs ys : List V} {us : List Value} (h : Vals xs us) (q : Vals ys us) : xs = ys := by
 induction h generalizing ys with
 | nil => cases q; rfl
 | cons r _ i => cases q with
   | cons r' t' => rw [r.inj r', i t']
section
variable {X : Cx} {pins : List (Addr × Obj)} {σ : St} {H : Hp} {s : Shared} {a : Addr} {xs ys : List V}
theorem qk.of {K : PySem.W.Frag} (h : H a = some (.lst xs)) : qk K H a xs := .inl (.inl h)
theorem uM.of {K : PySem.W.Frag} (h : H a = some (.tup xs)) : uM K H a xs := .inl (.inl h)
theorem Inv.list (I : Inv X pins σ H s) (h : qk X.K H a xs) : ∃ its : List Value, Vals xs its /\ PlainL s.heap a its.toArray /\ xs.length <= sizeLine := by
 rcases h with h | ⟨o, its, n, hk, hc, hd, hs, hz, r⟩
 . obtain ⟨z, its, n, r, e⟩ := h.ok I.dM
   exact ⟨its, r, ⟨_, n, e, rfl, rfl, rfl⟩, z⟩
 . refine ⟨its.toList, r, ⟨o, n, I.wB a o hk, hc, hd, by simpa using hs⟩, ?_⟩
   have e := r.length
   simp only [anK] at e
   omega
theorem Inv.tuple (I : Inv X pins σ H s) (h : uM X.K H a xs) : ∃ its : List Value, Vals xs its /\ IsTup s.heap a its.toArray /\ xs.length <= sizeLine := by
 rcases h with h | ⟨o, its, n, hk, hc, hs, hz, r⟩
 . obtain ⟨z, its, r, p⟩ := h.ok I.dM
   exact ⟨its, r, p, z⟩
 . refine ⟨its.toList, r, ⟨o, I.wB a o hk, hc, n, by simpa using hs⟩, ?_⟩
   have e := r.length
   simp only [anK] at e
   omega
theorem Inv.Hj (I : Inv X pins σ H s) (h : qk X.K H a xs) (h' : qk X.K H a ys) : xs = ys := by
 obtain ⟨its, r, ⟨o, n, e, _, _, d⟩, _⟩ := I.list h
 obtain ⟨its', r', ⟨o', n', e', _, _, d'⟩, _⟩ := I.list h'
 rw [e] at e'; cases e'
 rw [d] at d'
 injection d' with d1 _
 have : its = its' := by simpa using congrArg Array.toList d1
 subst this
 exact r.inj r'
theorem Inv.O6 (I : Inv X pins σ H s) (h : uM X.K H a xs) (h' : uM X.K H a ys) : xs = ys := by
 obtain ⟨its, r, ⟨o, e, _, n, d⟩, _⟩ := I.tuple h
 obtain ⟨its', r', ⟨o', e', _, n', d'⟩, _⟩ := I.tuple h'
 rw [e] at e'; cases e'
 rw [d] at d'
 injection d' with d1 _
 have : its = its' := by simpa using congrArg Array.toList d1
 subst this
 exact r.inj r'
end
abbrev Cx.wish (X : Cx) (E : Value -> Shared -> Prop) : Cx := { X with xe := E }
abbrev Cx.Wn (X : Cx) : Cx := X.wish fun _ _ => False
theorem Cx.Ok.wish {X : Cx} (ok : X.Ok) (E : Value -> Shared -> Prop) : (X.wish E).Ok :=
 ⟨ok.mod, ok.kind, ok.glob, ok.blt, ok.above, ok.inj, ok.has, ok.cab, ok.hd, ok.frames, ok.stk, ok.exf, ok.bs, ok.RN, ok.Kq, ok.O2, ok.tR, ok.Wk⟩
theorem Cx.Ok.kr {X : Cx} {E : Value -> Shared -> Prop} (ok : (X.wish E).Ok) : X.Ok :=
 ⟨ok.mod, ok.kind, ok.glob, ok.blt, ok.above, ok.inj, ok.has, ok.cab, ok.hd, ok.frames, ok.stk, ok.exf, ok.bs, ok.RN, ok.Kq, ok.O2, ok.tR, ok.Wk⟩
section
variable {X : Cx} {pins : List (Addr × Obj)} {σ : St} {H : Hp} {s : Shared} {E : Value -> Shared -> Prop}
theorem Inv.wish (I : Inv X pins σ H s) (E : Value -> Shared -> Prop) : Inv (X.wish E) pins σ H s := ⟨I.ok.wish E, I.os, I.bare, I.base, I.loc, I.cell, I.free, I.jX, I.pin, I.dM, I.len⟩
theorem Inv.kr (I : Inv (X.wish E) pins σ H s) : Inv X pins σ H s := ⟨I.ok.kr, I.os, I.bare, I.base, I.loc, I.cell, I.free, I.jX, I.pin, I.dM, I.len⟩
theorem SP.kr {D : Ends} {f : Flow} {s' : Shared} (h : SP (X.wish E) pins D f s') : SP X pins D f s' := by
 cases f with
 | next => obtain ⟨σ', H', I, q⟩ := h; exact ⟨σ', H', I.kr, q⟩
 | brk => obtain ⟨σ', H', I, q⟩ := h; exact ⟨σ', H', I.kr, q⟩
 | cont => obtain ⟨σ', H', I, q⟩ := h; exact ⟨σ', H', I.kr, q⟩
 | ret u => obtain ⟨v, σ', H', I, r, q⟩ := h; exact ⟨v, σ', H', I.kr, r, q⟩
theorem Kr.Wn {st : List Stmt} {t : TS} (h : Kr X.Wn st t) : Kr X st t := fun pins s σ H D I hw =>
 ani (h pins s σ H D (I.wish _) hw) (fun _ _ q => q.kr) fun _ _ z => False.elim z
end
section
variable {X : Cx} {st : Stmt} {rest : List Stmt} {t u : TS} {e : Expr} {te : TE} {pos : Pos}
def aeO : TS := fun D σ H => D.nx σ H
def ahq (t u : TS) : TS := fun D σ H => t { D with nx := u D } σ H
theorem Wy : Kr X [] aeO := fun _ _ σ H _ I h => wpAny_execs_nil ⟨σ, H, I, h⟩
theorem zH (h1 : PS X st t) (h2 : Kr X rest u) : Kr X (st :: rest) (ahq t u) := by
 intro pins s σ H D I h
 refine wpAny_execs_cons (fu (h1 pins s σ H { D with nx := u D } I h) fun f s1 q => ?_)
 cases f with
 | next =>
   obtain ⟨σ', H', I', q⟩ := q
   exact h2 pins s1 σ' H' D I' q
 | ret v => exact q
 | brk => exact q
 | cont => exact q
theorem Inv.quiet {pins : List (Addr × Obj)} {σ : St} {H : Hp} {s : Shared} (I : Inv X pins σ H s) : interactive X.env = false := by simp [interactive, I.ok.kind]
def aeP (te : TE) : TS := fun D σ H => te σ H fun _ H1 => D.nx σ H1
theorem Ek (he : PE X e te) (hs : swapsWith e none pos.line X.env = pure false := by rfl) : PS X (.Expr e pos) (aeP te) := by
 intro pins s σ H D I h
 exact wpAny_Expr_any (fu y0.bu fun v s1 ⟨x, H1, I1, r1, q1⟩ => ⟨σ, H1, I1, q1⟩) I.quiet hs
def ahr (te : TE) : TS := fun D σ H => te σ H D.rt
theorem aa8 (he : PE X e te) : PS X (.Return (some e) pos) (ahr te) := by
 intro pins s σ H D I h
 exact wpAny_Return_some (fu y0.bu fun v s1 ⟨x, H1, I1, r1, q1⟩ => ⟨x, σ, H1, I1, r1, q1⟩)
def ahs (c : TT) (t u : TS) : TS := fun D σ H => c σ H fun b H1 => if b = true then t D σ H1 else u D σ H1
theorem aeQ {c : Expr} {a b : List Stmt} {tc : TT} (hc : PT X c tc) (ha : Kr X a t) (hb : Kr X b u) : PS X (.If c a b pos) (ahs tc t u) := by
 intro pins s σ H D I h
 refine wpAny_If (fu (hc pins s σ H _ I h) fun d s1 zz => ?_)
 obtain ⟨H1, I1, q1⟩ := zz
 cases d with
 | true => exact ha pins s1 σ H1 D I1 q1
 | false => exact hb pins s1 σ H1 D I1 q1
end
abbrev TG := V -> St -> Hp -> (St -> Hp -> Prop) -> Prop
abbrev TGs := List V -> St -> Hp -> (St -> Hp -> Prop) -> Prop
def PG (X : Cx) (target : Expr) (t : TG) : Prop :=
 ∀ (pins : List y0.p) (s : Shared) (σ : St) (H : Hp) (v : V) (u : Value) (Q : St -> Hp -> Prop), Inv X pins σ H s -> RelV v u -> t v σ H Q →
   wpAny y0.d X.A (assign target X.env u) (fun _ s' => ∃ σ' H', Inv X pins σ' H' s' /\ Q σ' H') X.xe s
def PGs (X : Cx) (ts : List Expr) (t : TGs) : Prop :=
 ∀ (pins : List y0.p) (s : Shared) (σ : St) (H : Hp) (vs : List V) (us : List Value) (Q : St -> Hp -> Prop), Inv X pins σ H s -> Vals vs us -> t vs σ H Q →
   wpAny y0.d X.A (assignInOrder ((assignEach ts X.env).map (·.2)) us) (fun _ s' => ∃ σ' H', Inv X pins σ' H' s' /\ Q σ' H') X.xe s
abbrev abb := V -> V -> V -> Hp -> (Hp -> Prop) -> Prop
def aeR (X : Cx) (t : abb) : Prop :=
 ∀ (pins : List y0.p) (s : Shared) (σ : St) (H : Hp) (o i v : V) (ov iv u : Value) (Q : Hp -> Prop), Inv X pins σ H s -> RelV o ov -> RelV i iv -> RelV v u -> t o i v H Q →
   wpAny y0.d X.A (setItem ov iv u) (fun _ s' => ∃ H', Inv X pins σ H' s' /\ Q H') X.xe s
section
variable {X : Cx} {pos : Pos}
def x8 (i : Nat) : TG := fun v σ H Q => Q (σ.set i (some v)) H
theorem uQ {i : Nat} {x : Str} (hN : X.N.Nodup) (hi : X.N[i]? = some x) (hx : Loc X.env.scope x) (hf : X.fn x = true \/ X.env.scope.names.lookup x = some .local := by first | exact .inl rfl | exact .inr rfl | assumption) : PG X y0.am (x8 i) := by
 intro pins s σ H v u Q I r h
 exact wpAny_assign_Name (zG I hN hi hx r (fun s' I' => ⟨_, H, I', h⟩) hf)
def abd : TGs := fun vs σ H Q => vs = [] /\ Q σ H
def Hl (t : TG) (u : TGs) : TGs := fun vs σ H Q => ∃ v r, vs = v :: r /\ t v σ H fun σ' H' => u r σ' H' Q
theorem Wz : PGs X [] abd := by
 intro pins s σ H vs us Q I r h
 obtain ⟨e, h⟩ := h
 subst e
 cases r
 exact assignInOrder_nil ⟨σ, H, I, h⟩
theorem Ho {e : Expr} {es : List Expr} {t : TG} {u : TGs} (h1 : PG X e t) (h2 : PGs X es u)
   (hs : (assignEach y0.ag X.env).map (·.2) = assign e X.env :: (assignEach es X.env).map (·.2) := by rfl) : PGs X y0.ag (Hl t u) := by
 intro pins s σ H vs us Q I r h
 obtain ⟨v, vr, e1, h⟩ := h
 subst e1
 cases r with
 | cons r rr =>
   rw [hs]
   refine assignInOrder_cons (fu (h1 pins s σ H _ _ _ I r h) fun _ s1 zz => ?_)
   obtain ⟨σ1, H1, I1, q1⟩ := zz
   exact h2 pins s1 σ1 H1 _ _ Q I1 rr q1
def abe (K : PySem.W.Frag) (n : Nat) (t : TGs) : TG := fun v σ H Q => ∃ a xs, v = .ref a /\ uM K H a xs /\ xs.length = n /\ t xs σ H Q
theorem abf {es : List Expr} {k : Nat} {t : TGs} {n : Nat} (hc : X.calm = true) (h : PGs X es t)
   (hn : (assignEach es X.env).length = n := by rfl) (qq : (assignEach es X.env).findIdx? (·.1) = none := by rfl) : PG X (.Tuple es k pos) (abe X.K n t) := by
 intro pins s σ H v u Q I r hw
 obtain ⟨a, xs, e1, hq, hl, hw⟩ := hw
 subst e1
 cases r
 obtain ⟨its, rv, ht, hz⟩ := I.tuple hq
 refine assign_Tuple_tuple (I.ok.hd hc) ht (by simp [hn, ← hl, rv.length]) qq fun h' hx => ?_
 have I1 : Inv X pins σ H { s with heap := h' } := I.kept (t' := s.toks) fun b o e => hx b o (amX (amG e)) e
 exact h pins _ σ H xs _ Q I1 (by simpa using rv) hw
def aht (to ti : TE) (t : abb) : TG := fun v σ H Q => to σ H fun o H1 => ti σ H1 fun i H2 => t o i v H2 fun H3 => Q σ H3
theorem abg {o i : Expr} {to ti : TE} {t : abb} (ho : PE X o to) (hi : PE X i ti) (hs : aeR X t)
   (ha : ∀ v, assign (.Subscript o i pos) X.env v = (do
     let ov ← holding [v] (eval o X.env)
     let iv ← holding [v, ov] (eval i X.env)
     standAt pos
     holding [v, ov, iv] (setItem ov iv v)
     release [v, ov, iv] []) := by intro _; rfl) : PG X (.Subscript o i pos) (aht to ti t) := by
 intro pins s σ H v u Q I r h
 rw [ha]
 refine ams (an0 (fu (ho pins s σ H _ I h) fun ov s1 zz => ?_))
 obtain ⟨x, H1, I1, r1, q1⟩ := zz
 refine ams (an0 (fu (hi pins s1 σ H1 _ I1 q1) fun iv s2 zz => ?_))
 obtain ⟨y, H2, I2, r2, q2⟩ := zz
 refine ams (wpAny_standAt (ams (an0 (fu (hs pins s2 σ H2 x y v ov iv u _ I2 r1 r2 r q2) fun _ s3 zz => ?_))))
 obtain ⟨H3, I3, q3⟩ := zz
 exact wpAny_release ⟨σ, H3, I3, q3⟩
def aeS (te : TE) (g : TG) : TS := fun D σ H => te σ H fun x H1 => g x σ H1 D.nx
theorem abh {tg e : Expr} {te : TE} {g : TG} (he : PE X e te) (hg : PG X tg g) (hs : swapsWithSole [tg] e pos.line X.env = pure false := by rfl) (hw : swappedStores [tg] e X.env = pure none := by rfl)
   (h1 : (assignEach [tg] X.env).map (·.2) = [assign tg X.env] := by rfl) : PS X (.Assign [tg] e pos) (aeS te g) := by
 intro pins s σ H D I h
 refine wpAny_Assign_stores (fu y0.bu fun v s1 zz => ?_) hs hw
 obtain ⟨x, H1, I1, r1, q1⟩ := zz
 rw [h1]
 exact fu (hg pins s1 σ H1 x v _ I1 r1 q1) fun _ s2 q => q
theorem R6 {i : Nat} {x : Str} {e : Expr} {te : TE} {pos' : Pos} (hN : X.N.Nodup) (hi : X.N[i]? = some x) (hx : Loc X.env.scope x) (he : PE X e te) (hs : swapsWith e (some (.Name x pos')) pos.line X.env = pure false := by rfl) (hf : X.fn x = true \/ X.env.scope.names.lookup x = some .local := by first | exact .inl rfl | exact .inr rfl | assumption) :
   PS X (.Assign [.Name x pos'] e pos) (aeS te (x8 i)) := by
 intro pins s σ H D I h
 refine wpAny_Assign_Name (fu y0.bu fun v s1 zz => ?_) hs
 obtain ⟨y, H1, I1, r1, q1⟩ := zz
 exact zG I1 hN hi hx r1 (fun s2 I2 => ⟨_, H1, I2, q1⟩) hf
end
section
variable {X : Cx} {pos : Pos}
def abi (c : TT) (tb : TS) : TS := fun D σ H => ∃ W : Nat -> St -> Hp -> Prop, (∃ m, W m σ H) /\ ∀ m σ H, W m σ H →
 c σ H fun b H1 => if b = true then ∃ N : St -> Hp -> Prop, (∀ σ' H', N σ' H' -> ∃ m', m' < m /\ W m' σ' H') /\ tb { D with nx := N, ct := N, bk := D.nx } σ H1 else D.nx σ H1
theorem R7 {c : Expr} {body : List Stmt} {tc : TT} {tb : TS} (hp : PassesOwn (model X.prog X.w) X.A X.env X.xe) (hc : PT X c tc) (hb : Kr X body tb) : PS X (.While c body [] pos) (abi tc tb) := by
 intro pins s σ H D I h
 obtain ⟨W, ⟨m0, w0⟩, turn⟩ := h
 refine wpAny_While (codeAny_whileLoop (fun n s' => ∃ σ' H', Inv X pins σ' H' s' /\ W n σ' H') ?_ m0 ⟨σ, H, I, w0⟩)
 rintro n s1 ⟨σ1, H1, I1, w1⟩
 refine anW hp (fu (hc pins s1 σ1 H1 _ I1 (turn n σ1 H1 w1)) fun b s2 zz => ?_)
 obtain ⟨H2, I2, q2⟩ := zz
 cases b with
 | true =>
   obtain ⟨N, hN, q2⟩ := q2
   rw [aml rfl]
   refine anW hp (fu (hb pins s2 σ1 H2 _ I2 q2) fun f s3 q3 => ?_)
   cases f with
   | next =>
     obtain ⟨σ3, H3, I3, n3⟩ := q3
     obtain ⟨m', hm, w3⟩ := hN σ3 H3 n3
     exact ⟨m', hm, σ3, H3, I3, w3⟩
   | cont =>
     obtain ⟨σ3, H3, I3, n3⟩ := q3
     obtain ⟨m', hm, w3⟩ := hN σ3 H3 n3
     exact ⟨m', hm, σ3, H3, I3, w3⟩
   | brk => exact q3
   | ret v => exact q3
 | false =>
   rw [amg amE]
   exact wpAny_execs_nil ⟨σ1, H2, I2, q2⟩
end
structure It where
 go : Nat -> Hp -> Prop
 yld : Nat -> Hp -> V -> Hp -> Prop
 stop : Nat -> Hp -> Prop
def kJ (X : Cx) (pins : List (Addr × Obj)) (H : Hp) (b : Addr) : Prop :=
 H b = none /\ b ≠ X.env.locals /\ b ∉ X.fs /\ y0.aG /\ (∀ x c, X.env.cells.lookup x = some c -> c ≠ b) /\ ∀ p ∈ X.pn ++ pins, p.1 ≠ b
theorem Inv.El {X : Cx} {pins : List (Addr × Obj)} {σ : St} {H H' : Hp} {s : Shared} {b : Addr} (I : Inv X pins σ H s) (hb : s.heap.objs.size <= b) (hn : H' b = none) : kJ X pins H' b := by
 refine ⟨hn, Nat.ne_of_gt (am0 I.lt hb), I.ahg hb, .inr (anB I.sz hb), fun x c e z => ?_, fun p hp z => ?_⟩
 . obtain ⟨v, q⟩ := I.cell x c e
   exact absurd (am0 q.lt (by rw [z]; exact hb)) (aoj _)
 . exact absurd (am0 (amG (I.pin p hp).1) (by rw [z]; exact hb)) (aoj _)
structure Turn (P : Program) (w : World) (K : PySem.W.Frag) (tg : Expr) (J : It) (fp : List Addr) (it : Addr) (tn : Nat -> Heap -> Prop) : Prop where
 mem : it ∈ fp
 obj : ∀ i h, tn i h -> ∀ b ∈ fp, ∃ o, h.get? b = some o /\ ∀ v, o.data ≠ .cell v
 keep : ∀ i h h', tn i h -> (∀ b ∈ fp, ∀ o, h.get? b = some o -> h'.get? b = some o) -> tn i h'
 item : ∀ (X : Cx), X.prog = P -> X.w = w -> X.K = K -> X.calm = true -> ∀ (i : Nat) (pins : List y0.p) (s : Shared) (σ : St) (H : Hp) (E : Value -> Shared -> Prop), Inv X pins σ H s -> (∀ b ∈ fp, kJ X pins H b) -> tn i s.heap -> J.go i H →
   wpAny (model P w) X.A (pyNext (.ref it)) (fun r s1 => ∃ u, r = some u ∧
     wpAny (model P w) X.A (letOwnedTupleGo tg (.ref it) u) (fun _ s2 => ∃ x H', Inv X pins σ H' s2 /\ RelV x u /\ J.yld i H x H' /\ tn (i + 1) s2.heap /\ ∀ b ∈ fp, H' b = none) E s1) E s
 done : ∀ (X : Cx), X.prog = P -> X.w = w -> X.K = K -> X.calm = true -> ∀ (i : Nat) (pins : List y0.p) (s : Shared) (σ : St) (H : Hp) (E : Value -> Shared -> Prop), Inv X pins σ H s -> (∀ b ∈ fp, kJ X pins H b) -> tn i s.heap -> J.stop i H →
   wpAny (model P w) X.A (pyNext (.ref it)) (fun r s1 => r = none /\ Inv X pins σ H s1) E s
 self : ∀ (A : Around) (i : Nat) (s : Shared) (Q : Value -> Shared -> Prop) (E : Value -> Shared -> Prop), tn i s.heap -> Q (.ref it) s -> wpAny (model P w) A (pyIter (.ref it)) Q E s
abbrev TI := St -> Hp -> (It -> Hp -> Prop) -> Prop
def PIE (X : Cx) (pins : List (Addr × Obj)) (σ : St) (tg : Expr) (R : It -> Hp -> Prop) (itv : Value) (s2 : Shared) : Prop :=
 ∃ (it : Addr) (fp : List Addr) (tn : Nat -> Heap -> Prop) (J : It) (H' : Hp), itv = .ref it /\ Inv X pins σ H' s2 /\ Turn X.prog X.w X.K tg J fp it tn /\ tn 0 s2.heap /\ (∀ b ∈ fp, kJ X pins H' b) /\ R J H'
def PI (X : Cx) (tg iter : Expr) (wi : TI) : Prop :=
 ∀ (pins : List y0.p) (s : Shared) (σ : St) (H : Hp) (R : It -> Hp -> Prop), Inv X pins σ H s -> wi σ H R →
   wpAny y0.d X.A (eval iter X.env) (fun v s1 => wpAny y0.d X.A (pyIter v) (PIE X pins σ tg R) X.xe s1) X.xe s
theorem R8 {M : Model} {A : Around} {E : Value -> Shared -> Prop} {s : Shared} {tg : Expr} {it : Addr} {u : Value} {o : Obj} {n : String} {vs : Array Value} {Q : Unit -> Shared -> Prop} (ho : s.heap.get? it = some o) (hc : o.cls = .type n) (hd : o.data = .fields vs)
   (hn : ["enumerate", "zip", "dict_itemiterator", "dict_reverseitemiterator", "odict_iterator", "itertools.zip_longest", "itertools.pairwise"].contains n = false) (hQ : Q () s) : wpAny M A (letOwnedTupleGo tg (.ref it) u) Q E s := by
 unfold letOwnedTupleGo
 cases tg <;> first
   | exact amW hQ
   | (cases u <;> first
       | exact amW hQ
       | (refine ams (wpAny_load ho ?_)
          rw [hc, hd]
          show wpAny M A (if (["enumerate", "zip", "dict_itemiterator", "dict_reverseitemiterator", "odict_iterator", "itertools.zip_longest", "itertools.pairwise"].contains n && vs[0]? == some (rawInt _)) = true then _ else _) Q E s
          rw [amg (by intro h; rw [hn, Bool.false_and] at h; cases h)]
          exact amW hQ))
def Itl (K : PySem.W.Frag) (a : Addr) : It :=
 ⟨fun i H => ∃ xs x, qk K H a xs /\ xs[i]? = some x, fun i H x H' => H' = H /\ ∀ xs, qk K H a xs -> xs[i]? = some x, fun i H => ∃ xs, qk K H a xs /\ xs.length <= i⟩
def Itt (K : PySem.W.Frag) (a : Addr) : It :=
 ⟨fun i H => ∃ xs x, uM K H a xs /\ xs[i]? = some x, fun i H x H' => H' = H /\ ∀ xs, uM K H a xs -> xs[i]? = some x, fun i H => ∃ xs, uM K H a xs /\ xs.length <= i⟩
def Itr (lo : Int) (n : Nat) : It := ⟨fun i _ => i < n, fun i H x H' => H' = H /\ x = .int (lo + i), fun i _ => n <= i⟩
theorem O7 {P : Program} {w : World} {K : PySem.W.Frag} {tg : Expr} (a it : Addr) : Turn P w K tg (Itl K a) [it] it (fun i h => h.IsListIter it a i) where
 mem := by simp
 obj := fun i h st b hb => by
   have e : b = it := by simpa using hb
   subst e
   obtain ⟨o, e, c, d⟩ := st
   exact ⟨o, e, fun v z => by rw [d] at z; cases z⟩
 keep := fun i h h' st k => st.at fun o e => k it y0.C o e
 item := by
   intro X hP hw hK hc i pins s σ H E I hf st hg
   subst hP hw hK
   obtain ⟨xs, x, hq, hx⟩ := hg
   obtain ⟨its, rv, p, hz⟩ := I.list hq
   obtain ⟨u, hu, ru⟩ := rv.get hx
   obtain ⟨f0, f1, f2, f3, f4, f5⟩ := hf it y0.C
   refine wpAny_pyNext_list_item st p.isList (x := u) (by simpa using hu) fun h' Ks sb => ?_
   have I1 : Inv X pins σ H { s with heap := h' } := I.turned (t' := s.toks) (fun b o hb e => (sb.2 b hb).trans e) f0 f1 f3 f4 f5
   obtain ⟨o, e, c, d⟩ := id Ks
   exact ⟨u, rfl, R8 (s := { s with heap := h' }) e c d y0.g ⟨x, H, I1, ru, ⟨rfl, fun ys hy => by rw [I.Hj hy hq]; exact hx⟩, Ks, fun b hb => (hf b hb).1⟩⟩
 done := by
   intro X hP hw hK hc i pins s σ H E I hf st hg
   subst hP hw hK
   obtain ⟨xs, hq, hx⟩ := hg
   obtain ⟨its, rv, p, hz⟩ := I.list hq
   obtain ⟨f0, f1, f2, f3, f4, f5⟩ := hf it y0.C
   have hl := rv.length
   exact wpAny_pyNext_list_end (I.ok.hd hc) st p.isList y0.O fun h' eb => ⟨rfl, I.turned (t' := s.toks) (fun b o hb e => eb b o hb e) f0 f1 f3 f4 f5⟩
 self := fun _ _ _ _ _ st h => wpAny_pyIter_listiter st h
theorem Ku {P : Program} {w : World} {K : PySem.W.Frag} {tg : Expr} (a it : Addr) : Turn P w K tg (Itt K a) [it] it (fun i h => h.IsTupleIter it a i) where
 mem := by simp
 obj := fun i h st b hb => by
   have e : b = it := by simpa using hb
   subst e
   obtain ⟨o, e, c, d⟩ := st
   exact ⟨o, e, fun v z => by rw [d] at z; cases z⟩
 keep := fun i h h' st k => st.at fun o e => k it y0.C o e
 item := by
   intro X hP hw hK hc i pins s σ H E I hf st hg
   subst hP hw hK
   obtain ⟨xs, x, hq, hx⟩ := hg
   obtain ⟨its, rv, p, hz⟩ := I.tuple hq
   obtain ⟨u, hu, ru⟩ := rv.get hx
   obtain ⟨f0, f1, f2, f3, f4, f5⟩ := hf it y0.C
   refine wpAny_pyNext_tuple_item st (show s.heap.IsTuple a its.toArray from p) (x := u) (by simpa using hu) fun h' Ks sb => ?_
   have I1 : Inv X pins σ H { s with heap := h' } := I.turned (t' := s.toks) (fun b o hb e => (sb.2 b hb).trans e) f0 f1 f3 f4 f5
   obtain ⟨o, e, c, d⟩ := id Ks
   exact ⟨u, rfl, R8 (s := { s with heap := h' }) e c d y0.g ⟨x, H, I1, ru, ⟨rfl, fun ys hy => by rw [I.O6 hy hq]; exact hx⟩, Ks, fun b hb => (hf b hb).1⟩⟩
 done := by
   intro X hP hw hK hc i pins s σ H E I hf st hg
   subst hP hw hK
   obtain ⟨xs, hq, hx⟩ := hg
   obtain ⟨its, rv, p, hz⟩ := I.tuple hq
   obtain ⟨f0, f1, f2, f3, f4, f5⟩ := hf it y0.C
   have hl := rv.length
   exact wpAny_pyNext_tuple_end (I.ok.hd hc) st (show s.heap.IsTuple a its.toArray from p) y0.O fun h' eb => ⟨rfl, I.turned (t' := s.toks) (fun b o hb e => eb b o hb e) f0 f1 f3 f4 f5⟩
 self := fun _ _ _ _ _ st h => wpAny_pyIter_tupleiter st h
theorem Kv {P : Program} {w : World} {K : PySem.W.Frag} {tg : Expr} (it : Addr) (lo : Int) (n : Nat) : Turn P w K tg (Itr lo n) [it] it (fun i h => IsRangeIter h it (lo + (i : Nat) * 1) ((n : Int) - (i : Nat)) 1) where
 mem := by simp
 obj := fun i h st b hb => by
   have e : b = it := by simpa using hb
   subst e
   exact ⟨_, st, fun v z => by
     have z' : Data.fields _ = Data.cell v := z
     cases z'⟩
 keep := fun i h h' st k => k it y0.C _ st
 item := by
   intro X hP hw hK hc i pins s σ H E I hf st hg
   subst hP hw hK
   obtain ⟨f0, f1, f2, f3, f4, f5⟩ := hf it y0.C
   have W := Walks.range (prog := X.prog) (w := X.w) (I.ok.hd hc) it lo 1 n
   refine W.item i s _ _ hg st fun v h' tk hv Ks kk => ?_
   obtain ⟨t, rfl⟩ := hv
   have I1 : Inv X pins σ H { s with heap := h', toks := tk } := I.turned (fun b o hb e => kk b o (by simpa using hb) e) f0 f1 f3 f4 f5
   refine ⟨_, rfl, R8 (s := { s with heap := h', toks := tk }) (n := "range_iterator") Ks rfl rfl y0.g ⟨.int (lo + i), H, I1, ⟨t, ?_⟩, ⟨rfl, rfl⟩, Ks, fun b hb => (hf b hb).1⟩⟩
   rw [Int.mul_one]
 done := by
   intro X hP hw hK hc i pins s σ H E I hf st hg
   subst hP hw hK
   obtain ⟨f0, f1, f2, f3, f4, f5⟩ := hf it y0.C
   exact wpAny_pyNext_range_end (I.ok.hd hc) st (by have : n <= i := hg; omega) fun h' eb => ⟨rfl, I.turned (t' := s.toks) (fun b o hb e => eb b o hb e) f0 f1 f3 f4 f5⟩
 self := fun _ _ _ _ _ st h => wpAny_pyIter_rangeiter st h
section
variable {X : Cx} {tg : Expr}
def aeT (K : PySem.W.Frag) (tl : TE) : TI := fun σ H R => tl σ H fun x H1 => ∃ a, x = .ref a /\ (∃ xs, qk K H1 a xs) /\ R (Itl K a) H1
def ahu (K : PySem.W.Frag) (tl : TE) : TI := fun σ H R => tl σ H fun x H1 => ∃ a, x = .ref a /\ (∃ xs, uM K H1 a xs) /\ R (Itt K a) H1
theorem WB {l : Expr} {tl : TE} (hl : PE X l tl) : PI X tg l (aeT X.K tl) := by
 intro pins s σ H R I h
 refine fu (hl pins s σ H _ I h) fun v s1 zz => ?_
 obtain ⟨x, H1, I1, r1, q1⟩ := zz
 obtain ⟨a, e, ⟨xs, hq⟩, q⟩ := q1
 subst e
 cases r1
 obtain ⟨its, rv, p, hz⟩ := I1.list hq
 refine wpAny_pyIter_list p.isList ?_
 refine ⟨s1.heap.objs.size, [s1.heap.objs.size], _, _, H1, rfl, I1.kept (t' := s1.toks) fun b o e => amy _ e, O7 a _, ⟨_, amY _ rfl, rfl, rfl⟩, fun b hb => ?_, q⟩
 have e : b = s1.heap.objs.size := by simpa using hb
 subst e
 exact I1.El (amo _) (I1.dM.fresh (amo _))
theorem abj {l : Expr} {tl : TE} (hl : PE X l tl) : PI X tg l (ahu X.K tl) := by
 intro pins s σ H R I h
 refine fu (hl pins s σ H _ I h) fun v s1 zz => ?_
 obtain ⟨x, H1, I1, r1, q1⟩ := zz
 obtain ⟨a, e, ⟨xs, hq⟩, q⟩ := q1
 subst e
 cases r1
 obtain ⟨its, rv, p, hz⟩ := I1.tuple hq
 refine wpAny_pyIter_tuple (show s1.heap.IsTuple a its.toArray from p) ?_
 refine ⟨s1.heap.objs.size, [s1.heap.objs.size], _, _, H1, rfl, I1.kept (t' := s1.toks) fun b o e => amy _ e, Ku a _, ⟨_, amY _ rfl, rfl, rfl⟩, fun b hb => ?_, q⟩
 have e : b = s1.heap.objs.size := by simpa using hb
 subst e
 exact I1.El (amo _) (I1.dM.fresh (amo _))
theorem Hq {pins : List (Addr × Obj)} {σ : St} {H : Hp} {s : Shared} {R : It -> Hp -> Prop} {E : Value -> Shared -> Prop} {lo hi : Int} {t u v : Tok} {tk : Nat} (I : Inv X pins σ H s) (h1 : -(2 ^ 62) <= lo) (h2 : lo < 2 ^ 62) (h3 : -(2 ^ 62) <= hi) (h4 : hi < 2 ^ 62)
   (q : R (Itr lo (hi - lo).toNat) H) : wpAny y0.d X.A (pyIter y0.aI) (PIE X pins σ tg R) E { s with heap := s.heap.push { cls := .type "range", data := .fields #[.int lo t, .int hi u, .int 1 v] }, toks := tk } := by
 refine wpAny_pyIter_range (IsRange.new ..) (small_one h1 h2 h3 h4) ?_
 have I1 : Inv X pins σ H { s with heap := s.heap.push { cls := .type "range", data := .fields #[.int lo t, .int hi u, .int 1 v] }, toks := tk } := I.kept fun b o e => amy _ e
 refine ⟨(s.heap.push { cls := .type "range", data := .fields #[.int lo t, .int hi u, .int 1 v] }).objs.size, [(s.heap.push { cls := .type "range", data := .fields #[.int lo t, .int hi u, .int 1 v] }).objs.size], _, _, H, rfl,
   I1.kept (t' := tk) fun b o e => amy _ e, Kv _ lo (hi - lo).toNat, ?_, fun b hb => ?_, q⟩
 . have e1 : lo + ((0 : Nat) : Int) * 1 = lo := by simp
   have e2 : (((hi - lo).toNat : Nat) : Int) - ((0 : Nat) : Int) = Builtin.Range.rangeSize lo hi 1 := by rw [rangeSize_one]; split <;> omega
   show IsRangeIter _ _ (lo + ((0 : Nat) : Int) * 1) ((((hi - lo).toNat : Nat) : Int) - ((0 : Nat) : Int)) 1
   rw [e1, e2]
   exact amY _ rfl
 . have e : b = (s.heap.push { cls := .type "range", data := .fields #[.int lo t, .int hi u, .int 1 v] }).objs.size := by simpa using hb
   subst e
   exact I1.El (amo _) (I1.dM.fresh (amo _))
def aeU (ta : TA) : TI := fun σ H R => ta σ H fun vs H1 => ∃ j : Int, vs = [.int j] /\ -(2 ^ 62) <= j /\ j < 2 ^ 62 /\ R (Itr 0 j.toNat) H1
def aeV (ta : TA) : TI := fun σ H R => ta σ H fun vs H1 => ∃ i j : Int, vs = [.int i, .int j] /\ (-(2 ^ 62) <= i /\ i < 2 ^ 62 /\ -(2 ^ 62) <= j /\ j < 2 ^ 62) /\ R (Itr i (j - i).toNat) H1
theorem O8 {a : Expr} {ta : TA} {p pos : Pos} (hg : Gl X "range") (hm : X.mg "range" = none) (ha : PA X [a] ta) (hs : starEach [a] X.env = [(false, eval a X.env)] := by rfl) : PI X tg (.Call (.Name "range" p) [a] [] pos) (aeU ta) := by
 intro pins s σ H R I h
 refine Call_ (tS I hg hm boot_range (anV (fu y0.ax fun us s1 zz => ?_) hs rfl))
 obtain ⟨vs, H1, I1, r1, q1⟩ := zz
 obtain ⟨j, e, q1, q2, q⟩ := q1
 subst e
 cases r1 with
 | cons r rr =>
   cases rr
   obtain ⟨t, rfl⟩ := r
   exact call_range_1 (Hq I1 y0.b y0.b q1 q2 (by simpa using q))
theorem O9 {a b : Expr} {ta : TA} {p pos : Pos} (hg : Gl X "range") (hm : X.mg "range" = none) (ha : PA X [a, b] ta) (hs : starEach [a, b] X.env = [(false, eval a X.env), (false, eval b X.env)] := by rfl) (Pa : starEach [b] X.env = [(false, eval b X.env)] := by rfl) :
   PI X tg (.Call (.Name "range" p) [a, b] [] pos) (aeV ta) := by
 intro pins s σ H R I h
 refine Call_ (tS I hg hm boot_range (anV (fu y0.ax fun us s1 zz => ?_) (by rw [hs, Pa]) (by rw [Pa]; rfl)))
 obtain ⟨vs, H1, I1, r1, q1⟩ := zz
 obtain ⟨i, j, e, ⟨q1, q2, q3, q4⟩, q⟩ := q1
 subst e
 cases r1 with
 | cons r rr =>
   cases rr with
   | cons r' rr =>
     cases rr
     obtain ⟨t, rfl⟩ := r
     obtain ⟨t', rfl⟩ := r'
     exact call_range_2 (Hq I1 q1 q2 q3 q4 q)
def ahv (wi : TI) (g : TG) (tb : TS) : TS := fun D σ H => wi σ H fun J H1 => ∃ W : Nat -> Nat -> St -> Hp -> Prop, (∃ m, W 0 m σ H1) /\ ∀ i m σ H, W i m σ H →
 (J.stop i H /\ D.nx σ H) \/ (J.go i H /\ ∃ N : St -> Hp -> Prop, (∀ σ' H', N σ' H' -> ∃ m', m' < m /\ W (i + 1) m' σ' H') /\ ∀ x H', J.yld i H x H' -> g x σ H' fun σ2 H2 => tb { D with nx := N, ct := N, bk := D.nx } σ2 H2)
def zI (fp : List Addr) (h : Heap) : List (Addr × Obj) := fp.filterMap fun b => (h.get? b).map fun o => (b, o)
theorem jr {fp : List Addr} {h : Heap} {b : Addr} {o : Obj} (hb : b ∈ fp) (e : h.get? b = some o) : (b, o) ∈ zI fp h := aoo.mpr ⟨b, hb, by rw [e]; rfl⟩
theorem Pb {fp : List Addr} {h : Heap} {p : Addr × Obj} (hp : p ∈ zI fp h) : p.1 ∈ fp /\ h.get? p.1 = some p.2 := by
 obtain ⟨b, hb, e⟩ := aoo.mp hp
 cases q : h.get? b with
 | none => rw [q] at e; cases e
 | some o =>
   rw [q] at e
   have e' : (b, o) = p := amK e
   subst e'
   exact ⟨hb, q⟩
theorem Inv.pinned {pins : List (Addr × Obj)} {σ : St} {H : Hp} {s : Shared} {fp : List Addr} (I : Inv X pins σ H s) (hf : ∀ b ∈ fp, kJ X pins H b) (ho : ∀ b ∈ fp, ∃ o, s.heap.get? b = some o /\ ∀ v, o.data ≠ .cell v) : Inv X (pins ++ zI fp s.heap) σ H s :=
 I.yP fun p hp => (amx.mp hp).elim (fun z => I.pin p (ami _ z)) fun z => by
   obtain ⟨hb, e⟩ := Pb z
   obtain ⟨f0, f1, f2, _⟩ := hf p.1 hb
   obtain ⟨o, e', d⟩ := ho p.1 hb
   rw [e] at e'; cases e'
   exact ⟨e, f0, f1, f2, d⟩
theorem Inv.qu {pins pl : List (Addr × Obj)} {σ : St} {H : Hp} {s : Shared} (I : Inv X (pins ++ pl) σ H s) : Inv X pins σ H s := I.yP fun p hp => I.pin p (ami _ (amw _ hp))
theorem R9 {iter : Expr} {body : List Stmt} {wi : TI} {g : TG} {tb : TS} {pos : Pos} (hp : PassesOwn (model X.prog X.w) X.A X.env X.xe) (hc : X.calm = true) (hi : PI X tg iter wi) (hg : PG X tg g) (hb : Kr X body tb)
   (hs : ∀ x, foldedSetIterable iter X.env x = pure x := by intro _; rfl) : PS X (.For tg iter body [] pos) (ahv wi g tb) := by
 intro pins s σ H D I h
 refine wpAny_For (fu (hi pins s σ H _ I h) fun v s1 h1 => fu h1 fun itv s2 h2 => ?_) hs
 obtain ⟨it, fp, tn, J, H2, e, I2, T, st2, f2, W, ⟨m0, w0⟩, turn⟩ := h2
 subst e
 have stat : ∀ {H' : Hp}, (∀ b ∈ fp, H' b = none) -> ∀ b ∈ fp, kJ X pins H' b := fun hn b hb => ⟨hn b hb, (f2 b hb).2⟩
 refine codeAny_forLoop_any (fun n s' => ∃ i σ' H', Inv X pins σ' H' s' /\ tn i s'.heap /\ (∀ b ∈ fp, H' b = none) /\ W i n σ' H') ?_ m0 ⟨0, σ, H2, I2, st2, fun b hb => (f2 b hb).1, w0⟩
 rintro n s3 ⟨i, σ3, H3, I3, st3, fr3, w3⟩
 rcases turn i n σ3 H3 w3 with ⟨stop, qn⟩ | ⟨go, N, hN, step⟩
 . refine anW hp (fu (T.done X rfl rfl rfl hc i pins s3 σ3 H3 X.xe I3 (stat fr3) st3 stop) fun r s4 zz => ?_)
   obtain ⟨hr, I4⟩ := zz
   subst hr
   exact wpAny_execs_nil ⟨σ3, H3, I4, qn⟩
 . refine anW hp (fu (T.item X rfl rfl rfl hc i pins s3 σ3 H3 X.xe I3 (stat fr3) st3 go) fun r s4 zz => ?_)
   obtain ⟨u, hr, h4⟩ := zz
   subst hr
   refine anW hp (fu h4 fun _ s5 zz => ?_)
   obtain ⟨x, H5, I5, r5, y5, st5, fr5⟩ := zz
   have I5' := I5.pinned (stat fr5) (T.obj _ _ st5)
   refine anW hp (fu (hg _ s5 σ3 H5 x u _ I5' r5 (step x H5 y5)) fun _ s6 zz => ?_)
   obtain ⟨σ6, H6, I6, q6⟩ := zz
   refine anW hp (fu (hb _ s6 σ6 H6 _ I6 q6) fun f s7 q7 => ?_)
   have again : ∀ {σ7 : St} {H7 : Hp}, Inv X (pins ++ zI fp s5.heap) σ7 H7 s7 -> N σ7 H7 -> ∃ m, m < n /\ ∃ i σ' H', Inv X pins σ' H' s7 /\ tn i s7.heap /\ (∀ b ∈ fp, H' b = none) /\ W i m σ' H' := fun {σ7 H7} I7 n7 => by
     obtain ⟨m', hm, w7⟩ := hN σ7 H7 n7
     refine ⟨m', hm, i + 1, σ7, H7, I7.qu, T.keep _ _ _ st5 fun b hb o e => (I7.pin (b, o) (ami _ (ami _ (jr hb e)))).1, fun b hb => ?_, w7⟩
     obtain ⟨o, e, d⟩ := T.obj _ _ st5 b hb
     exact (I7.pin (b, o) (ami _ (ami _ (jr hb e)))).2.1
   cases f with
   | next => obtain ⟨σ7, H7, I7, n7⟩ := q7; exact again I7 n7
   | cont => obtain ⟨σ7, H7, I7, n7⟩ := q7; exact again I7 n7
   | brk => obtain ⟨σ7, H7, I7, q7⟩ := q7; exact ⟨σ7, H7, I7.qu, q7⟩
   | ret v => obtain ⟨x7, σ7, H7, I7, r7, q7⟩ := q7; exact ⟨x7, σ7, H7, I7.qu, r7, q7⟩
end
abbrev R2 := V -> V -> Hp -> VK -> Prop
def yJ (X : Cx) (f : Value -> Value -> Sem Value) (r : R2) : Prop :=
 ∀ (pins : List y0.p) (s : Shared) (σ : St) (H : Hp) (x y : V) (v u : Value) (Q : VK), Inv X pins σ H s -> RelV x v -> RelV y u -> r x y H Q →
   wpAny y0.d X.A (f v u) y0.af X.xe s
def UnR (X : Cx) (f : Value -> Sem Value) (r : V -> Hp -> VK -> Prop) : Prop :=
 ∀ (pins : List y0.p) (s : Shared) (σ : St) (H : Hp) (x : V) (v : Value) (Q : VK), Inv X pins σ H s -> RelV x v -> r x H Q →
   wpAny y0.d X.A (f v) y0.af X.xe s
def kU (X : Cx) (f : Value) (r : List V -> Hp -> VK -> Prop) : Prop :=
 ∀ (pins : List y0.p) (s : Shared) (σ : St) (H : Hp) (xs : List V) (us : List Value) (Q : VK), Inv X pins σ H s -> Vals xs us -> r xs H Q →
   wpAny y0.d X.A (call f us) y0.af X.xe s
def ahx (X : Cx) (r : V -> Hp -> (Bool -> Hp -> Prop) -> Prop) : Prop :=
 ∀ (pins : List y0.p) (s : Shared) (σ : St) (H : Hp) (x : V) (v : Value) (Q : Bool -> Hp -> Prop), Inv X pins σ H s -> RelV x v -> r x H Q →
   wpAny y0.d X.A (truthy v) (TP X pins σ Q) X.xe s
def tOp (r : R2) (ta tb : TE) : TE := fun σ H Q => ta σ H fun x H1 => tb σ H1 fun y H2 => r x y H2 Q
def tUn (r : V -> Hp -> VK -> Prop) (ta : TE) : TE := fun σ H Q => ta σ H fun x H1 => r x H1 Q
def rI (C : Int -> Int -> Prop) (g : Int -> Int -> V) : R2 := fun x y H Q => ∃ i j, x = .int i /\ y = .int j /\ C i j /\ Q (g i j) H
def rI0 (g : Int -> Int -> V) : R2 := fun x y H Q => ∃ i j, x = .int i /\ y = .int j /\ Q (g i j) H
def rU (g : Int -> V) : V -> Hp -> VK -> Prop := fun x H Q => ∃ i, x = .int i /\ Q (g i) H
section
variable {X : Cx} {a b c : Expr} {ta tb tc : TE} {pos : Pos}
theorem abk (ha : PE X a ta) (hb : PE X b tb) {pins : List (Addr × Obj)} {s : Shared} {σ : St} {H : Hp} {R : V -> V -> Hp -> Prop} (I : Inv X pins σ H s)
   (h : ta σ H fun x H1 => tb σ H1 fun y H2 => R x y H2) {Q : Value -> Shared -> Prop} {f : Value -> Value -> Sem Value}
   (hf : ∀ v u s2 x y H2, Inv X pins σ H2 s2 -> RelV x v -> RelV y u -> R x y H2 -> wpAny y0.d X.A (f v u) Q X.xe s2) :
   wpAny y0.d X.A (eval a X.env) (fun v s₁ => wpAny y0.d X.A (eval b X.env) (fun u s₂ => wpAny y0.d X.A (f v u) Q X.xe s₂) X.xe s₁) X.xe s := by
 refine fu y0.al fun v s1 zz => ?_
 obtain ⟨x, H1, I1, r1, q1⟩ := zz
 refine fu (hb pins s1 σ H1 _ I1 q1) fun u s2 zz => ?_
 obtain ⟨y, H2, I2, r2, q2⟩ := zz
 exact hf v u s2 x y H2 I2 r1 r2 q2
theorem zJ {op : Operator} {r : R2} (ho : yJ X (binaryOp op) r) (ha : PE X a ta) (hb : PE X b tb) : PE X (.BinOp a op b pos) (tOp r ta tb) := by
 intro pins s σ H Q I h
 exact wpAny_BinOp y0.bD
theorem aeX {op : UnaryOp} {r : V -> Hp -> VK -> Prop} (ho : UnR X (unaryOp op) r) (ha : PE X a ta) : PE X (.UnaryOp op a pos) (tUn r ta) := by
 intro pins s σ H Q I h
 exact UnaryOp_ (fu y0.al fun v s1 ⟨x, H1, I1, r1, q1⟩ => ho pins s1 σ H1 x v Q I1 r1 q1)
theorem opI {f : Value -> Value -> Sem Value} {C : Int -> Int -> Prop} {g : Int -> Int -> Int}
   (rule : ∀ (i j : Int) (t u : Tok) (s : Shared) (Q : Value -> Shared -> Prop) (E : Value -> Shared -> Prop), C i j -> Q (.int (g i j) s.toks) { s with toks := s.toks + 1 } -> wpAny y0.d X.A (f (.int i t) (.int j u)) Q E s) :
   yJ X f (rI C fun i j => .int (g i j)) := by
 intro pins s σ H x y v u Q I rx ry h
 obtain ⟨i, j, rfl, rfl, hc, q⟩ := h
 obtain ⟨t, rfl⟩ := rx
 obtain ⟨t', rfl⟩ := ry
 exact rule i j t t' s _ _ hc ⟨.int (g i j), H, I.tok _, ⟨_, rfl⟩, q⟩
theorem aeY {f : Value -> Value -> Sem Value} {g : Int -> Int -> Int}
   (rule : ∀ (i j : Int) (t u : Tok) (s : Shared) (Q : Value -> Shared -> Prop) (E : Value -> Shared -> Prop), Q (.int (g i j) s.toks) { s with toks := s.toks + 1 } -> wpAny y0.d X.A (f (.int i t) (.int j u)) Q E s) :
   yJ X f (rI0 fun i j => .int (g i j)) := by
 intro pins s σ H x y v u Q I rx ry h
 obtain ⟨i, j, rfl, rfl, q⟩ := h
 obtain ⟨t, rfl⟩ := rx
 obtain ⟨t', rfl⟩ := ry
 exact rule i j t t' s _ _ ⟨.int (g i j), H, I.tok _, ⟨_, rfl⟩, q⟩
theorem aeZ {f : Value -> Value -> Sem Value} {g : Int -> Int -> Bool}
   (rule : ∀ (i j : Int) (t u : Tok) (s : Shared) (Q : Value -> Shared -> Prop) (E : Value -> Shared -> Prop), Q (.bool (g i j)) s -> wpAny y0.d X.A (f (.int i t) (.int j u)) Q E s) :
   yJ X f (rI0 fun i j => .bl (g i j)) := by
 intro pins s σ H x y v u Q I rx ry h
 obtain ⟨i, j, rfl, rfl, q⟩ := h
 obtain ⟨t, rfl⟩ := rx
 obtain ⟨t', rfl⟩ := ry
 exact rule i j t t' s _ _ ⟨.bl (g i j), H, I, rfl, q⟩
def ae0 (i j : Int) : Prop := 0 < j /\ j < 1073741824
def ae1 (i j : Int) : Prop := 0 <= j /\ j <= 1000000 /\ i.natAbs < 2 ^ 64
def WC (i j : Int) : Prop := (-(2 ^ 64) < i /\ i < 2 ^ 64) \/ (-(2 ^ 64) < j /\ j < 2 ^ 64)
theorem WC.ok {i j : Int} (h : WC i j) : IntMulOk i j := by
 rcases h with ⟨h1, h2⟩ | ⟨h1, h2⟩
 . exact .of_left (intBits_le_64 h1 h2)
 . exact .of_right (intBits_le_64 h1 h2)
theorem abl : yJ X (binaryOp .Add) (rI0 fun i j => .int (i + j)) := aeY fun _ _ _ _ _ _ _ q => add_int q
theorem abm : yJ X (binaryOp .Sub) (rI0 fun i j => .int (i - j)) := aeY fun _ _ _ _ _ _ _ q => sub_int q
theorem abn : yJ X (binaryOp .Mult) (rI WC fun i j => .int (i * j)) := opI fun _ _ _ _ _ _ _ hc q => mul_int q hc.ok
theorem WD : yJ X (binaryOp .FloorDiv) (rI ae0 fun i j => .int (i / j)) := opI fun i j _ _ _ _ _ hc q => by
 have h1 : (0 : Int) < j := hc.1
 have h2 : j < 1073741824 := hc.2
 exact floordiv_int y0.b (by rw [Int.fdiv_eq_ediv_of_nonneg i y0.b]; exact q) (.inl (PyProof.noPylong_small y0.b))
theorem abo : yJ X (binaryOp .Mod) (rI (fun _ j => 0 < j) fun i j => .int (i % j)) := opI fun i j _ _ _ _ _ hc q => by
 have h1 : (0 : Int) < j := hc
 exact mod_int' y0.b (by rw [Int.fmod_eq_emod_of_nonneg i y0.b]; exact q)
theorem abp : yJ X (binaryOp .Pow) (rI ae1 fun i j => .int (i ^ j.toNat)) := opI fun _ _ _ _ _ _ _ hc q => pow_int_small hc.1 hc.2.1 hc.2.2 q
theorem unI {f : Value -> Sem Value} {g : Int -> Int}
   (rule : ∀ (i : Int) (t : Tok) (s : Shared) (Q : Value -> Shared -> Prop) (E : Value -> Shared -> Prop), Q (.int (g i) s.toks) { s with toks := s.toks + 1 } -> wpAny y0.d X.A (f (.int i t)) Q E s) :
   UnR X f (rU fun i => .int (g i)) := by
 intro pins s σ H x v Q I rx h
 obtain ⟨i, rfl, q⟩ := h
 obtain ⟨t, rfl⟩ := rx
 exact rule i t s _ _ ⟨.int (g i), H, I.tok _, ⟨_, rfl⟩, q⟩
theorem abq : UnR X (unaryOp .USub) (rU fun i => .int (-i)) := unI fun _ _ _ _ _ q => neg_int q
end
def ae2 : V -> V -> Bool
 | .non, .non => true | .non, .int _ => true | .int _, .non => true | .non, .bl _ => true | .bl _, .non => true | .non, .str _ => true | .str _, .non => true
 | .int _, .int _ => true | .bl _, .bl _ => true | .str _, .str _ => true | .Nu _, .Nu _ => true
 | .int _, .str _ => true | .str _, .int _ => true | .bl _, .str _ => true | .str _, .bl _ => true
 | _, _ => false
def rEq : R2 := fun x y H Q => ae2 x y = true /\ Q (.bl (decide (x = y))) H
def rNe : R2 := fun x y H Q => ae2 x y = true /\ Q (.bl (!decide (x = y))) H
theorem NB {i j : Int} : decide (V.int i = V.int j) = (i == j) := by
 rw [Bool.eq_iff_iff]
 simp
theorem Sb {i j : Bool} : decide (V.bl i = V.bl j) = (i == j) := by
 rw [Bool.eq_iff_iff]
 simp
theorem NC {i j : Str} : decide (V.str i = V.str j) = (i == j) := by
 rw [Bool.eq_iff_iff]
 simp
theorem NF {i j : Array UInt8} : decide (V.Nu i = V.Nu j) = (i.toList == j.toList) := by
 rw [Bool.eq_iff_iff]
 cases i
 cases j
 simp
section
variable {X : Cx} {a b c : Expr} {ta tb tc : TE} {pos : Pos}
theorem di {pins : List (Addr × Obj)} {σ : St} {H : Hp} {s : Shared} {Q : VK} {k k' : Bool} (I : Inv X pins σ H s) (q : Q (.bl k) H) (e : k = k') : EP X pins σ Q (.bool k') s := by
 subst e
 exact ⟨.bl k, H, I, rfl, q⟩
theorem aam : yJ X (compareOp .Eq) rEq := by
 intro pins s σ H x y v u Q I rx ry h
 obtain ⟨hs, q⟩ := h
 cases x with
 | non =>
   cases rx
   cases y with
   | non => cases ry; exact PySem.EqNone.eq_none_none y0.y
   | bl j => cases ry; exact PySem.EqNone.eq_none_bool y0.y
   | int j => obtain ⟨t', rfl⟩ := ry; exact PySem.EqNone.eq_none_int y0.y
   | str j => obtain ⟨t', rfl⟩ := ry; exact PySem.EqNone.eq_none_str y0.y
   | _ => exact absurd y0.E amE
 | bl i =>
   cases rx
   cases y with
   | non => cases ry; exact PySem.EqNone.eq_bool_none y0.y
   | bl j => cases ry; exact eq_bool (di I q Sb)
   | str j => obtain ⟨t', rfl⟩ := ry; exact PySem.EqMixed.eq_bool_str y0.y
   | _ => exact absurd y0.E amE
 | int i =>
   obtain ⟨t, rfl⟩ := rx
   cases y with
   | non => cases ry; exact PySem.EqNone.eq_int_none y0.y
   | int j => obtain ⟨t', rfl⟩ := ry; exact eq_int (di I q NB)
   | str j => obtain ⟨t', rfl⟩ := ry; exact PySem.EqMixed.eq_int_str y0.y
   | _ => exact absurd y0.E amE
 | str i =>
   obtain ⟨t, rfl⟩ := rx
   cases y with
   | non => cases ry; exact PySem.EqNone.eq_str_none y0.y
   | bl j => cases ry; exact PySem.EqMixed.eq_str_bool y0.y
   | int j => obtain ⟨t', rfl⟩ := ry; exact PySem.EqMixed.eq_str_int y0.y
   | str j => obtain ⟨t', rfl⟩ := ry; exact eq_str (di I q NC)
   | _ => exact absurd y0.E amE
 | Nu i =>
   obtain ⟨t, rfl⟩ := rx
   cases y with
   | Nu j => obtain ⟨t', rfl⟩ := ry; exact PySem.W.eq_bytes (di I q NF)
   | _ => exact absurd y0.E amE
 | _ => cases y <;> exact absurd y0.E amE
theorem aan : yJ X (compareOp .NotEq) rNe := by
 intro pins s σ H x y v u Q I rx ry h
 obtain ⟨hs, q⟩ := h
 cases x with
 | non =>
   cases rx
   cases y with
   | non => cases ry; exact PySem.EqNone.ne_none_none y0.y
   | bl j => cases ry; exact PySem.EqNone.ne_none_bool y0.y
   | int j => obtain ⟨t', rfl⟩ := ry; exact PySem.EqNone.ne_none_int y0.y
   | str j => obtain ⟨t', rfl⟩ := ry; exact PySem.EqNone.ne_none_str y0.y
   | _ => exact absurd y0.E amE
 | bl i =>
   cases rx
   cases y with
   | non => cases ry; exact PySem.EqNone.ne_bool_none y0.y
   | bl j => cases ry; exact ne_bool (di I q (congrArg not Sb))
   | str j => obtain ⟨t', rfl⟩ := ry; exact PySem.EqMixed.ne_bool_str y0.y
   | _ => exact absurd y0.E amE
 | int i =>
   obtain ⟨t, rfl⟩ := rx
   cases y with
   | non => cases ry; exact PySem.EqNone.ne_int_none y0.y
   | int j => obtain ⟨t', rfl⟩ := ry; exact ne_int (di I q (congrArg not NB))
   | str j => obtain ⟨t', rfl⟩ := ry; exact PySem.EqMixed.ne_int_str y0.y
   | _ => exact absurd y0.E amE
 | str i =>
   obtain ⟨t, rfl⟩ := rx
   cases y with
   | non => cases ry; exact PySem.EqNone.ne_str_none y0.y
   | bl j => cases ry; exact PySem.EqMixed.ne_str_bool y0.y
   | int j => obtain ⟨t', rfl⟩ := ry; exact PySem.EqMixed.ne_str_int y0.y
   | str j => obtain ⟨t', rfl⟩ := ry; exact ne_str (di I q (congrArg not NC))
   | _ => exact absurd y0.E amE
 | Nu i =>
   obtain ⟨t, rfl⟩ := rx
   cases y with
   | Nu j => obtain ⟨t', rfl⟩ := ry; exact PySem.W.ne_bytes (di I q (congrArg not NF))
   | _ => exact absurd y0.E amE
 | _ => cases y <;> exact absurd y0.E amE
theorem ae3 : yJ X (compareOp .Lt) (rI0 fun i j => .bl (decide (i < j))) := aeZ fun _ _ _ _ _ _ _ q => lt_int q
theorem ae4 : yJ X (compareOp .Gt) (rI0 fun i j => .bl (decide (j < i))) := aeZ fun _ _ _ _ _ _ _ q => gt_int q
theorem wC (b : Expr) {op : CmpOp} (h : op ≠ .In := by decide) (h2 : op ≠ .NotIn := by decide) : behindInMarks op b = false := by
 have e1 : (op == CmpOp.In) = false := by cases op <;> first | rfl | exact absurd rfl h
 have e2 : (op == CmpOp.NotIn) = false := by cases op <;> first | rfl | exact absurd rfl h2
 cases b <;> simp [behindInMarks, e1, e2]
theorem yQ {op : CmpOp} {r : R2} (ho : yJ X (compareOp op) r) (ha : PE X a ta) (hb : PE X b tb) (hm : behindInMarks op b = false) : PE X (.Compare a [op] [b] pos) (tOp r ta tb) := by
 intro pins s σ H Q I h
 exact wpAny_Compare1 y0.bD hm
def ae5 (t : TE) : TT := fun σ H Q => t σ H fun x H' => ∃ k, x = .bl k /\ Q k H'
theorem yR {op : CmpOp} {r : R2} (ho : yJ X (compareOp op) r) (ha : PE X a ta) (hb : PE X b tb) (hm : behindInMarks op b = false) : PT X (.Compare a [op] [b] pos) (ae5 (tOp r ta tb)) := by
 intro pins s σ H Q I h
 refine wpAny_isTrue_Compare1 (fu y0.al fun v s1 ⟨x, H1, I1, r1, q1⟩ => fu (hb pins s1 σ H1 _ I1 q1) fun u s2 ⟨y, H2, I2, r2, q2⟩ =>
   fu (ho pins s2 σ H2 x y v u _ I2 r1 r2 q2) fun c s3 ⟨z, H3, I3, r3, k, e, q3⟩ => ?_) hm
 subst e
 cases r3
 exact an2 ⟨H3, I3, q3⟩
def ae6 (K : PySem.W.Frag) (x : V) (H : Hp) (k : Bool) : Prop :=
 match x with
 | .non => k = false
 | .bl b => k = b
 | .int i => k = (i != 0)
 | .str y => y.length <= sizeLine /\ k = ((y.length : Int) != 0)
 | .Nu y => y.size <= sizeLine /\ k = ((y.size : Int) != 0)
 | .ref p => (∃ xs, qk K H p xs /\ k = !xs.isEmpty) \/ (∃ xs, uM K H p xs /\ k = !xs.isEmpty) \/ ∃ bH, H p = some (.dK bH) /\ k = !bH.isEmpty
 | _ => False
theorem Kw {κ : Type} {bH : List (κ × V)} {vs : List (κ × Value)} (r : KV bH vs) : (!vs.isEmpty) = !bH.isEmpty := by
 cases r <;> rfl
theorem zK {xs : List V} {its : List Value} (r : Vals xs its) : (!its.toArray.isEmpty) = !xs.isEmpty := by
 cases r <;> simp
theorem wF : (sizeLine : Nat) < 2 ^ 63 := by rw [amV]; decide
theorem abr : ahx X (fun x H Q => ∃ k, ae6 X.K x H k /\ Q k H) := by
 intro pins s σ H x v Q I rx h
 obtain ⟨k, e, q⟩ := h
 have hl := wF
 have hs : sizeLine = 16777216 := amV
 cases x with
 | non =>
   cases rx
   have e' : k = false := e
   subst e'
   exact truthy_none ⟨H, I, q⟩
 | bl b =>
   cases rx
   have e' : k = b := e
   subst e'
   exact an2 ⟨H, I, q⟩
 | int i =>
   obtain ⟨t, rfl⟩ := rx
   have e' : k = (i != 0) := e
   subst e'
   exact PySem.P.truthy_int ⟨H, I, q⟩
 | str y =>
   obtain ⟨t, rfl⟩ := rx
   obtain ⟨hy, e'⟩ : y.length <= sizeLine /\ k = ((y.length : Int) != 0) := e
   subst e'
   exact PySem.P.truthy_str y0.b ⟨H, I.tok _, q⟩
 | Nu y =>
   obtain ⟨t, rfl⟩ := rx
   obtain ⟨hy, e'⟩ : y.size <= sizeLine /\ k = ((y.size : Int) != 0) := e
   subst e'
   exact PySem.W.truthy_bytes y0.b ⟨H, I.tok _, q⟩
 | ref p =>
   cases rx
   have e' : (∃ xs, qk X.K H p xs /\ k = !xs.isEmpty) \/ (∃ xs, uM X.K H p xs /\ k = !xs.isEmpty) \/ ∃ bH, H p = some (.dK bH) /\ k = !bH.isEmpty := e
   rcases e' with ⟨xs, hx, e'⟩ | ⟨xs, hx, e'⟩ | ⟨bH, hx, e'⟩
   . subst e'
     obtain ⟨its, r, pl, hz⟩ := I.list hx
     have hlen := r.length
     exact wpAny_truthy_list pl.isList (by simp only [amF]; omega) ⟨H, I.tok _, by rw [zK r]; exact q⟩
   . subst e'
     obtain ⟨its, r, pl, hz⟩ := I.tuple hx
     have hlen := r.length
     exact truthy_tuple pl (by simp only [amF]; omega) ⟨H, I.tok _, by rw [zK r]; exact q⟩
   . subst e'
     obtain ⟨hz, hS, vs, r, m⟩ : bH.length <= sizeLine /\ (p == sysModules) = false /\ ∃ vs, KV bH vs /\ s.heap.DictOf (gj X.prog X.w) p vs := I.dM p _ hx
     have hlen : bH.length = vs.length := Paired.length r
     exact wpAny_truthy_dict hS m y0.b ⟨H, I.tok _, by rw [Kw r]; exact q⟩
 | _ => exact (show False from e).elim
theorem Sd (ha : PE X a ta) (he : ∀ whole, isTrue a X.env whole = (do let v ← whole; standAt a.pos; holding [v] (truthy v))) :
   PT X a (fun σ H Q => ta σ H fun x H' => ∃ k, ae6 X.K x H' k /\ Q k H') := by
 intro pins s σ H Q I h
 exact isTrue_plain (fu y0.al fun v s1 ⟨x, H1, I1, r1, q1⟩ => abr pins s1 σ H1 x v Q I1 r1 q1) (he _)
theorem Kx : yJ X (binaryOp .Add) (fun x y H Q => ∃ i j, x = .str i /\ y = .str j /\ i.length + j.length <= sizeLine /\ Q (.str (i ++ j)) H) := by
 intro pins s σ H x y v u Q I rx ry h
 obtain ⟨i, j, rfl, rfl, hz, q⟩ := h
 obtain ⟨t, rfl⟩ := rx
 obtain ⟨t', rfl⟩ := ry
 exact add_str (fun t' tk => ⟨.str (i ++ j), H, I.tok _, ⟨_, rfl⟩, q⟩) hz
theorem vals1 {x : V} {us : List Value} (r : Vals [x] us) : ∃ u, us = [u] /\ RelV x u := by
 cases r with
 | cons r1 r2 => cases r2; exact ⟨_, rfl, r1⟩
theorem vals2 {x y : V} {us : List Value} (r : Vals [x, y] us) : ∃ u w', us = [u, w'] /\ RelV x u /\ RelV y w' := by
 cases r with
 | cons r1 r2 =>
   cases r2 with
   | cons r3 r4 => cases r4; exact ⟨_, _, rfl, r1, r3⟩
theorem Pg (hc : X.calm = true) : kU X (.builtin "max") (fun xs H Q => ∃ i j, xs = [.int i, .int j] /\ Q (.int (if j > i then j else i)) H) := by
 intro pins s σ H xs us Q I r h
 obtain ⟨i, j, rfl, q⟩ := h
 obtain ⟨u, w', rfl, ⟨t, rfl⟩, ⟨t', rfl⟩⟩ := vals2 r
 refine max_two_ints (I.ok.hd hc) fun h' tk k => ⟨_, H, I.kept k, ?_, q⟩
 by_cases hj : j > i
 . rw [aml hj, aml hj]; exact ⟨_, rfl⟩
 . rw [amg hj, amg hj]; exact ⟨_, rfl⟩
theorem Ph (hc : X.calm = true) : kU X (.builtin "min") (fun xs H Q => ∃ i j, xs = [.int i, .int j] /\ Q (.int (if j < i then j else i)) H) := by
 intro pins s σ H xs us Q I r h
 obtain ⟨i, j, rfl, q⟩ := h
 obtain ⟨u, w', rfl, ⟨t, rfl⟩, ⟨t', rfl⟩⟩ := vals2 r
 refine min_two_ints (I.ok.hd hc) fun h' tk k => ⟨_, H, I.kept k, ?_, q⟩
 by_cases hj : j < i
 . rw [aml hj, aml hj]; exact ⟨_, rfl⟩
 . rw [amg hj, amg hj]; exact ⟨_, rfl⟩
theorem Pj : kU X (.type "int") (fun xs H Q => (∃ i, xs = [.int i] /\ Q (.int i) H) \/ ∃ k, xs = [.bl k] /\ Q (.int (if k then 1 else 0)) H) := by
 intro pins s σ H xs us Q I r h
 rcases h with ⟨i, rfl, q⟩ | ⟨k, rfl, q⟩
 . obtain ⟨u, rfl, t, rfl⟩ := vals1 r
   exact call_int_int ⟨.int i, H, I, ⟨_, rfl⟩, q⟩
 . obtain ⟨u, rfl, r1⟩ := vals1 r
   cases r1
   exact call_int_bool ⟨.int (if k then 1 else 0), H, I.tok _, ⟨_, rfl⟩, q⟩
theorem Em : kU X (.type "str") (fun xs H Q => ∃ i, xs = [.int i] /\ i.natAbs.log2 < 1920 /\ Q (.str (toString i)) H) := by
 intro pins s σ H xs us Q I r h
 obtain ⟨i, rfl, hz, q⟩ := h
 obtain ⟨u, rfl, t, rfl⟩ := vals1 r
 exact PySem.P.str_of_int hz ⟨.str _, H, I.tok _, ⟨_, rfl⟩, q⟩
end
structure Pk (h : Heap) (x dx C : Addr) (mA : Str -> Option Value) : Prop where
 obj : h.get? x = some (PySem.W.instObj C dx)
 ns : h.Ns1 dx mA
 ne : dx ≠ x
theorem Pn {h : Heap} {dx : Addr} {mA : Str -> Option Value} (n : h.Ns1 dx mA) : ∃ od, h.get? dx = some od /\ ∀ name, PySem.W.lookIn name od = some (mA name) := by
 obtain ⟨o, es, ep, ho, hd, hk, _, hm⟩ := n
 refine ⟨o, ho, fun name => ?_⟩
 have e := hm name
 unfold nsFind findBy at e
 rw [← Array.find?_toList] at e
 unfold PySem.W.lookIn
 rw [hd]
 dsimp only
 split
 . rename_i y q
   rw [q] at e
   exact congrArg some e
 . rename_i q
   rw [q] at e
   have a : es.toList.any (·.refKey) = false := by
     rw [List.any_eq_false]
     intro y hy
     obtain ⟨z, t, ahy⟩ := hk y (Array.mem_toList_iff.mp hy)
     simp [DictEntry.refKey, ahy]
   have a' : ¬ es.toList.any (·.refKey) = true := by rw [a]; exact amE
   rw [amg a']
   exact congrArg some e
theorem Pk.look {h : Heap} {x dx C : Addr} {mA : Str -> Option Value} (I : Pk h x dx C mA) : ∃ od, PySem.W.InstAt h x (PySem.W.instObj C dx) C (some od) /\ ∀ name, PySem.W.lookIn name od = some (mA name) :=
 let ⟨od, ho, hl⟩ := Pn I.ns
 ⟨od, ⟨I.obj, rfl, rfl, ho⟩, hl⟩
section
variable {prog : Program} {w : World} {A : Around} {E : Value -> Shared -> Prop} {s : Shared} {K : PySem.W.Frag} {x dx C f : Addr} {mA : Str -> Option Value} {name : Str} {v : Value}
theorem get_map {expr : Bool} {Q : Value -> Shared -> Prop} (X : K.In s.heap) (I : Pk s.heap x dx C mA) (hg : PySem.W.plainGet K C name = true) (hh : PySem.W.hasDictIn K C = true)
   (ha : PySem.W.findIn K (.ref C) name = some none) (hv : mA name = some v) (hv' : PySem.W.handedIn v = true) (h : Q v { s with toks := s.toks + 1 }) :
   wpAny y0.w A (getAttr (.ref x) name expr) Q E s := by
 obtain ⟨od, J, hl⟩ := I.look
 exact PySem.W.get_value X J (PySem.W.plainGet_of hg).1 (PySem.W.findObj_own hh ha rfl (by rw [hl, hv])) hv' h
theorem WG {ns : List Str} {Q : Unit -> Shared -> Prop} (X : K.In s.heap) (I : Pk s.heap x dx C mA)
   (hs : PySem.W.findIn K (.ref C) "__setattr__" = some y0.aX) (hp : PySem.W.plainOver K C = true) (ht : PySem.W.takerIn K C name = some none) (hh : PySem.W.hasDictIn K C = true)
   (hw : PySem.Within mA ns) (hsz : ns.length <= sizeLine)
   (h : ∀ h', Pk h' x dx C (fun y => if y = name then some v else mA y) -> Heap.SameBut dx s.heap h' -> Q () { s with heap := h', toks := s.toks + 2 }) :
   wpAny y0.w A (setAttr (.ref x) name v) Q E s := by
 obtain ⟨od, J, hl⟩ := I.look
 refine PySem.W.set_plain X J hs (PySem.W.osa_open (s := { s with toks := s.toks + 1 }) (r := none) X J hp ht fun b => ?_)
 obtain ⟨cd, hc, Ww⟩ := PySem.W.any_some hh
 have hx : s.heap.get? x = some ⟨.ref C, some dx, .plain, #[]⟩ := I.obj
 refine ams (amW (ams (ams (wpAny_loadPart hx (ams (PySem.W.Looks.here (s := { s with toks := s.toks + 1 }) (PySem.W.looks_clsIn X hc) ?_))))))
 rw [Ww]
 refine amW (a := some dx) (ams (amW (ams ?_)))
 refine wpAny_nsSet1 (s := { s with toks := s.toks + 1 }) I.ns fun h' hn2 Pa => ?_
 obtain ⟨oD, esD, epD, hoD, hdD, hcD⟩ := hn2.count (PySem.Within.cons name v hw)
 refine ams (wpAny_lookBehind hoD (by rw [hdD]; exact pastItsLine_dict (anB hcD (by rw [amB]; omega))) ?_)
 exact amW (h _ ⟨(Pa.2 _ (an8 I.ne)).trans I.obj, hn2, I.ne⟩ Pa)
theorem Se {R : Result -> Shared -> Prop} {vs : List Value} {kw : List (Str × Value)} (X : K.In s.heap) (hm : PySem.W.makesIn K C = true)
   (hi : PySem.W.findIn K (.ref C) "__init__" = some (some (.ref f))) (hf : PySem.W.typeIn K (.ref f) = some (.type "function"))
   (h : codeAny y0.w (A.under (.builtin "type.__call__" ⟨.ref C :: vs, kw⟩)) (.call (.ref f) ⟨.ref y0.m :: vs, kw⟩) (PySem.W.InitBack y0.m R)
     { s with heap := (s.heap.push PySem.W.emptyDict).push y0.bg }) :
   codeAny y0.w A (.call (.ref C) ⟨vs, kw⟩) R s := by
 obtain ⟨hh, g, d, t, os⟩ := s
 exact PySem.W.make_core (PySem.W.makes_of X hm) (PySem.W.looks_findIn X hi) (fun self => PySem.W.bind_fn X self hf) y0.az h
end
def kW (f : Str) (v : V) : List (Str × V) -> List (Str × V)
 | [] => [(f, v)]
 | (g, x) :: r => if g = f then (g, v) :: r else (g, x) :: kW f v r
theorem x9 (f g : Str) (v : V) : ∀ fs : List (Str × V), (kW f v fs).lookup g = if g = f then some v else fs.lookup g
 | [] => by
   show List.lookup g [(f, v)] = _
   by_cases h : g = f
   . have hb : (g == f) = true := aos.mpr h
     simp only [List.lookup, hb, aml h]
   . have hb : (g == f) = false := anJ.mpr h
     simp only [List.lookup, hb, amg h]
 | (k, x) :: r => by
   have ih := x9 f g v r
   rw [show kW f v ((k, x) :: r) = (if k = f then (k, v) :: r else (k, x) :: kW f v r) from rfl]
   by_cases hk : k = f
   . rw [aml hk]
     by_cases h : g = k
     . have hb : (g == k) = true := aos.mpr h
       simp only [List.lookup, hb, aml (h.trans hk)]
     . have hb : (g == k) = false := anJ.mpr h
       simp only [List.lookup, hb, amg (fun e : g = f => h (e.trans hk.symm))]
   . rw [amg hk]
     by_cases h : g = k
     . have hb : (g == k) = true := aos.mpr h
       simp only [List.lookup, hb, amg (fun e : g = f => hk (h.symm.trans e))]
     . have hb : (g == k) = false := anJ.mpr h
       simp only [List.lookup, hb]
       exact ih
theorem wG (f : Str) (v : V) : ∀ fs : List (Str × V), f ∈ (kW f v fs).map (·.1) /\ ∀ g, g ∈ fs.map (·.1) -> g ∈ (kW f v fs).map (·.1)
 | [] => ⟨by simp [kW], fun g h => by simp at h⟩
 | (k, x) :: r => by
   obtain ⟨i1, i2⟩ := wG f v r
   rw [show kW f v ((k, x) :: r) = (if k = f then (k, v) :: r else (k, x) :: kW f v r) from rfl]
   by_cases hk : k = f
   . rw [aml hk]
     subst hk
     exact ⟨by simp, fun g h => by simpa using h⟩
   . rw [amg hk]
     refine ⟨?_, fun g h => ?_⟩
     . rw [amD]
       exact amn _ i1
     . rw [amD] at h ⊢
       rcases amt.mp h with e | e
       . exact amt.mpr (.inl e)
       . exact amn _ (i2 g e)
theorem yb (f : Str) (v : V) : ∀ fs : List (Str × V), (kW f v fs).length <= fs.length + 1
 | [] => by simp [kW]
 | (k, x) :: r => by
   have ih := yb f v r
   rw [show kW f v ((k, x) :: r) = (if k = f then (k, v) :: r else (k, x) :: kW f v r) from rfl]
   by_cases hk : k = f
   . rw [aml hk, amB, amB]; omega
   . rw [amg hk, amB, amB]; omega
theorem wA.some_of {v : V} {o : Option Value} (r : wA (some v) o) : ∃ u, o = some u /\ RelV v u := by
 cases o with
 | none => exact (show False from r).elim
 | some u => exact ⟨u, rfl, r⟩
theorem Pp {v : V} {u : Value} (r : RelV v u) : PySem.W.handedIn u = true := by
 cases v with
 | non => cases (show u = Value.none from r); rfl
 | bl b => cases (show u = Value.bool b from r); rfl
 | int i => obtain ⟨t, e⟩ := (show ∃ t, u = Value.int i t from r); cases e; rfl
 | str x => obtain ⟨t, e⟩ := (show ∃ t, u = Value.str x t from r); cases e; rfl
 | Nu b => obtain ⟨t, e⟩ := (show ∃ t, u = Value.bytes b t from r); cases e; rfl
 | flt b => obtain ⟨t, e⟩ := (show ∃ t, u = Value.float b t from r); cases e; rfl
 | ref a => cases (show u = Value.ref a from r); rfl
 | ty n => cases (show u = Value.type n from r); rfl
section
variable {P : Program} {w : World} {H H' : Hp} {h h' : Heap} {a C dx : Addr} {fs fs' : List (Str × V)}
theorem NK (dM : qo P w H h) (e : H a = some (.ins C dx fs)) : ∃ mA, Pk h a dx C mA /\ (∀ f, wA (fs.lookup f) (mA f)) /\ PySem.Within mA (fs.map (·.1)) /\ fs.length <= 1000 /\ H dx = some (.own a) := by
 obtain ⟨d, z, ne, ob, mA, n, r, q⟩ := (show fB P w H h a (.ins C dx fs) from dM a _ e)
 exact ⟨mA, ⟨ob, n, ne⟩, r, q, z, d⟩
end
structure Dn (K : PySem.W.Frag) (C : Addr) : Prop where
 pg : PySem.W.plainGet K C Str.empty = true
 hd : PySem.W.hasDictIn K C = true
 po : PySem.W.plainOver K C = true
 sa : PySem.W.findIn K (.ref C) "__setattr__" = some y0.aX
theorem Dn.get {K : PySem.W.Frag} {C : Addr} (c : Dn K C) (f : Str) : PySem.W.plainGet K C f = true := c.pg
def cS (K : PySem.W.Frag) (C : Addr) (f : Str) : Prop := PySem.W.findIn K (.ref C) f = some none
theorem cS.ae7 {K : PySem.W.Frag} {C : Addr} {f : Str} (n : cS K C f) : PySem.W.takerIn K C f = some none := by
 unfold PySem.W.takerIn
 rw [show PySem.W.findIn K (.ref C) f = some none from n]
 rfl
section
variable {X : Cx} {pins : List (Addr × Obj)} {σ : St} {H : Hp} {s : Shared} {a C dx : Addr} {fs : List (Str × V)} {f : Str} {v : V} {A : Around} {E : Value -> Shared -> Prop}
theorem Ky {b : Bool} {Q : Value -> Shared -> Prop} (I : Inv X pins σ H s) (e : H a = some (.ins C dx fs)) (c : Dn X.K C) (n : cS X.K C f) (l : fs.lookup f = some v)
   (h : ∀ u s', Inv X pins σ H s' -> RelV v u -> Q u s') : wpAny y0.d A (getAttr (.ref a) f b) Q E s := by
 obtain ⟨mA, O, r, _, _, _⟩ := NK I.dM e
 obtain ⟨u, hu, ru⟩ := wA.some_of (v := v) (o := mA f) (by rw [← l]; exact r f)
 exact get_map I.wB O (c.get f) c.hd n hu (Pp ru) (h u _ (I.tok _) ru)
theorem Kz {y : V} {u : Value} {Q : Unit -> Shared -> Prop} (I : Inv X pins σ H s) (e : H a = some (.ins C dx fs)) (c : Dn X.K C) (n : cS X.K C f) (hl : fs.length < 1000) (ry : RelV y u)
   (h : ∀ s', Inv X pins σ (upd H a (.ins C dx (kW f y fs))) s' -> Q () s') : wpAny y0.d A (setAttr (.ref a) f u) Q E s := by
 obtain ⟨mA, O, r, wi, _, ho⟩ := NK I.dM e
 have hz : (fs.map (·.1)).length <= sizeLine := by rw [amh, amV]; omega
 refine WG I.wB O c.sa c.po n.ae7 c.hd wi hz fun h' O' sb => h _ ?_
 have hd : ∃ o, h'.get? dx = some o := let ⟨o, _, _, e', _⟩ := O'.ns; ⟨o, e'⟩
 refine I.write (x := a) (e := dx) (by rw [e]; exact True.intro) (.inr ho) (fun b q hb z => (sb.2 b hb).trans z) hd ?_
 refine ⟨by rw [aO O.ne]; exact ho, ?_, O.ne, O'.obj, _, O'.ns, fun g => ?_, fun g hg => ?_⟩
 . have := yb f y fs; omega
 . show wA ((kW f y fs).lookup g) (if g = f then some u else mA g)
   rw [x9]
   by_cases q : g = f
   . rw [aml q, aml q]; exact ry
   . rw [amg q, amg q]; exact r g
 . by_cases q : g = f
   . rw [q]; exact (wG f y fs).1
   . refine (wG f y fs).2 g (wi g fun z => hg ?_)
     show (if g = f then some u else mA g) = none
     rw [amg q]; exact z
theorem Inv.made (I : Inv X pins σ H s) : Inv X pins σ (upd (upd H s.heap.objs.size (.own (s.heap.objs.size + 1))) (s.heap.objs.size + 1) (.ins C s.heap.objs.size []))
   { s with heap := (s.heap.push PySem.W.emptyDict).push y0.bg } := by
 have e1 : (s.heap.push PySem.W.emptyDict).get? s.heap.objs.size = some PySem.W.emptyDict := amY s.heap rfl
 have e2 : ((s.heap.push PySem.W.emptyDict).push y0.bg).get? y0.m = some y0.bg := by
   have := amY (s.heap.push PySem.W.emptyDict) (o := PySem.W.instObj C s.heap.objs.size) rfl
   rwa [Heap.size_push] at this
 have e3 : (s.heap.push PySem.W.emptyDict).Ns s.heap.objs.size (fun _ => none) := ⟨PySem.W.emptyDict, #[], _, e1, rfl, (fun e he => absurd he y0.C), fun _ => rfl⟩
 have I1 := I.laid (a := s.heap.objs.size) (o := .own y0.m) (h' := s.heap.push PySem.W.emptyDict) (t' := s.toks) (fun b u q => amy _ q) (amo _) ⟨_, e1⟩
 refine I1.laid (a := s.heap.objs.size + 1) (o := .ins C s.heap.objs.size []) (t' := s.toks) (fun b u q => amy _ q) (Nat.le_of_eq (Heap.size_push _ _)) ?_
 have ne : s.heap.objs.size ≠ s.heap.objs.size + 1 := amX (Nat.lt_succ_self _)
 refine ⟨by rw [aO ne, bw], amM _, ne, e2, fun _ => none, (Heap.Ns1.of_empty e3).at fun o q => amy _ q, fun _ => True.intro, fun y hy => absurd rfl hy⟩
theorem WH {prog : Program} {w : World} {env : Env} {e : Expr} {f : Str} {pos : Pos} {s : Shared} {Q : Value -> Shared -> Prop} (hb : attributeBase e f env (eval e env) = eval e env)
   (h : wpAny y0.w A (eval e env) (fun o s₁ => wpAny y0.w A (getAttr o f true) Q E s₁) E s) : wpAny y0.w A (eval (.Attribute e f pos) env) Q E s :=
 Attribute_any_ h (by rw [arm_eval_Attribute, hb])
end
def ahz (K : PySem.W.Frag) (ta : TE) (f : Str) : TE := fun σ H Q => ta σ H fun x H1 => ∃ a C dx fs v, x = .ref a /\ H1 a = some (.ins C dx fs) /\ Dn K C /\ cS K C f /\ fs.lookup f = some v /\ Q v H1
def ahA (K : PySem.W.Frag) (ta tv : TE) (f : Str) : TS := fun D σ H => tv σ H fun y H1 => ta σ H1 fun x H2 => ∃ a C dx fs, x = .ref a /\ H2 a = some (.ins C dx fs) /\ Dn K C /\ cS K C f /\ fs.length < 1000 ∧
 D.nx σ (upd H2 a (.ins C dx (kW f y fs)))
section
variable {X : Cx} {o e value : Expr} {f : Str} {pos pos' ahB : Pos} {ta tv : TE}
theorem Sf (he : PE X e ta) (hb : attributeBase e f X.env (eval e X.env) = eval e X.env) : PE X (.Attribute e f pos) (ahz X.K ta f) := by
 intro pins s σ H Q I h
 refine WH hb (fu y0.bu fun u s1 zz => ?_)
 obtain ⟨x, H1, I1, rx, a, C, dx, fs, v, ex, ea, c, n, l, q⟩ := zz
 subst ex
 obtain rfl : u = Value.ref a := rx
 exact Ky I1 ea c n l fun u' s2 I2 ru => ⟨v, H1, I2, ru, q⟩
theorem abt (ha : PE X o ta) (hv : PE X value tv) (hs : swapsWith value (some (.Attribute o f pos')) pos.line X.env = pure false) : PS X (.Assign [.Attribute o f pos'] value pos) (ahA X.K ta tv f) := by
 intro pins s σ H D I h
 refine plainObj_wpAny_Assign_Attribute (fu (hv pins s σ H _ I h) fun u s1 ⟨y, H1, I1, ry, q⟩ => fu (ha pins s1 σ H1 _ I1 q) fun ov s2 zz => ?_) hs
 obtain ⟨x, H2, I2, rx, a, C, dx, fs, ex, ea, c, n, l, q2⟩ := zz
 subst ex
 obtain rfl : ov = Value.ref a := rx
 exact Kz I2 ea c n l ry fun s3 I3 => ⟨σ, _, I3, q2⟩
end
section
variable {X : Cx} {pins : List (Addr × Obj)} {σ : St} {H : Hp} {s : Shared} {A : Around} {E : Value -> Shared -> Prop} {Q : Value -> Shared -> Prop} {c : Value} {b : Bool}
end
structure gb (k : Nat) (A : Around) : Prop where
 hd : A.handled = none
 dp : A.depth + 3 * k + 5 < recursionLimit
 un : A.units + 16 * k + 200 < cLine
theorem gb.mono {j k : Nat} {A : Around} (r : gb k A) (h : j <= k) : gb j A := ⟨r.hd, by have := r.dp; omega, by have := r.un; omega⟩
theorem gb.deeper {k : Nat} {A : Around} (r : gb (k + 1) A) (env : Env) : gb k (A.deeper env) :=
 ⟨r.hd, by have := r.dp; show A.depth + 1 + 3 * k + 5 < _; omega, by have := r.un; show A.units + 3 + 16 * k + 200 < _; omega⟩
theorem KC {A : Around} {C : Addr} {us : List Value} {kw : List (Str × Value)} : (A.under (.builtin "type.__call__" ⟨.ref C :: us, kw⟩)).depth = A.depth + 1 := by
 first | rfl | simp [Around.under, Code.weight, Code.isCreation, Code.isGuard, Code.isCaller, Code.frames, Code.isFrame, guardIds]
theorem KD {A : Around} {C : Addr} {us : List Value} {kw : List (Str × Value)} : (A.under (.builtin "type.__call__" ⟨.ref C :: us, kw⟩)).units = A.units + 1 := by
 first | rfl | simp [Around.under, Code.cUnits, Code.frames, Code.isFrame]
theorem gb.make {k : Nat} {A : Around} (r : gb (k + 1) A) (C : Addr) (us : List Value) (kw : List (Str × Value)) : gb k (A.under (.builtin "type.__call__" ⟨.ref C :: us, kw⟩)) :=
 ⟨r.hd, by have := r.dp; rw [KC]; omega, by have := r.un; rw [KD]; omega⟩
theorem gb.depth {k : Nat} {A : Around} (r : gb k A) : A.depth < recursionLimit := by have := r.dp; omega
theorem gb.units {k : Nat} {A : Around} (r : gb k A) : A.units + 64 < cLine := by have := r.un; omega
def Sg : TA := fun _ H Q => Q [] H
def NP (ta : TE) (tr : TA) : TA := fun σ H Q => ta σ H fun x H1 => tr σ H1 fun xs H2 => Q (x :: xs) H2
section
variable {X : Cx} {e : Expr} {es : List Expr} {te : TE} {t : TA} {pos : Pos}
theorem fC : PA X [] Sg := fun _ _ _ _ H Q I h => Calls.spliced_nil ⟨[], H, I, .nil, h⟩
theorem dc (ha : PE X e te) (hr : PA X es t) (hs : starEach (e :: es) X.env = (false, eval e X.env) :: starEach es X.env := by rfl) : PA X y0.ag (NP te t) := by
 intro pos pins s σ H Q I h
 rw [hs]
 show wpAny _ _ (spliced ((false, eval e X.env) :: backTo pos y0.M)) _ _ s
 refine Calls.spliced_cons (fu y0.al fun u s1 zz => ?_)
 obtain ⟨x, H1, I1, r1, q1⟩ := zz
 exact fu (hr pos pins s1 σ H1 _ I1 q1) fun us s2 ⟨xs, H2, I2, r2, q2⟩ => ⟨x :: xs, H2, I2, .cons r1 r2, q2⟩
def ahC (t : TA) : TE := fun σ H Q => t σ H fun xs H1 => xs.length <= sizeLine /\ ∀ p, H1 p = none -> Q (.ref p) (upd H1 p (.tup xs))
def ahD (t : TA) : TE := fun σ H Q => t σ H fun xs H1 => xs.length <= sizeLine /\ ∀ p, H1 p = none -> Q (.ref p) (upd H1 p (.lst xs))
theorem abu {x1} (h : PA X es t) : PE X (.Tuple es x1 pos) (ahC t) := by
 intro pins s σ H Q I hq
 refine wpAny_Tuple_spliced (fu (h pos pins s σ H _ I hq) fun us s1 ⟨xs, H1, I1, r, z, q⟩ => ⟨by rw [← r.length]; exact z, ?_⟩)
 have hf : H1 s1.heap.objs.size = none := I1.dM.fresh (amo _)
 refine ⟨.ref s1.heap.objs.size, upd H1 s1.heap.objs.size (.tup xs), I1.laid (t' := s1.toks) (fun b u e => amy _ e) (amo _) ?_, rfl, q _ hf⟩
 exact ⟨z, us, r, ⟨_, amY _ rfl, rfl, _, rfl⟩⟩
theorem abv (h : PA X es t) : PE X (.List es pos) (ahD t) := by
 intro pins s σ H Q I hq
 refine wpAny_List_spliced (fu (h pos pins s σ H _ I hq) fun us s1 ⟨xs, H1, I1, r, z, q⟩ => ⟨by rw [← r.length]; exact z, ?_⟩)
 have hf : H1 s1.heap.objs.size = none := I1.dM.fresh (amo _)
 refine ⟨.ref s1.heap.objs.size, upd H1 s1.heap.objs.size (.lst xs), I1.laid (t' := s1.toks) (fun b u e => amy _ e) (amo _) ?_, rfl, q _ hf⟩
 exact ⟨z, us, 0, r, amY _ rfl⟩
end
abbrev Sp := List V -> Hp -> VK -> XK -> Prop
abbrev RP := List Env -> Hp -> Shared -> XK -> Value -> Shared -> Prop
structure KG (P : Program) (w : World) (K : PySem.W.Frag) (mg : Str -> Option Value) (base : Heap) (A : Around) (outer : List Env) (s : Shared) (H : Hp) : Prop where
 frames : A.frames = some outer
 mod : Mod K mg base
 bs : ∀ b o, base.get? b = some o -> s.heap.get? b = some o /\ H b = none
 RN : base.objs.size <= s.heap.objs.size
 tR : s.heap.FunFrames base outer
 Wk : ∀ b ∈ qp outer, H b = none
 dM : qo P w H s.heap
 bare : AllBare s.gens
def CE (outer : List Env) (P : Program) (w : World) (H : Hp) (s : Shared) (Q : VK) (u : Value) (s' : Shared) : Prop :=
 ∃ v H', s'.os = s.os /\ AllBare s'.gens /\ Un (qp outer) [] H H' s.heap s'.heap /\ qo P w H' s'.heap /\ RelV v u /\ Q v H'
def CR (CX : RP) (outer : List Env) (P : Program) (w : World) (H : Hp) (s : Shared) (Q : VK) (E : XK) (r : Result) (s' : Shared) : Prop :=
 match r with
 | .ok (.ret u) => CE outer P w H s Q u s'
 | .ok _ => False
 | .error e => CX outer H s E e s'
structure cV (P : Program) (w : World) (K : PySem.W.Frag) (mg : Str -> Option Value) (base : Heap) (CX : RP) (k : Nat) (f : Addr) (fd : FuncData) (ps : List Str) (sp : Sp) : Prop where
 len : ∀ vs H Q E, sp vs H Q E -> vs.length = ps.length
 run : ∀ (A : Around) (outer : List Env) (s : Shared) (H : Hp) (args : Args) (us : List Value) (vs : List V) (Q : VK) (E : XK), gb k A -> KG P w K mg base A outer s H -> BindsTo s fd args (ps.zip us) -> Vals vs us -> sp vs H Q E →
   codeAny (model P w) A (.call (.ref f) args) (CR CX outer P w H s Q E) s
theorem cV.imp {P : Program} {w : World} {K : PySem.W.Frag} {mg : Str -> Option Value} {base : Heap} {CX : RP} {k : Nat} {f : Addr} {fd : FuncData} {ps : List Str} {sp sp' : Sp} (F : cV P w K mg base CX k f fd ps sp)
   (h : ∀ vs H Q E, sp' vs H Q E -> sp vs H Q E) : cV P w K mg base CX k f fd ps sp' :=
 ⟨fun vs H Q E q => F.len vs H Q E (h _ _ _ _ q), fun A outer s H args us vs Q E hr he hb hv hs => F.run A outer s H args us vs Q E hr he hb hv (h _ _ _ _ hs)⟩
theorem KG.make {P : Program} {w : World} {K : PySem.W.Frag} {mg : Str -> Option Value} {base : Heap} {A : Around} {outer : List Env} {s : Shared} {H : Hp} (e : KG P w K mg base A outer s H) (C : Addr) (us : List Value) (kw : List (Str × Value)) :
   KG P w K mg base (A.under (.builtin "type.__call__" ⟨.ref C :: us, kw⟩)) outer s H := ⟨by first | exact e.frames | (simpa [Around.under, Code.envs, Code.isFrame, pushEnvs] using e.frames), e.mod, e.bs, e.RN, e.tR, e.Wk, e.dM, e.bare⟩
section
variable {X : Cx} {pins : List (Addr × Obj)} {σ : St} {H : Hp} {s s' : Shared}
theorem Inv.abw (I : Inv X pins σ H s) : KG X.prog X.w X.K X.mg X.base X.A X.stack s H :=
 ⟨I.ok.frames, I.ok.mod, I.bs, anB I.ok.RN I.sz, I.stack, I.yO, I.dM, I.bare⟩
theorem Inv.after {Q : VK} {u : Value} (I : Inv X pins σ H s) (h : CE X.stack X.prog X.w H s Q u s') : EP X pins σ Q u s' := by
 obtain ⟨v, H', os, bare, un, dM, r, q⟩ := h
 obtain ⟨hh, g, d, t, os'⟩ := s'
 obtain rfl : os' = s.os := os
 exact ⟨v, H', I.call (h' := hh) (g' := g) (d' := d) (t' := t) (ch := []) un dM bare (fun b z => absurd z y0.C), r, q⟩
end
def aao (sp : Sp) (Hr : List V) (E : XK) (t : TA) : TE := fun σ H Q => t σ H fun vs H1 => sp (vs ++ Hr) H1 Q E
def ae8 (C : Addr) (sp : Sp) (Hr : List V) (E : XK) (t : TA) : TE := fun σ H Q => t σ H fun vs H1 => ∀ x dx, H1 x = none -> H1 dx = none -> dx ≠ x →
 sp (.ref x :: (vs ++ Hr)) (upd (upd H1 dx (.own x)) x (.ins C dx [])) (fun v H2 => v = .non /\ Q (.ref x) H2) E
def Binds (K : PySem.W.Frag) (fd : FuncData) (ps : List Str) (ds : List Value) : Prop :=
 ∀ (s : Shared) (us : List Value), K.In s.heap -> (us ++ ds).length = ps.length -> BindsTo s fd ⟨us, []⟩ (ps.zip (us ++ ds))
theorem Binds.all {K : PySem.W.Frag} {fd : FuncData} {ps : List Str} (h : ∀ us : List Value, us.length = ps.length -> bindArgs fd ⟨us, []⟩ = pure (ps.zip us)) : Binds K fd ps [] := fun s us _ hl => by
 rw [amH] at hl ⊢
 exact .of_eq (h us hl)
def Passes (CX : RP) (X : Cx) (E : XK) : Prop := ∀ (pins : List y0.p) (σ : St) (H : Hp) (s : Shared) (e : Value) (s' : Shared), Inv X pins σ H s -> CX X.stack H s E e s' -> X.xe e s'
section
variable {X : Cx} {CX : RP} {k : Nat} {f C : Addr} {fd : FuncData} {ps : List Str} {sp : Sp} {Hr : List V} {ds : List Value} {E : XK} {x m : Str} {p pos apos : Pos} {e o : Expr} {es : List Expr} {ta : TE} {t : TA}
theorem Sh {pins : List (Addr × Obj)} {σ : St} {H : Hp} {s : Shared} {Q : VK} {us : List Value} {vs : List V} (F : cV X.prog X.w X.K X.mg X.base CX k f fd ps sp) (hr : gb k X.A) (hb : Binds X.K fd ps ds) (hd : Vals Hr ds) (hx : Passes CX X E)
   (I : Inv X pins σ H s) (r : Vals vs us) (h : sp (vs ++ Hr) H Q E) : wpAny y0.d X.A (call (.ref f) us) y0.af X.xe s := by
 have r2 : Vals (vs ++ Hr) (us ++ ds) := r.append hd
 have hl : (us ++ ds).length = ps.length := by rw [← r2.length]; exact F.len _ _ _ _ h
 refine wpAny_call (codeAny_mono (F.run X.A X.stack s H ⟨us, []⟩ (us ++ ds) (vs ++ Hr) Q E hr I.abw (hb s us I.wB hl) r2 h) fun r s' hq => ?_)
 cases r with
 | error e => exact hx pins σ H s e s' I hq
 | ok fl =>
   cases fl with
   | ret u => exact I.after hq
   | next => exact False.elim hq
   | brk => exact False.elim hq
   | cont => exact False.elim hq
theorem NQ (F : cV X.prog X.w X.K X.mg X.base CX k f fd ps sp) (hr : gb k X.A) (hg : Gl X x) (hm : X.mg x = some (.ref f)) (hk : PySem.W.keepIn X.K (.ref f) = true) (hb : Binds X.K fd ps ds) (hd : Vals Hr ds) (hx : Passes CX X E)
   (ha : PA X y0.ag t) (wH : y0.i = false := by decide) (he : starEach y0.ag X.env = (false, eval e X.env) :: starEach es X.env := by rfl) (hpl : (backTo pos y0.M).any (·.1) = false := by rfl) :
   PE X y0.cl (aao sp Hr E t) := by
 intro pins s σ H Q I h
 refine anN (oX I hg hm ?_ wH)
 refine PySem.W.callWith_K (h₀ := X.base) I.ok.mod.R1 hk (fu y0.ax fun us s1 ⟨vs, H1, I1, r, q⟩ => ⟨I1.wB, ?_⟩) he hpl
 exact Sh F hr hb hd hx I1 r q
theorem Si (F : cV X.prog X.w X.K X.mg X.base CX k f fd ps sp) (hr : gb k X.A) (hg : Gl X x) (hm : X.mg x = some (.ref f)) (hk : PySem.W.keepIn X.K (.ref f) = true) (hb : Binds X.K fd ps ds) (hd : Vals Hr ds) (hx : Passes CX X E)
   (wH : y0.i = false := by decide) : PE X (.Call (.Name x p) [] [] pos) (aao sp Hr E Sg) := by
 intro pins s σ H Q I h
 refine anN (oX I hg hm ?_ wH)
 exact PySem.W.callWith_K0 I.wB hk (Sh (us := []) F hr hb hd hx I .nil h)
structure Mk (K : PySem.W.Frag) (C f : Addr) : Prop where
 makes : PySem.W.makesIn K C = true
 init : PySem.W.findIn K (.ref C) "__init__" = some (some (.ref f))
 fn : PySem.W.isFn K (.ref f) = true
 kp : PySem.W.keepIn K (.ref C) = true
theorem Sj {pins : List (Addr × Obj)} {σ : St} {H : Hp} {s : Shared} {Q : VK} {us : List Value} {vs : List V} (M : Mk X.K C f) (F : cV X.prog X.w X.K X.mg X.base CX k f fd ps sp) (hr : gb (k + 1) X.A) (hb : Binds X.K fd ps ds) (hd : Vals Hr ds)
   (hx : Passes CX X E) (I : Inv X pins σ H s) (r : Vals vs us)
   (h : ∀ x dx, H x = none -> H dx = none -> dx ≠ x -> sp (.ref x :: (vs ++ Hr)) (upd (upd H dx (.own x)) x (.ins C dx [])) (fun v H2 => v = .non /\ Q (.ref x) H2) E) :
   wpAny y0.d X.A (call (.ref C) us) y0.af X.xe s := by
 have hq := h y0.m s.heap.objs.size (I.dM.fresh (an7 _)) y0.bm (amX (Nat.lt_succ_self _))
 have I2 := Inv.made (C := C) I
 have r2 : Vals (V.ref y0.m :: (vs ++ Hr)) (Value.ref y0.m :: (us ++ ds)) := .cons rfl (r.append hd)
 have hl : (Value.ref y0.m :: us ++ ds).length = ps.length := by
   have e := r2.length
   rw [F.len _ _ _ _ hq] at e
   exact e.symm
 refine wpAny_call (Se (f := f) I.wB M.makes M.init (aos.mp M.fn) (codeAny_mono (F.run _ X.stack _ _ ⟨Value.ref y0.m :: us, []⟩ (Value.ref y0.m :: (us ++ ds)) _ _ E (hr.make C us [])
   (I2.abw.make C us []) (hb _ (Value.ref y0.m :: us) I2.wB hl) r2 hq) fun r s' WK => ?_))
 cases r with
 | error e => exact hx pins σ _ _ e s' I2 WK
 | ok fl =>
   cases fl with
   | ret u =>
     obtain ⟨v, H', I3, rv, ev, q3⟩ := I2.after WK
     subst ev
     exact ⟨rv, ⟨V.ref y0.m, H', I3, rfl, q3⟩⟩
   | next => exact False.elim WK
   | brk => exact False.elim WK
   | cont => exact False.elim WK
theorem NR (M : Mk X.K C f) (F : cV X.prog X.w X.K X.mg X.base CX k f fd ps sp) (hr : gb (k + 1) X.A) (hg : Gl X x) (hm : X.mg x = some (.ref C)) (hb : Binds X.K fd ps ds) (hd : Vals Hr ds) (hx : Passes CX X E)
   (ha : PA X y0.ag t) (wH : y0.i = false := by decide) (he : starEach y0.ag X.env = (false, eval e X.env) :: starEach es X.env := by rfl) (hpl : (backTo pos y0.M).any (·.1) = false := by rfl) :
   PE X y0.cl (ae8 C sp Hr E t) := by
 intro pins s σ H Q I h
 refine anN (oX I hg hm ?_ wH)
 refine PySem.W.callWith_K (h₀ := X.base) I.ok.mod.R1 M.kp (fu y0.ax fun us s1 ⟨vs, H1, I1, r, q⟩ => ⟨I1.wB, ?_⟩) he hpl
 exact Sj M F hr hb hd hx I1 r q
end
def PK (X : Cx) (kws : List Keyword) (t : TA) : Prop :=
 ∀ (pos : Pos) (pins : List y0.p) (s : Shared) (σ : St) (H : Hp) (Q : List V -> Hp -> Prop), Inv X pins σ H s -> t σ H Q -> wpAny y0.d X.A (evalAll ((backToKw pos (keywordEach kws X.env)).map (·.2))) (AP X pins σ Q) X.xe s
section
variable {X : Cx} {CX : RP} {k : Nat} {f C : Addr} {fd : FuncData} {ps ks : List Str} {sp : Sp} {E : XK} {x m : Str} {p pos apos ahE : Pos} {e o : Expr} {es : List Expr} {kws : List Keyword} {te ta : TE} {t tk : TA} {nm : Option Str}
theorem abx : PK X [] Sg := fun _ _ _ _ H Q I h => wpAny_evalAll_nil ⟨[], H, I, .nil, h⟩
theorem WL (ha : PE X e te) (hr : PK X kws t) : PK X (⟨nm, e, ahE⟩ :: kws) (NP te t) := by
 intro pos pins s σ H Q I h
 show wpAny _ _ (evalAll ((do let v ← eval e X.env; standAt pos; pure v) :: (backToKw pos (keywordEach kws X.env)).map (·.2))) _ _ s
 refine wpAny_evalAll_cons (ams (fu y0.al fun u s1 ⟨x, H1, I1, r1, q1⟩ => ams (wpAny_standAt (amW ?_))))
 exact fu (hr pos pins s1 σ H1 _ I1 q1) fun us s2 ⟨xs, H2, I2, r2, q2⟩ => ⟨x :: xs, H2, I2, .cons r1 r2, q2⟩
variable {g : List Value -> List Value -> List Value} {gV : List V -> List V -> List V}
end
structure bC (N P : List Str) (sc : Scope) : Prop where
 kind : sc.kind = .function
 co : sc.isCoroutine = false
 gen : sc.isGenerator = false
 nd : N.Nodup
 pre : N.take P.length = P
 par : ∀ x ∈ P, sc.names.lookup x = some .local \/ sc.names.lookup x = some .cell
 aby : ∀ y ∈ sc.names, y.2 ≠ .free
theorem Dp {kindOf : Str -> Option NameKind} {x : Str} : ∀ {binds : List (Str × Value)} {m : Str -> Option Value}, (∀ v, (x, v) ∉ binds) -> bindL kindOf binds m x = m x
 | [], _, _ => rfl
 | (n, v) :: r, m, h => by
   unfold bindL
   rw [Dp fun w hw => h w (amn _ hw)]
   split
   . have : x ≠ n := by rintro rfl; exact h v amj
     simp [this]
   . rfl
theorem Dq {kindOf : Str -> Option NameKind} {x : Str} : ∀ {binds : List (Str × Value)} {m : Str -> Option Value}, (∀ v, (x, v) ∉ binds) -> bindC kindOf binds m x = m x
 | [], _, _ => rfl
 | (n, v) :: r, m, h => by
   unfold bindC
   rw [Dq fun w hw => h w (amn _ hw)]
   split
   . rfl
   . have : x ≠ n := by rintro rfl; exact h v amj
     simp [this]
theorem Dr {kindOf : Str -> Option NameKind} {x : Str} {v : Value} : ∀ {P : List Str} {vs : List Value} {i : Nat} {m : Str -> Option Value}, P.Nodup -> P[i]? = some x -> vs[i]? = some v -> kindOf x = some .local →
   bindL kindOf (P.zip vs) m x = some v
 | [], _, _, _, _, h, _, _ => by simp at h
 | _ :: _, [], _, _, _, _, h, _ => by simp at h
 | p :: P, w :: vs, 0, m, nd, h1, h2, hk => by
   simp at h1 h2; subst h1; subst h2
   show bindL kindOf ((p, w) :: P.zip vs) m p = _
   unfold bindL
   rw [Dp fun v hv => (ank.mp nd).1 (List.of_mem_zip hv).1, aml hk]
   simp
 | p :: P, w :: vs, i + 1, m, nd, h1, h2, hk => by
   show bindL kindOf ((p, w) :: P.zip vs) m x = _
   unfold bindL
   exact Dr (i := i) (List.nodup_cons.mp nd).2 (by simpa using h1) (by simpa using h2) hk
theorem Ds {kindOf : Str -> Option NameKind} {x : Str} {v : Value} : ∀ {P : List Str} {vs : List Value} {i : Nat} {m : Str -> Option Value}, P.Nodup -> P[i]? = some x -> vs[i]? = some v -> kindOf x ≠ some .local →
   bindC kindOf (P.zip vs) m x = some v
 | [], _, _, _, _, h, _, _ => by simp at h
 | _ :: _, [], _, _, _, _, h, _ => by simp at h
 | p :: P, w :: vs, 0, m, nd, h1, h2, hk => by
   simp at h1 h2; subst h1; subst h2
   show bindC kindOf ((p, w) :: P.zip vs) m p = _
   unfold bindC
   rw [Dq fun v hv => (ank.mp nd).1 (List.of_mem_zip hv).1, amg hk]
   simp
 | p :: P, w :: vs, i + 1, m, nd, h1, h2, hk => by
   show bindC kindOf ((p, w) :: P.zip vs) m x = _
   unfold bindC
   exact Ds (i := i) (List.nodup_cons.mp nd).2 (by simpa using h1) (by simpa using h2) hk
def start (N : List Str) (vs : List V) : St := vs.map some ++ List.replicate (N.length - vs.length) none
def wI (CX : RP) (P : Program) (w : World) (K : PySem.W.Frag) (mg : Str -> Option Value) (base : Heap) (N : List Str) (qual : Str) (scope : Scope) (f : Addr) (cd : Value) (A : Around) (outer : List Env) (s : Shared) (H : Hp) (E : XK) : Cx where
 prog := P
 w := w
 K := K
 mg := mg
 base := base
 A := A.deeper (envOfC qual scope s.heap.objs.size f cd)
 N := N
 s₀ := s
 H₀ := H
 env := envOfC qual scope s.heap.objs.size f cd
 outer := outer
 stack := envOfC qual scope s.heap.objs.size f cd :: outer
 ex := []
 calm := true
 fn := fun _ => true
 pn := []
 xe := fun e s' => wpAny (model P w) (A.deeper (envOfC qual scope s.heap.objs.size f cd)) (leaving (envOfC qual scope s.heap.objs.size f cd) e) (fun _ s'' => CX outer H s E e s'') (fun e' s'' => CX outer H s E e' s'') s'
theorem Hs {sc : Scope} {n : Nat} {x : Str} (h : sc.names.lookup x = some .cell) : ∃ c, (cellsFrom n sc.names []).lookup x = some c := by
 have q := PySem.W.cellsFrom_some sc.names n [] (.inl h)
 exact Option.isSome_iff_exists.mp q
theorem Pq {CX : RP} {P : Program} {w : World} {K : PySem.W.Frag} {mg : Str -> Option Value} {base : Heap} {N ps : List Str} {qual : Str} {scope : Scope} {f : Addr} {cd : Value} {A : Around} {outer : List Env} {s s1 : Shared} {H : Hp} {E : XK} {us : List Value} {vs : List V}
   (S : bC N ps scope) (hd : A.handled = none) (e0 : KG P w K mg base A outer s H) (hl : vs.length = ps.length) (r : Vals vs us)
   (x : InCallC s s.heap.objs.size (bindL (envOfC qual scope s.heap.objs.size f cd).kindOf (ps.zip us) fun _ => none) (cellsFrom y0.m scope.names []) (bindC (envOfC qual scope s.heap.objs.size f cd).kindOf (ps.zip us) fun _ => none) s1) :
   Inv (wI CX P w K mg base N qual scope f cd A outer s H E) [] (start N vs) H s1 := by
 have hpl : ps.length <= N.length := by have := congrArg List.length S.pre; rw [List.length_take] at this; omega
 obtain ⟨h1, tk, rfl, hk⟩ := x.done
 have noA : ∀ b : Addr, b ∉ (wI CX P w K mg base N qual scope f cd A outer s H E).ex := fun b z => absurd (show b ∈ ([] : List Addr) from z) y0.C
 refine ⟨⟨e0.mod, S.kind, rfl, rfl, amo _, fun y z c h1 h2 => ?_, fun y hy => ?_, fun y c _ h => ?_, fun _ => hd, Around.frames_deeper e0.frames, .inr ⟨rfl, rfl⟩, fun b z => absurd z (noA b), e0.bs, e0.RN, fun b _ _ => noA b, fun b z => absurd z (noA b), e0.tR, e0.Wk⟩,
   rfl, e0.bare, Un.kept hk, ⟨_, x.toInCall.ns, fun i y v h1 h2 h3 => ?_⟩, fun y c h => ⟨_, x.cell y c h⟩, e0.dM.fresh (amo _), fun y c h => ?_, fun p hp => absurd y0.cd y0.C, e0.dM.kept hk, ?_⟩
 . exact name_of_addr x.apart (anv h1) (anv h2)
 . have hy : scope.names.lookup y = some .cell \/ scope.names.lookup y = some .free := hy
   rcases hy with hy | hy
   . exact Hs hy
   . exact absurd rfl (S.aby _ (anv hy))
 . exact anf (x.above y c (anv h))
 . have hi : i < vs.length := by
     unfold start at h2
     by_cases hi : i < vs.length
     . exact hi
     . rw [List.getElem?_append_right y0.aC] at h2
       rw [aob] at h2
       split at h2 <;> cases h2
   have ha : vs[i]? = some v := by
     unfold start at h2
     rw [List.getElem?_append_left y0.aC, List.getElem?_map] at h2
     cases e : vs[i]? with
     | none => rw [e] at h2; cases h2
     | some a => rw [e] at h2; cases h2; rfl
   obtain ⟨u, hu, rv⟩ := r.get ha
   have hp : ps[i]? = some y := by
     rw [← S.pre, List.getElem?_take_of_lt y0.b]; exact h1
   have ndP : ps.Nodup := by rw [← S.pre]; exact S.nd.sublist (List.take_sublist _ _)
   refine ⟨u, rv, ?_⟩
   rcases S.par y (anb hp) with k | k
   . exact .inl ⟨k, Dr ndP hp hu k⟩
   . obtain ⟨c, e⟩ := Hs (n := s.heap.objs.size + 1) k
     refine .inr ⟨.inl k, c, e, ?_⟩
     have q := x.cell y c e
     rw [Ds ndP hp hu (by show scope.names.lookup y ≠ _; rw [k]; decide)] at q
     exact q
 . exact e0.dM.fresh (anf (x.above y c (anv h)))
 . unfold start
   show _ = N.length
   rw [amv, amh, ane]
   omega
theorem Sl {CX : RP} {P : Program} {w : World} {K : PySem.W.Frag} {mg : Str -> Option Value} {base : Heap} {k : Nat} {f : Addr} {name qual : Str} {params : Arguments} {body : List Stmt} {scope : Scope} {dV kV doc pm eo ct oc : Value} {an od : Option Addr}
   {Pr : Array (Option Value)} {N ps : List Str} {sp : Sp} (lk : K.lookup f = some ⟨oc, od, .func (PySem.W.fnOf name qual params body scope dV kV doc pm an eo ct), Pr⟩) (ko : PySem.W.codeIn K eo qual = true) (S : bC N ps scope)
   (len : ∀ vs H Q E, sp vs H Q E -> vs.length = ps.length)
   (Ht : ∀ (A : Around) (outer : List Env) (s : Shared) (H : Hp) (vs : List V) (Q : VK) (E : XK), gb k (A.deeper (envOfC qual scope s.heap.objs.size f eo)) -> sp vs H Q E →
     ∃ t, Kr y0.aZ body t /\ t { nx := fun _ H' => Q .non H', rt := Q } (start N vs) H) :
   cV P w K mg base CX (k + 1) f (PySem.W.fnOf name qual params body scope dV kV doc pm an eo ct) ps sp := by
 refine ⟨len, fun A outer s H args us vs Q E hr e0 hb r Kg => ?_⟩
 have hl := len _ _ _ _ Kg
 have KX : K.In s.heap := e0.mod.R1.keeps fun b o e => (e0.bs b o e).1
 have lim : s.heap.NoLimit := e0.mod.nolimit.keeps fun b o e => (e0.bs b o e).1
 have zL : ∀ y ∈ ps.zip us, scope.names.lookup y.1 = some .local \/ (scope.names.lookup y.1 = some .cell /\ ((cellsFrom y0.m scope.names []).lookup y.1).isSome = true) := fun ⟨n, v⟩ hy => by
   rcases S.par n (List.of_mem_zip hy).1 with q | q
   . exact .inl q
   . exact .inr ⟨q, PySem.W.cellsFrom_some _ _ _ (.inl q)⟩
 refine codeAny_call_function hr.depth (KX _ _ lk) rfl S.co S.gen rfl (PySem.W.codeRec_of KX ko) (hb _ _ _ _ ?_)
 refine wpAny_newFunctionEnv_cells S.kind zL fun env he s1 x => ?_
 subst he
 refine ⟨lim.keeps x.toInCall.keep, codeAny_func ?_⟩
 obtain ⟨t, ht, hq⟩ := Ht A outer s H vs Q E (hr.deeper _) Kg
 have I : Inv y0.aZ [] (start N vs) H s1 := Pq S hr.hd e0 hl r x
 refine ani (ht [] s1 (start N vs) H _ I hq) (fun fl s' hs => ?_) fun e s' hs => hs
 have fin : ∀ {σ' : St} {H' : Hp} {v : V} {u : Value}, Inv y0.aZ [] σ' H' s' -> RelV v u -> Q v H' -> CE outer P w H s Q u s' :=
   fun {σ' H' v u} J rv q => ⟨v, H', J.os, J.bare, J.base, J.dM, rv, q⟩
 cases fl with
 | ret u =>
   obtain ⟨v, σ', H', J, rv, q⟩ := hs
   exact fin J rv q
 | next =>
   obtain ⟨σ', H', J, q⟩ := hs
   exact fin (v := V.non) (u := Value.none) J rfl q
 | brk =>
   obtain ⟨_, _, _, q⟩ := hs
   exact False.elim q
 | cont =>
   obtain ⟨_, _, _, q⟩ := hs
   exact False.elim q
section
variable {X : Cx} {x : Str} {p pos : Pos} {e : Expr} {es : List Expr} {t : TA} {id T : String} {r : List V -> Hp -> VK -> Prop}
def tCB (r : List V -> Hp -> VK -> Prop) (t : TA) : TE := fun σ H Q => t σ H fun vs H1 => r vs H1 Q
theorem kX (hc : kU X (.builtin id) r) (hg : Gl X x) (hm : X.mg x = none) (hv : bootBuiltins x = some (.builtin id)) (ha : PA X (e :: es) t) (hn : x ≠ "__name__" := by decide) (wH : y0.i = false := by decide)
   (he : starEach y0.ag X.env = (false, eval e X.env) :: starEach es X.env := by rfl) (hpl : (backTo pos y0.M).any (·.1) = false := by rfl) : PE X y0.cl (tCB r t) := by
 intro pins s σ H Q I h
 refine anN (tS I hg hm hv ?_ hn wH)
 exact PyProof.Rows.callWith_builtin1 (fu y0.ax fun us s1 ⟨vs, H1, I1, r1, q1⟩ => hc pins s1 σ H1 vs us Q I1 r1 q1) he hpl
theorem jt (hc : kU X (.type T) r) (hg : Gl X x) (hm : X.mg x = none) (hv : bootBuiltins x = some (.type T)) (ha : PA X (e :: es) t) (hn : x ≠ "__name__" := by decide) (wH : y0.i = false := by decide)
   (he : starEach y0.ag X.env = (false, eval e X.env) :: starEach es X.env := by rfl) (hpl : (backTo pos y0.M).any (·.1) = false := by rfl) : PE X y0.cl (tCB r t) := by
 intro pins s σ H Q I h
 refine anN (tS I hg hm hv ?_ hn wH)
 exact anV (fu y0.ax fun us s1 ⟨vs, H1, I1, r1, q1⟩ => hc pins s1 σ H1 vs us Q I1 r1 q1) he hpl
end
end L2
namespace HT
open PySem PyProof.Rows
section
open PySem.SeqAt
open PySem.AutoSeq1 (wpAny_loadPart')
open PySem.MeetsSeq PySem.MeetsSeq2 PySem.MeetsSeq3
end
section
variable {prog : Program} {w : World} {A : Around} {E : Value -> Shared -> Prop} {s : Shared}
theorem WM {t b : Addr} {vs ws : List Value} {Q : Value -> Shared -> Prop} (ht : IsTup s.heap t vs.toArray) (hb : IsTup s.heap b ws.toArray) (hv : vs ≠ [])
   (h1 : ws = [] -> Q (.ref t) s) (h2 : ws ≠ [] -> Q y0.aI { s with heap := s.heap.push { cls := .type "tuple", data := .seq (vs ++ ws).toArray } })
   (hsz : vs.length + ws.length <= sizeLine) : wpAny y0.w A (binaryOp .Add (.ref t) (.ref b)) Q E s := by
 obtain ⟨⟨cls, dd, data, sl⟩, ho, hc, n, hd⟩ := id ht
 obtain ⟨⟨ahF, dd2, data2, Wo⟩, Wq, wJ, n2, hd2⟩ := id hb
 simp only at hc hd wJ hd2
 subst hc hd wJ hd2
 have e : vs.toArray ++ ws.toArray = (vs ++ ws).toArray := by simp
 by_cases hw : ws = []
 . exact concat_meets ⟨_, ho, rfl⟩ ⟨_, Wq, rfl⟩ noFill_tuple_add seq_tuple_add PySem.F.slot_tuple_add PySem.F.entry_tuple_add (PySem.F.args_tuple_add_2 _ _)
     (tuple_addW1 t b vs.toArray ws.toArray n n2 dd dd2 sl Wo (by simpa using hv) (by simp [hw])) ⟨ho, Wq, h1 hw⟩
 . refine concat_meets ⟨_, ho, rfl⟩ ⟨_, Wq, rfl⟩ noFill_tuple_add seq_tuple_add PySem.F.slot_tuple_add PySem.F.entry_tuple_add (PySem.F.args_tuple_add_2 _ _)
     (tuple_addW2 t b vs.toArray ws.toArray n n2 dd dd2 sl Wo (by simpa using hv) (by simpa using hw) (by rw [List.size_toArray, List.size_toArray]; exact hsz)) ⟨ho, Wq, ?_⟩
   rw [e]
   exact h2 hw
def B4 (n d : Nat) : Option Int -> Nat
 | none => d
 | some v => if v < 0 then (v + (n : Int)).toNat else min v.toNat n
end
end HT
namespace L2
open PySem PySem.Spec PyProof.Rows
abbrev TO := St -> Hp -> (Option Int -> Hp -> Prop) -> Prop
def PO (X : Cx) (e : Option Expr) (t : TO) : Prop :=
 ∀ (pins : List y0.p) (s : Shared) (σ : St) (H : Hp) (Q : Option Int -> Hp -> Prop), Inv X pins σ H s -> t σ H Q →
   wpAny y0.d X.A (evalPart e X.env) (fun u s' => ∃ o H', Inv X pins σ H' s' /\ IsPart u o /\ Q o H') X.xe s
def WN : TO := fun _ H Q => Q none H
def ae9 (t : TE) : TO := fun σ H Q => t σ H fun x H1 => ∃ i, x = .int i /\ Q (some i) H1
theorem intsAre_of {ns : List Int} : ∀ {us : List Value}, Vals (ns.map V.int) us -> IntsAre us ns := by
 induction ns with
 | nil => intro us r; rw [List.map_nil] at r; cases r; exact .nil
 | cons n ns ih =>
   intro us r
   rw [amD] at r
   cases r with
   | cons r1 r2 =>
     obtain ⟨t, e⟩ := r1
     subst e
     exact .cons n t (ih r2)
section
variable {X : Cx} {e : Expr} {te : TE} {lo hi : Option Expr} {tl th : TO} {pos p2 : Pos}
theorem WO : PO X none WN := by
 intro pins s σ H Q I h
 rw [evalPart_none]
 exact amW ⟨none, H, I, .none, h⟩
theorem WQ (h : PE X e te) : PO X (some e) (ae9 te) := by
 intro pins s σ H Q I hw
 rw [evalPart_some]
 refine fu (h pins s σ H _ I hw) fun u s1 zz => ?_
 obtain ⟨x, H1, I1, r1, q1⟩ := zz
 obtain ⟨i, rfl, q⟩ := q1
 obtain ⟨t, rfl⟩ := r1
 exact ⟨some i, H1, I1, .int i t, q⟩
def SlR (X : Cx) (r : V -> Option Int -> Option Int -> Hp -> VK -> Prop) : Prop :=
 ∀ (pins : List y0.p) (s : Shared) (σ : St) (H : Hp) (x : V) (v vl vu : Value) (lo hi : Option Int) (sl : Addr) (Q : VK), Inv X pins σ H s -> RelV x v -> s.heap.IsSliceOf sl vl vu .none -> IsPart vl lo -> IsPart vu hi -> r x lo hi H Q →
   ∃ T id, typeLookup (.type T) "__getitem__" = pure (some (.builtin id)) /\ s.TypeIs v T /\ wpAny y0.d X.A (getItem v (.ref sl)) y0.af X.xe s
def tSl (r : V -> Option Int -> Option Int -> Hp -> VK -> Prop) (te : TE) (tl th : TO) : TE := fun σ H Q => te σ H fun x H1 => tl σ H1 fun l H2 => th σ H2 fun u H3 => r x l u H3 Q
theorem Sn {r : V -> Option Int -> Option Int -> Hp -> VK -> Prop} (hr : SlR X r) (he : PE X e te) (hl : PO X lo tl) (hu : PO X hi th) : PE X (.Subscript e (.Slice lo hi none p2) pos) (tSl r te tl th) := by
 intro pins s σ H Q I h
 refine Subscript_ (fu y0.bu fun v s1 zz => ?_)
 obtain ⟨x, H1, I1, r1, q1⟩ := zz
 refine wpAny_Slice (fu (hl pins s1 σ H1 _ I1 q1) fun vl s2 ⟨l, H2, I2, pl, q2⟩ => fu (hu pins s2 σ H2 _ I2 q2) fun vu s3 zz => ?_)
 obtain ⟨u, H3, I3, pu, q3⟩ := zz
 rw [evalPart_none]
 refine amW ?_
 have I4 : Inv X pins σ H3 { s3 with heap := s3.heap.push { cls := .type "slice", data := .fields #[vl, vu, .none] } } := I3.kept (t' := s3.toks) fun b ob q => amy _ q
 obtain ⟨T, id, hT, ht, hg⟩ := hr pins { s3 with heap := s3.heap.push { cls := .type "slice", data := .fields #[vl, vu, .none] } } σ H3 x v vl vu l u s3.heap.objs.size Q I4 r1 (Heap.IsSliceOf.new ..) pl pu q3
 show wpAny y0.d X.A (subscriptTail e (.Slice lo hi none p2) v (.ref s3.heap.objs.size)) y0.af X.xe { s3 with heap := s3.heap.push { cls := .type "slice", data := .fields #[vl, vu, .none] } }
 exact tail_any (ops := [.ref s3.heap.objs.size, v]) ht hT hg (by with_unfolding_all rfl)
def Pu (xs : List V) (lo hi : Option Int) : List V := (xs.drop (HT.B4 xs.length 0 lo)).take y0.ba
theorem Hu (xs : List V) (lo hi : Option Int) : (Pu xs lo hi).length <= xs.length := by
 unfold Pu
 rw [List.length_take, am8]
 omega
def afa (K : PySem.W.Frag) : R2 := fun x y H Q => ∃ a b xs ys, x = .ref a /\ y = .ref b /\ uM K H a xs /\ uM K H b ys /\ xs ≠ [] /\ xs.length + ys.length <= sizeLine ∧
 (ys = [] -> Q (.ref a) H) /\ (ys ≠ [] -> ∀ p, H p = none -> Q (.ref p) (upd H p (.tup (xs ++ ys))))
theorem Vals.yS {xs : List V} {us : List Value} (r : Vals xs us) : us = [] ↔ xs = [] := by
 cases r with
 | nil => simp
 | cons _ _ => simp
theorem NS : yJ X (binaryOp .Add) (afa X.K) := by
 intro pins s σ H x y v u Q I rx ry h
 obtain ⟨a, b, xs, ys, rfl, rfl, ha, hb, hx, hz, q1, q2⟩ := h
 cases rx
 cases ry
 obtain ⟨its, r1, p1, _⟩ := I.tuple ha
 obtain ⟨zM, r2, p2, _⟩ := I.tuple hb
 refine HT.WM p1 p2 (fun z => hx (r1.yS.mp z)) (fun z => ⟨.ref a, H, I, rfl, q1 (r2.yS.mp z)⟩) (fun z => ?_) (by rw [← r1.length, ← r2.length]; exact hz)
 refine ⟨.ref s.heap.objs.size, _, I.laid (t' := s.toks) (o := .tup (xs ++ ys)) (fun b ob q => amy _ q) (amo _) ?_, rfl, q2 (fun w => z (r2.yS.mpr w)) _ y0.bm⟩
 exact ⟨by rw [amv]; exact hz, _, r1.append r2, IsTup.new _ _⟩
end
def Sq (n : Nat) (i : Int) : Option Nat := if 0 <= i then (if i < n then some i.toNat else none) else if -(n : Int) <= i then some (i + n).toNat else none
def uN {α : Type} (xs : List α) (i : Int) : Option α := (Sq xs.length i).bind fun j => xs[j]?
theorem En {n : Nat} {i : Int} {j : Nat} (h : Sq n i = some j) : seqIndex? i n = some j /\ j < n /\ -(n : Int) <= i /\ i < n := by
 unfold Sq at h
 by_cases h0 : 0 <= i
 . rw [aml h0] at h
   by_cases h1 : i < n
   . rw [aml h1] at h
     have e : i.toNat = j := amK h
     exact ⟨by rw [seqIndex_of h0 h1, e], by omega, by omega, h1⟩
   . rw [amg h1] at h; cases h
 . rw [amg h0] at h
   by_cases h1 : -(n : Int) <= i
   . rw [aml h1] at h
     have e : (i + n).toNat = j := amK h
     exact ⟨by rw [seqIndex_neg y0.b h1, e], by omega, h1, by omega⟩
   . rw [amg h1] at h; cases h
theorem Eo {α : Type} {xs : List α} {i : Int} {v : α} (h : uN xs i = some v) : ∃ j, seqIndex? i xs.length = some j /\ xs[j]? = some v /\ j < xs.length /\ -(xs.length : Int) <= i /\ i < xs.length := by
 unfold uN at h
 cases e : Sq xs.length i with
 | none => rw [e] at h; cases h
 | some j =>
   rw [e] at h
   obtain ⟨h1, h2, h3, h4⟩ := En e
   exact ⟨j, h1, h, h2, h3, h4⟩
theorem aY {α : Type} {xs : List α} {j : Nat} {v : α} (h : xs[j]? = some v) : uN xs (j : Int) = some v := by
 have hj : j < xs.length := (amU.mp h).1
 have e : Sq xs.length (j : Int) = some j := by
   unfold Sq
   rw [aml y0.b, aml y0.b]; simp
 unfold uN; rw [e]; exact h
def rP (b : Expr) : Prop := ∀ o i, subscripted b false o i = operate [o, i] (getItem o i)
def IxR (X : Cx) (r : R2) : Prop :=
 ∀ (value slice : Expr) (pins : List y0.p) (s : Shared) (σ : St) (H : Hp) (x y : V) (v u : Value) (Q : VK), Inv X pins σ H s -> RelV x v -> RelV y u -> r x y H Q →
   subscripted slice false v u = operate [v, u] (getItem v u) -> wpAny y0.d X.A (subscriptTail value slice v u) y0.af X.xe s
def MtR (X : Cx) (id : String) (r : V -> List V -> Hp -> VK -> Prop) : Prop :=
 ∀ (pins : List y0.p) (s : Shared) (σ : St) (H : Hp) (x : V) (xs : List V) (v : Value) (us : List Value) (Q : VK), Inv X pins σ H s -> RelV x v -> Vals xs us -> r x xs H Q →
   wpAny y0.d X.A (call (.builtin id) (v :: us)) y0.af X.xe s
section
variable {X : Cx} {a b : Expr} {ta tb : TE} {pos : Pos}
theorem Hv {r : R2} (hr : IxR X r) (ha : PE X a ta) (hb : PE X b tb) (hs : rP b) : PE X (.Subscript a b pos) (tOp r ta tb) := by
 intro pins s σ H Q I h
 exact Subscript_ (abk ha hb I h fun v u s2 x y H2 I2 rx ry q => hr a b pins s2 σ H2 x y v u Q I2 rx ry q (hs _ _))
def ahH (K : PySem.W.Frag) : R2 := fun x y H Q => ∃ p xs i v, x = .ref p /\ y = .int i /\ qk K H p xs /\ uN xs i = some v /\ Q v H
def ahI (K : PySem.W.Frag) : R2 := fun x y H Q => ∃ p xs i v, x = .ref p /\ y = .int i /\ uM K H p xs /\ uN xs i = some v /\ Q v H
def ahJ : R2 := fun x y H Q => ∃ z i c, x = .str z /\ y = .int i /\ z.length <= sizeLine /\ uN z.cps.toList i = some c /\ Q (.str ⟨#[c]⟩) H
theorem NT : IxR X (ahH X.K) := by
 intro value slice pins s σ H x y v u Q I rx ry h hs
 obtain ⟨p, xs, i, z, rfl, rfl, hq, he, q⟩ := h
 cases rx
 obtain ⟨t, rfl⟩ := ry
 obtain ⟨its, r, pl, hz⟩ := I.list hq
 obtain ⟨j, h1, h2, h3, h4, h5⟩ := Eo he
 obtain ⟨w, ew, Pw⟩ := r.get h2
 have hl := r.length
 have hn := wF
 have fin : EP X pins σ Q w s := ⟨z, H, I, Pw, q⟩
 by_cases h0 : 0 <= i
 . have hj : i.toNat = j := by
     rw [seqIndex_of h0 h5] at h1
     exact amK h1
   exact item_listR pl.isList h0 y0.b (by rw [hj]; simpa using ew) fin hs
 . have hj : (i + (its.toArray.size : Int)).toNat = j := by
     rw [seqIndex_neg y0.b h4] at h1
     rw [amF, ← hl]
     exact amK h1
   exact subscriptTail_builtinR (x := w) pl.isList.typeIs slot_list_getitem.lookup
     (wpAny_getItem_list_neg (Q := fun r s' => r = w /\ EP X pins σ Q r s') pl.isList y0.b (by rw [List.size_toArray] <;> omega) y0.b (by rw [hj]; simpa using ew) ⟨rfl, fin⟩) hs
theorem Ss : IxR X (ahI X.K) := by
 intro value slice pins s σ H x y v u Q I rx ry h hs
 obtain ⟨p, xs, i, z, rfl, rfl, hq, he, q⟩ := h
 cases rx
 obtain ⟨t, rfl⟩ := ry
 obtain ⟨its, r, pl, hz⟩ := I.tuple hq
 obtain ⟨j, h1, h2, h3, h4, h5⟩ := Eo he
 obtain ⟨w, ew, Pw⟩ := r.get h2
 have hl := r.length
 have hn := wF
 have fin : EP X pins σ Q w s := ⟨z, H, I, Pw, q⟩
 exact subscriptTail_builtinR (x := w) pl.typeIs slot_tuple_getitem.lookup
   (getItem_tuple (j := j) (Q := fun r s' => r = w /\ EP X pins σ Q r s') pl y0.b y0.b (by rw [List.size_toArray, ← hl]; exact h1) (by simpa using ew) ⟨rfl, fin⟩) hs
theorem abz : IxR X ahJ := by
 intro value slice pins s σ H x y v u Q I rx ry h hs
 obtain ⟨z, i, c, rfl, rfl, hz, he, q⟩ := h
 obtain ⟨t, rfl⟩ := rx
 obtain ⟨t', rfl⟩ := ry
 obtain ⟨j, h1, h2, h3, h4, h5⟩ := Eo he
 have hl : z.cps.toList.length = z.length := by simp [Str.length]
 rw [hl] at h1 h4 h5
 have hn := wF
 exact tail_any (typeIs_str s z t) slot_str_getitem.lookup (getItem_str (c := c) (by
   have e1 : decide (i < -(2 ^ 63 : Int)) = false := ang y0.b
   have e2 : decide (i ≥ 2 ^ 63) = false := ang y0.b
   rw [e1, e2, Bool.or_false]) (by rw [h1]; simpa using h2) ⟨.str ⟨#[c]⟩, H, I.tok _, ⟨_, rfl⟩, q⟩) hs
theorem KH (its : List Value) (n j : Nat) (u : Value) : Obj.mapSeq (·.setIfInBounds j u) { cls := .type "list", data := .seq its.toArray n } = { cls := .type "list", data := .seq (its.set j u).toArray n } := by
 simp [Obj.mapSeq]
theorem Inv.lst {pins : List (Addr × Obj)} {σ : St} {H : Hp} {s : Shared} {p : Addr} {xs : List V} (I : Inv X pins σ H s) (h : H p = some (.lst xs)) :
   ∃ (its : List Value) (n : Nat), Vals xs its /\ s.heap.get? p = some { cls := .type "list", data := .seq its.toArray n } /\ xs.length <= sizeLine := by
 obtain ⟨z, its, n, r, e⟩ := I.dM p _ h
 exact ⟨its, n, r, e, z⟩
theorem Inv.abA {pins : List (Addr × Obj)} {σ : St} {H : Hp} {s : Shared} {p : Addr} {xs ys : List V} {its its' : List Value} {n n' : Nat} {f : Obj -> Obj} (I : Inv X pins σ H s) (h : H p = some (.lst xs))
   (ho : s.heap.get? p = some { cls := .type "list", data := .seq its.toArray n }) (hf : f { cls := .type "list", data := .seq its.toArray n } = { cls := .type "list", data := .seq its'.toArray n' }) (r : Vals ys its') (hz : ys.length <= sizeLine) (t : Nat) :
   Inv X pins σ (upd H p (.lst ys)) { s with heap := s.heap.update p f, toks := t } := by
 have e : (s.heap.update p f).get? p = some { cls := .type "list", data := .seq its'.toArray n' } := by
   rw [Heap.get?_update_self f ho (by rw [hf] <;> rfl), hf]
 refine I.write (x := p) (e := p) (by rw [h]; trivial) y0.az (fun b u hb q => (Heap.get?_update_other _ _ (an8 hb)).trans q) ⟨_, e⟩ ?_
 exact ⟨hz, its', n', r, e⟩
def afb : V -> V -> V -> Hp -> (Hp -> Prop) -> Prop := fun o i v H Q => ∃ p xs k j, o = .ref p /\ i = .int k /\ H p = some (.lst xs) /\ Sq xs.length k = some j /\ Q (upd H p (.lst (xs.set j v)))
theorem set_list : aeR X afb := by
 intro pins s σ H o i v ov iv u Q I ro ri rv h
 obtain ⟨p, xs, k, j, rfl, rfl, hp, hj, q⟩ := h
 cases ro
 obtain ⟨t, rfl⟩ := ri
 obtain ⟨its, n, r, ho, hz⟩ := I.lst hp
 obtain ⟨h1, h2, h3, h4⟩ := En hj
 have hl := r.length
 have hn := wF
 have I' : Inv X pins σ (upd H p (.lst (xs.set j v))) { s with heap := s.heap.update p (Obj.mapSeq (·.setIfInBounds j u)) } :=
   I.abA hp ho (KH its n j u) (r.set rv j) (by rw [List.length_set]; exact hz) s.toks
 by_cases h0 : 0 <= k
 . have hk : k.toNat = j := by
     rw [seqIndex_of h0 h4] at h1
     exact amK h1
   exact PySem.W.ki_setAt ho h0 y0.b (by rw [amF, ← hl]; exact h4) (by rw [hk]; exact ⟨_, I', q⟩)
 . have hk : (k + (its.toArray.size : Int)).toNat = j := by
     rw [seqIndex_neg y0.b h3] at h1
     rw [amF, ← hl]
     exact amK h1
   exact PySem.W.ki_setBack ho y0.b (by rw [amF, ← hl]; exact h3) y0.b (by rw [hk]; exact ⟨_, I', q⟩)
theorem Ep (lo hi : Option Int) (n : Nat) : (sliceBounds lo hi none n).1 = ((HT.B4 n 0 lo : Nat) : Int) /\ (sliceBounds lo hi none n).2.1 = ((HT.B4 n n hi : Nat) : Int) /\ (sliceBounds lo hi none n).2.2 = 1 := by
 refine ⟨?_, ?_, rfl⟩
 . cases lo with
   | none => simp [sliceBounds, HT.B4]
   | some i =>
     simp only [sliceBounds, HT.B4, Option.getD_none, show (1 : Int) > 0 by decide, aoi]
     by_cases h : i < 0
     . simp only [h, aoi] <;> omega
     . simp only [h, an1] <;> omega
 . cases hi with
   | none => simp [sliceBounds, HT.B4]
   | some i =>
     simp only [sliceBounds, HT.B4, Option.getD_none, show (1 : Int) > 0 by decide, aoi]
     by_cases h : i < 0
     . simp only [h, aoi] <;> omega
     . simp only [h, an1] <;> omega
theorem B5 (its : List Value) (lo hi : Option Int) : slicePick its.toArray lo hi none = ((its.drop (HT.B4 its.length 0 lo)).take (HT.B4 its.length its.length hi - HT.B4 its.length 0 lo)).toArray := by
 obtain ⟨h1, h2, h3⟩ := Ep lo hi its.toArray.size
 unfold slicePick
 rw [h1, h2, h3]
 simp only [sliceRange_one, pick_run, amF] <;> rfl
def ahK (K : PySem.W.Frag) : V -> Option Int -> Option Int -> Hp -> VK -> Prop := fun x lo hi H Q => ∃ a xs, x = .ref a /\ qk K H a xs /\ ∀ p, H p = none -> Q (.ref p) (upd H p (.lst (Pu xs lo hi)))
theorem WR : SlR X (ahK X.K) := by
 intro pins s σ H x v vl vu lo hi sl Q I rx hs pl pu h
 obtain ⟨a, xs, rfl, hx, q⟩ := h
 cases rx
 obtain ⟨its, r, ht, hz⟩ := I.list hx
 have hlen := r.length
 refine ⟨"list", _, slot_list_getitem.lookup, ht.isList.typeIs, ?_⟩
 refine wpAny_getItem_list_slice ht.isList hs pl pu .none y0.C ?_ (by rw [amF] <;> omega)
 rw [B5, ← hlen]
 refine ⟨.ref s.heap.objs.size, _, I.laid (t' := s.toks) (o := .lst (Pu xs lo hi)) (fun b ob q => amy _ q) (amo _) ?_, rfl, q _ y0.bm⟩
 exact ⟨anB (Hu xs lo hi) hz, _, 0, (r.drop (HT.B4 xs.length 0 lo)).take y0.ba, amY _ rfl⟩
def sX : V -> Bool
 | .non => true
 | .bl _ => true
 | .int _ => true
 | .str _ => true
 | _ => false
def Sv : V -> V -> Bool
 | .non, .non => true
 | .bl a, .bl b => a == b
 | .bl a, .int b => (if a then 1 else 0) == b
 | .int a, .bl b => a == (if b then 1 else 0)
 | .int a, .int b => a == b
 | .str a, .str b => a == b
 | _, _ => false
theorem abB {A : Around} {s : Shared} {y x : V} {u v : Value} (ry : RelV y u) (rx : RelV x v) (fy : sX y = true) (fx : sX x = true) : SeqAt.EqAt A s u v (Sv y x) := by
 cases y with
 | non =>
   cases ry
   cases x with
   | non => cases rx; exact SeqAt.EqAt.same _
   | bl b => cases rx; exact SeqAt.EqAt.none_bool b
   | int b => obtain ⟨t, rfl⟩ := rx; exact SeqAt.EqAt.none_int b t
   | str b => obtain ⟨t, rfl⟩ := rx; exact SeqAt.EqAt.none_str b t
   | _ => exact absurd (show false = true from fx) amE
 | bl a =>
   cases ry
   cases x with
   | non => cases rx; exact SeqAt.EqAt.bool_none a
   | bl b => cases rx; exact SeqAt.EqAt.bool_bool a b
   | int b => obtain ⟨t, rfl⟩ := rx; exact SeqAt.EqAt.bool_int a b t
   | str b => obtain ⟨t, rfl⟩ := rx; exact SeqAt.EqAt.bool_str a b t
   | _ => exact absurd (show false = true from fx) amE
 | int a =>
   obtain ⟨t', rfl⟩ := ry
   cases x with
   | non => cases rx; exact SeqAt.EqAt.int_none a t'
   | bl b => cases rx; exact SeqAt.EqAt.int_bool a t' b
   | int b => obtain ⟨t, rfl⟩ := rx; exact SeqAt.EqAt.int_int a t' b t
   | str b => obtain ⟨t, rfl⟩ := rx; exact SeqAt.EqAt.int_str a t' b t
   | _ => exact absurd (show false = true from fx) amE
 | str a =>
   obtain ⟨t', rfl⟩ := ry
   cases x with
   | non => cases rx; exact SeqAt.EqAt.str_none a t'
   | bl b => cases rx; exact SeqAt.EqAt.str_bool a t' b
   | int b => obtain ⟨t, rfl⟩ := rx; exact SeqAt.EqAt.str_int a t' b t
   | str b => obtain ⟨t, rfl⟩ := rx; exact SeqAt.EqAt.str_str a t' b t
   | _ => exact absurd (show false = true from fx) amE
 | _ => exact absurd (show false = true from fy) amE
def KJ (x : V) (u : Value) : Bool := match u with
 | .none => Sv .non x
 | .bool b => Sv (.bl b) x
 | .int i _ => Sv (.int i) x
 | .str z _ => Sv (.str z) x
 | _ => false
theorem Sw {x y : V} {u : Value} (r : RelV y u) (f : sX y = true) : KJ x u = Sv y x := by
 cases y with
 | non => cases r; rfl
 | bl b => cases r; rfl
 | int i => obtain ⟨t, rfl⟩ := r; rfl
 | str z => obtain ⟨t, rfl⟩ := r; rfl
 | _ => exact absurd (show false = true from f) amE
theorem uR {x : V} : ∀ {xs : List V} {us : List Value}, Vals xs us -> xs.all sX = true -> us.any (KJ x) = xs.any fun y => Sv y x
 | _, _, .nil, _ => rfl
 | y :: xs, u :: us, .cons r t, f => by
   rw [aox, am1] at f
   rw [anS, anS, Sw r f.1, uR t f.2]
theorem qv {A : Around} {s : Shared} {x : V} {v : Value} (rx : RelV x v) (fx : sX x = true) : ∀ {xs : List V} {us : List Value}, Vals xs us -> xs.all sX = true -> ∀ u ∈ us, SeqAt.EqAt A s u v (KJ x u)
 | _, _, .nil, _ => fun u hu => by cases hu
 | y :: xs, u :: us, .cons r t, f => fun u' hu => by
   rw [aox, am1] at f
   rcases amt.mp hu with rfl | hu
   . rw [Sw r f.1]; exact abB r rx f.1 fx
   . exact qv rx fx t f.2 u' hu
def inV (x : V) (xs : List V) : Bool := xs.any fun y => Sv y x
def rIn (K : PySem.W.Frag) (neg : Bool) : R2 := fun x y H Q => ∃ p xs, y = .ref p /\ (qk K H p xs \/ uM K H p xs) /\ sX x = true /\ xs.all sX = true /\ Q (.bl (if neg then !inV x xs else inV x xs)) H
theorem Dt : yJ X (compareOp .In) (rIn X.K false) := by
 intro pins s σ H x y v u Q I rx ry h
 obtain ⟨p, xs, rfl, hq, fx, fs, q⟩ := h
 cases ry
 rcases hq with hq | hq
 . obtain ⟨its, r, pl, hz⟩ := I.list hq
   refine SeqAt.in_listAt (KJ x) pl.isList y0.av ⟨.bl _, H, I, rfl, ?_⟩
   rw [show its.toArray.any (KJ x) = its.any (KJ x) by simp, uR r fs]
   exact q
 . obtain ⟨its, r, pl, hz⟩ := I.tuple hq
   refine SeqAt.in_tupleAt (KJ x) pl y0.av ⟨.bl _, H, I, rfl, ?_⟩
   rw [show its.toArray.any (KJ x) = its.any (KJ x) by simp, uR r fs]
   exact q
theorem kK : yJ X (compareOp .NotIn) (rIn X.K true) := by
 intro pins s σ H x y v u Q I rx ry h
 obtain ⟨p, xs, rfl, hq, fx, fs, q⟩ := h
 cases ry
 rcases hq with hq | hq
 . obtain ⟨its, r, pl, hz⟩ := I.list hq
   refine SeqAt.notIn_listAt (KJ x) pl.isList y0.av ⟨.bl _, H, I, rfl, ?_⟩
   rw [show its.toArray.any (KJ x) = its.any (KJ x) by simp, uR r fs]
   exact q
 . obtain ⟨its, r, pl, hz⟩ := I.tuple hq
   refine SeqAt.notIn_tupleAt (KJ x) pl y0.av ⟨.bl _, H, I, rfl, ?_⟩
   rw [show its.toArray.any (KJ x) = its.any (KJ x) by simp, uR r fs]
   exact q
theorem uS : kU X (.builtin "len") (fun xs H Q => ∃ p ys, xs = [.ref p] /\ (qk X.K H p ys \/ uM X.K H p ys) /\ Q (.int ys.length) H) := by
 intro pins s σ H xs us Q I r h
 obtain ⟨p, ys, rfl, hq, q⟩ := h
 obtain ⟨u, rfl, rx⟩ := vals1 r
 cases rx
 have hn := wF
 rcases hq with hq | hq
 . obtain ⟨its, r', pl, hz⟩ := I.list hq
   have hlen := r'.length
   exact Calls.call_len_list pl.isList y0.aR ⟨.int ys.length, H, I.tok _, ⟨s.toks + 1, by rw [amF, hlen]⟩, q⟩
 . obtain ⟨its, r', pl, hz⟩ := I.tuple hq
   have hlen := r'.length
   exact len_tuple pl y0.aR ⟨.int ys.length, H, I.tok _, ⟨s.toks + 1, by rw [amF, hlen]⟩, q⟩
theorem Er : kU X (.type "list") (fun xs H Q => ∃ p ys, xs = [.ref p] /\ (qk X.K H p ys \/ uM X.K H p ys) /\ ∀ l, H l = none -> Q (.ref l) (upd H l (.lst ys))) := by
 intro pins s σ H xs us Q I r h
 obtain ⟨p, ys, rfl, hq, q⟩ := h
 obtain ⟨u, rfl, rx⟩ := vals1 r
 cases rx
 have fin : ∀ (its : List Value), Vals ys its -> ys.length <= sizeLine -> ∀ (h' : Heap) (c' : Nat), (∀ b o', s.heap.get? b = some o' -> h'.get? b = some o') →
     h'.get? s.heap.objs.size = some { cls := .type "list", dict := none, data := .seq its.toArray c', slots := #[] } -> EP X pins σ Q y0.aI { s with heap := h' } := fun its r' hz h' c' kp e =>
   ⟨.ref s.heap.objs.size, _, I.laid (t' := s.toks) kp (amo _) (show fB X.prog X.w _ h' _ (.lst ys) from ⟨hz, its, c', r', e⟩), rfl, q _ y0.bm⟩
 rcases hq with hq | hq
 . obtain ⟨its, r', pl, hz⟩ := I.list hq
   have hlen := r'.length
   obtain ⟨o, ho, hc, n, hd⟩ := pl.isList
   exact call_list_seq p y0.az ho hc hd (fun h' c' kp e => fin its r' hz h' c' kp e) y0.aR
 . obtain ⟨its, r', pl, hz⟩ := I.tuple hq
   have hlen := r'.length
   obtain ⟨o, ho, hc, n, hd⟩ := pl
   exact call_list_seq p y0.bn ho hc hd (fun h' c' kp e => fin its r' hz h' c' kp e) y0.aR
theorem B6 : kU X (.type "tuple") (fun xs H Q => ∃ p ys, xs = [.ref p] /\ ((qk X.K H p ys /\ ∀ l, H l = none -> Q (.ref l) (upd H l (.tup ys))) \/ (uM X.K H p ys /\ Q (.ref p) H))) := by
 intro pins s σ H xs us Q I r h
 obtain ⟨p, ys, rfl, h⟩ := h
 obtain ⟨u, rfl, rx⟩ := vals1 r
 cases rx
 rcases h with ⟨hq, q⟩ | ⟨hq, q⟩
 . obtain ⟨its, r', pl, hz⟩ := I.list hq
   have hlen := r'.length
   refine call_tuple_list pl.isList (fun h' kp => ?_) y0.aR
   have I1 : Inv X pins σ H { s with heap := h' } := I.kept (t' := s.toks) kp
   have I2 : Inv X pins σ (upd H h'.objs.size (.tup ys)) { s with heap := h'.push { cls := .type "tuple", data := .seq its.toArray } } :=
     I1.laid (t' := s.toks) (fun b o e => amy _ e) (amo _) (show fB X.prog X.w _ _ _ (.tup ys) from ⟨hz, its, r', IsTup.new _ _⟩)
   exact ⟨.ref h'.objs.size, _, I2, rfl, q _ (I1.dM.fresh (amo _))⟩
 . obtain ⟨its, r', pl, hz⟩ := I.tuple hq
   exact call_tuple_same pl ⟨.ref p, H, I, rfl, q⟩
def tyV (K : PySem.W.Frag) (T : String) (x : V) (H : Hp) : Prop := match x with
 | .str _ => T = "str"
 | .int _ => T = "int"
 | .ref p => (T = "list" /\ ∃ xs, qk K H p xs) \/ (T = "tuple" /\ ∃ o, K.lookup p = some o /\ o.cls = .type "tuple" /\ o.dict = none) ∨
     (T = "dict" /\ ((∃ bH, H p = some (.dK bH)) \/ ∃ bH, H p = some (.dT bH))) \/ (T = "set" /\ ∃ S n, H p = some (.set S n))
 | _ => False
theorem Sx {pins : List (Addr × Obj)} {σ : St} {H : Hp} {s : Shared} {T : String} {x : V} {v : Value} (I : Inv X pins σ H s) (r : RelV x v) (ty : tyV X.K T x H) :
   s.TypeIs v T /\ ∀ a, v = .ref a -> ∃ ob, s.heap.get? a = some ob /\ ob.dict = none := by
 cases x with
 | str z =>
   obtain ⟨t, rfl⟩ := r
   cases (show T = "str" from ty)
   exact ⟨typeIs_str s z t, fun _ e => nomatch e⟩
 | int i =>
   obtain ⟨t, rfl⟩ := r
   cases (show T = "int" from ty)
   exact ⟨typeIs_int s i t, fun _ e => nomatch e⟩
 | ref p =>
   cases r
   rcases ty with ⟨rfl, xs, hq⟩ | ⟨rfl, o, hk, hc, hd⟩ | ⟨rfl, hk⟩ | ⟨rfl, S, n, hk⟩
   . obtain ⟨its, _, pl, _⟩ := I.list hq
     refine ⟨pl.isList.typeIs, fun a e => ?_⟩
     cases e
     obtain ⟨o, n, e, c, hd, _⟩ := pl
     exact ⟨o, e, hd⟩
   . refine ⟨⟨o, I.wB p o hk, hc⟩, fun a e => ?_⟩
     cases e
     exact ⟨o, I.wB _ o hk, hd⟩
   . have z : ∃ o, s.heap.get? p = some o /\ o.ExactDict := by
       rcases hk with ⟨bH, hk⟩ | ⟨bH, hk⟩
       . obtain ⟨_, _, _, _, o, _, _, e, ex, _⟩ := I.dM p _ hk
         exact ⟨o, e, ex⟩
       . obtain ⟨_, _, _, _, o, _, _, e, ex, _⟩ := I.dM p _ hk
         exact ⟨o, e, ex⟩
     obtain ⟨o, e, ex⟩ := z
     refine ⟨⟨o, e, ex.1⟩, fun a e2 => ?_⟩
     cases e2
     exact ⟨o, e, ex.2.1⟩
   . obtain ⟨o, _, _, _, e, ex, _⟩ := I.dM p _ hk
     refine ⟨⟨o, e, ex.1⟩, fun a e2 => ?_⟩
     cases e2
     exact ⟨o, e, ex.2.1⟩
 | _ => exact False.elim ty
def ahM (K : PySem.W.Frag) (T : String) (r : V -> List V -> Hp -> VK -> Prop) (to : TE) : TE := fun σ H Q => to σ H fun x H1 => tyV K T x H1 /\ r x [] H1 Q
def tBM (K : PySem.W.Frag) (T : String) (r : V -> List V -> Hp -> VK -> Prop) (to : TE) (t : TA) : TE := fun σ H Q => to σ H fun x H1 => tyV K T x H1 /\ t σ H1 fun xs H2 => r x xs H2 Q
variable {o e : Expr} {es : List Expr} {to : TE} {t : TA} {name : Str} {apos oY : Pos} {T id : String} {r : V -> List V -> Hp -> VK -> Prop}
theorem abC (pa : PlainAttrs T) (slot : Slot T name id) (hty : typeOf (.builtin id) = pure (.type "method_descriptor")) (hm : MtR X id r) (ho : PE X o to)
   (oh : attributeBase o name X.env (eval o X.env) = eval o X.env := by rfl) (hline : (apos.endLine == oY.line) = true := by rfl) : PE X (.Call (.Attribute o name apos) [] [] oY) (ahM X.K T r to) := by
 intro pins s σ H Q I h
 refine wpAny_Call_method0_late oh hline (fu (ho pins s σ H _ I h) fun v s1 zz => ?_)
 obtain ⟨x, H1, I1, r1, ty, q1⟩ := zz
 obtain ⟨h1, h2⟩ := Sx I1 r1 ty
 exact ⟨T, id, pa, slot, hty, h1, h2, Calls.callWith_builtin rfl (PySem.evalArgs_none (hm pins s1 σ H1 x [] v [] Q I1 r1 .nil q1))⟩
theorem Sy (pa : PlainAttrs T) (slot : Slot T name id) (hty : typeOf (.builtin id) = pure (.type "method_descriptor")) (hm : MtR X id r) (ho : PE X o to) (ha : PA X (e :: es) t)
   (oh : attributeBase o name X.env (eval o X.env) = eval o X.env := by rfl)
   (Es : ((backTo oY (starEach y0.ag X.env)).all (fun x => !x.1) && (backToKw oY y0.bv).all y0.bE
     && decide ((e :: es).length + ([] : List Keyword).length + y0.U < 30)) = true := by rfl)
   (hline : (apos.endLine == oY.line) = true := by rfl) (hs : starEach y0.ag X.env = (false, eval e X.env) :: starEach es X.env := by rfl) (KL : (backTo oY y0.M).any (·.1) = false := by rfl) :
   PE X (.Call (.Attribute o name apos) y0.ag [] oY) (tBM X.K T r to t) := by
 intro pins s σ H Q I h
 refine wpAny_Call_method_late oh Es hline rfl (fu (ho pins s σ H _ I h) fun v s1 zz => ?_)
 obtain ⟨x, H1, I1, r1, ty, q1⟩ := zz
 obtain ⟨h1, h2⟩ := Sx I1 r1 ty
 refine ⟨T, id, pa, slot, hty, h1, h2, ?_⟩
 have hA := ha oY pins s1 σ H1 _ I1 q1
 rw [hs] at hA ⊢
 refine Calls.callWith_builtin (by show (false || (backTo oY y0.M).any (·.1)) = false; rw [KL] <;> rfl) (Calls.evalArgs_plain ?_)
 exact fu hA fun us s2 ⟨vs, H2, I2, r2, q2⟩ => hm pins s2 σ H2 x vs v us Q I2 r1 r2 q2
end
def MtM (X : Cx) (id : String) (r : V -> List V -> Hp -> VK -> Prop) : Prop :=
 ∀ (pins : List y0.p) (s : Shared) (σ : St) (H : Hp) (x : V) (xs : List V) (v : Value) (us : List Value) (Q : VK), Inv X pins σ H s -> RelV x v -> Vals xs us -> r x xs H Q →
   wpAny y0.d X.A (call (.builtin id) (v :: us)) y0.af X.xe s
theorem Vals.one {x : V} {us : List Value} (h : Vals [x] us) : ∃ u, us = [u] /\ RelV x u := by
 cases h with
 | cons r h => cases h; exact ⟨_, rfl, r⟩
theorem Vals.two {x y : V} {us : List Value} (h : Vals [x, y] us) : ∃ u v, us = [u, v] /\ RelV x u /\ RelV y v := by
 cases h with
 | cons r h => cases h with
   | cons q h => cases h; exact ⟨_, _, rfl, r, q⟩
theorem Vals.zero : ∀ {us : List Value}, Vals [] us -> us = []
 | _, .nil => rfl
theorem Vals.dropLast {xs : List V} {us : List Value} (h : Vals xs us) : Vals xs.dropLast us.dropLast := by
 induction h with
 | nil => exact .nil
 | cons r t ih =>
   cases t with
   | nil => exact .nil
   | cons q t' => exact .cons r ih
theorem Vals.rep {xs : List V} {us : List Value} (h : Vals xs us) : ∀ k : Nat, Vals (List.replicate k xs).flatten (List.replicate k us).flatten
 | 0 => .nil
 | k + 1 => by
   rw [anL, anL, anR, anR]
   exact Vals.append h (Vals.rep h k)
theorem KN {α : Type} (l : List α) : l.eraseIdx (l.length - 1) = l.dropLast := by
 induction l with
 | nil => rfl
 | cons a r ih =>
   cases r with
   | nil => rfl
   | cons b r =>
     have e : (a :: b :: r).length - 1 = ((b :: r).length - 1) + 1 := by
       have h1 : (a :: b :: r).length = r.length + 2 := rfl
       have h2 : (b :: r).length = r.length + 1 := rfl
       omega
     rw [e, List.eraseIdx_cons_succ, ih]
     all_goals rfl
theorem foldl_rep (its : List Value) : ∀ (k : Nat) (acc : List Value),
   List.foldl (fun x1 x2 => x1 ++ x2) acc.toArray (List.replicate k its.toArray) = (acc ++ (List.replicate k its).flatten).toArray
 | 0, acc => by simp
 | k + 1, acc => by
   have e : acc.toArray ++ its.toArray = (acc ++ its).toArray := by simp
   have e2 : (acc ++ its) ++ (List.replicate k its).flatten = acc ++ (List.replicate (k + 1) its).flatten := by
     rw [anL, anR, amr]
   rw [← e2, ← foldl_rep its k (acc ++ its), ← e, anL, List.foldl_cons]
section
variable {X : Cx} {pins : List (Addr × Obj)} {σ : St} {H : Hp} {s : Shared} {l b : Addr} {xs ys zs : List V}
theorem Inv.abD {its its' : List Value} {n : Nat} {f : Array Value -> Array Value} {t' : Nat} (I : Inv X pins σ H s) (hH : H l = some (.lst xs))
   (e : s.heap.get? l = some { cls := .type "list", data := .seq its.toArray n }) (hf : f its.toArray = its'.toArray) (hv : Vals ys its') (hz : ys.length <= sizeLine) :
   Inv X pins σ (upd H l (.lst ys)) { s with heap := s.heap.update l (Obj.mapSeq f), toks := t' } := by
 have q := PySem.IsL.update e f
 rw [hf] at q
 refine I.write (x := l) (e := l) (by rw [hH]; exact trivial) y0.az (fun b' u hb hu => (Heap.get?_update_other s.heap (Obj.mapSeq f) (an8 hb)).trans hu) ⟨_, q⟩ ?_
 exact ⟨hz, its', _, hv, q⟩
theorem Inv.afc {its : List Value} {t' : Nat} (I : Inv X pins σ H s) (hv : Vals ys its) (hz : ys.length <= sizeLine) :
   Inv X pins σ (upd H s.heap.objs.size (.lst ys)) { s with heap := s.heap.push { cls := .type "list", data := .seq its.toArray }, toks := t' } :=
 I.laid (fun _ _ q => amy _ q) (amo _) ⟨hz, its, 0, hv, amY _ rfl⟩
theorem Inv.fresh (I : Inv X pins σ H s) : H s.heap.objs.size = none := I.dM.fresh (amo _)
theorem Inv.WT (I : Inv X pins σ H s) (hH : H l = some (.lst xs)) : xs.length <= sizeLine /\ ∃ (its : List Value) (n : Nat), Vals xs its /\ xs.length = its.length /\ s.heap.get? l = some { cls := .type "list", data := .seq its.toArray n } := by
 obtain ⟨z, its, n, r, e⟩ := I.dM l _ hH
 exact ⟨z, its, n, r, r.length, e⟩
theorem Hw {n : Nat} (h : n <= sizeLine) : Builtin.List.listTooLong n = false := by
 unfold Builtin.List.listTooLong
 exact ang y0.b
end
section
variable {X : Cx}
def WU : V -> List V -> Hp -> VK -> Prop := fun x vs H Q => ∃ l xs y, x = .ref l /\ vs = [y] /\ H l = some (.lst xs) /\ xs.length < sizeLine /\ Q .non (upd H l (.lst (xs ++ [y])))
theorem Du : MtM X "list.append" WU := by
 intro pins s σ H x vs v us Q I rx rv h
 obtain ⟨l, xs, y, rfl, rfl, hH, hz, q⟩ := h
 cases rx
 obtain ⟨u, rfl, ru⟩ := rv.one
 obtain ⟨z, its, n, r, hl, e⟩ := I.WT hH
 refine call_meets F.slot_list_append ⟨_, e, rfl⟩ F.entry_list_append (F.args_list_append_2 _ _) (PySem.list_append l its.toArray n u (by rw [amF]; omega)) ⟨e, ?_⟩
 refine ⟨.non, _, I.abD (its' := its ++ [u]) hH e y0.C (r.append (.cons ru .nil)) ?_, rfl, q⟩
 rw [amv, anx]
 omega
def WV : V -> List V -> Hp -> VK -> Prop := fun x vs H Q => ∃ l b xs zs, x = .ref l /\ vs = [.ref b] /\ H l = some (.lst xs) /\ H b = some (.lst zs) /\ xs.length + zs.length <= sizeLine /\ Q .non (upd H l (.lst (xs ++ zs)))
theorem Px : MtM X "list.extend" WV := by
 intro pins s σ H x vs v us Q I rx rv h
 obtain ⟨l, b, xs, zs, rfl, rfl, hH, hB, hz, q⟩ := h
 cases rx
 obtain ⟨u, rfl, ru⟩ := rv.one
 cases ru
 obtain ⟨z, its, n, r, hl, e⟩ := I.WT hH
 obtain ⟨z2, zM, n2, r2, hl2, e2⟩ := I.WT hB
 have hsz : its.toArray.size + zM.toArray.size <= sizeLine := by rw [amF, amF]; omega
 have Sz : ¬ (!its.toArray.isEmpty && Builtin.List.listTooLong (its.toArray.size + zM.toArray.size)) = true := by
   rw [Hw hsz, Bool.and_false]
   exact amE
 refine call_meets F.slot_list_extend ⟨_, e, rfl⟩ F.entry_list_extend (F.args_list_extend_2 _ _)
   (AutoSeq1.list_extend_list_list_0 l its.toArray n b zM.toArray n2 Sz (by rw [amF]; omega) y0.b) ⟨e, e2, ?_⟩
 refine ⟨.non, _, I.abD (its' := its ++ zM) hH e y0.C (r.append r2) ?_, rfl, q⟩
 rw [amv]
 omega
def ahP : V -> List V -> Hp -> VK -> Prop := fun x vs H Q => ∃ l xs y, x = .ref l /\ vs = [] /\ H l = some (.lst xs) /\ xs[xs.length - 1]? = some y /\ Q y (upd H l (.lst xs.dropLast))
theorem abE : MtM X "list.pop" ahP := by
 intro pins s σ H x vs v us Q I rx rv h
 obtain ⟨l, xs, y, rfl, rfl, hH, hy, q⟩ := h
 cases rx
 have hus := rv.zero
 subst hus
 obtain ⟨z, its, n, r, hl, e⟩ := I.WT hH
 obtain ⟨u, hu, ru⟩ := r.get hy
 have hy' : its.toArray[its.toArray.size - 1]? = some u := by
   show its.toArray[its.length - 1]? = some u
   rw [← anO, ← hl]
   exact hu
 refine call_meets F.slot_list_pop ⟨_, e, rfl⟩ F.entry_list_pop (F.args_list_pop_1 _) (MeetsSeq.list_pop_last l its.toArray n u hy' (by rw [amF]; omega)) ⟨e, ?_⟩
 refine ⟨y, _, I.abD (its' := its.dropLast) hH e ?_ r.dropLast ?_, ru, q⟩
 . show its.toArray.eraseIdxIfInBounds (its.toArray.size - 1) = its.dropLast.toArray
   rw [amF, List.eraseIdxIfInBounds_toArray, KN]
 . rw [List.length_dropLast]
   omega
theorem len_rep {α : Type} (xs : List α) (k : Nat) : (List.replicate k xs).flatten.length = k * xs.length := by
 induction k with
 | zero => simp
 | succ k ih => rw [anL, anR, amv, ih, Nat.succ_mul, Nat.add_comm]
end
section
variable {prog : Program} {w : World} {A : Around} {E : Value -> Shared -> Prop} {s : Shared}
set_option maxRecDepth 100000 in
end
section
variable {X : Cx}
end
end L2
namespace Att
open PySem PySem.W PySem.Calls PyProof.Rows
theorem yK {P : Params} {h : Heap} : ∀ (ns : List Int) (vs : List Value), WellAll P h vs (ns.map WData.int) -> IntsAre vs ns := by
 intro ns
 induction ns with
 | nil =>
   intro vs w
   rw [List.map_nil] at w
   cases w
   exact .nil
 | cons n ns ih =>
   intro vs w
   rw [List.map_cons] at w
   cases w with
   | cons a b =>
     cases a
     exact .cons _ _ (ih _ b)
theorem Py {l : OpenLaw} {n : Nat} (hn : l.most = some n) {P : Params} {h : Heap} {args : List WData} {vals : List Value}
   (wK : l.row.toRowW.claim.pre args = true) (NV : WellAll P h vals args) :
   ∃ a vs ns, vals = [Value.ref a] /\ args = [WData.list (ns.map WData.int)] /\ h.get? a = some { cls := .type "list", data := .seq vs.toArray } /\ IntsAre vs ns /\ ns.length <= n := by
 have hsh : WShape.hasAll [] args [.list .int] = true := (pre_splitW wK).1
 have hc : l.pre.holds [] { args := args } = true := (pre_splitW wK).2
 obtain ⟨d, r, rfl, h1, h2⟩ := hasAllW_cons hsh
 obtain rfl := hasAllW_nil h2
 obtain ⟨xs, rfl, h3⟩ := hasW_list h1
 obtain ⟨ns, rfl⟩ := items_int h3
 have hlen : ns.length <= n := by
   unfold OpenLaw.pre at hc
   have h4 : (WTm.not (.lt (.lit (.int (n : Int))) (.len (.arg 0)))).holds [] { args := [.list (ns.map .int)] } = true := by
     have h4 := (holds_andW hc).1
     rw [hn] at h4
     exact h4
   have h5 := condW_of h4 (w_not (w_lt w_lit (w_len_list (w_arg rfl))))
   rw [List.length_map] at h5
   refine Nat.le_of_not_lt fun q => ?_
   have q' : (n : Int) < ((ns.length : Nat) : Int) := by omega
   first
     | (rw [decide_eq_true q'] at h5; exact absurd h5 (by decide))
     | (simp at h5; omega)
 cases NV with
 | cons w1 w2 =>
   cases w2
   cases w1 with
   | list ho ahQ => exact ⟨_, _, ns, rfl, rfl, ho, yK ns _ ahQ, hlen⟩
theorem Pz (l : OpenLaw) (args : List WData) : l.row.toRowW.claim.post args (.bool true) args = true :=
 postW_of (r := l.row.toRowW) (X := (true == true))
   (show WShape.has [] (.bool true) .bool = true by first | rfl | decide | simp [WShape.has, WShape.arms, WShape.armsAll])
   (show (WTm.eq .res (.lit (.bool true))).value [] { args := args, res := some (.bool true), after := args } = some (.bool (true == true)) from w_eq_bool (w_res rfl) w_lit) rfl
theorem Hx {l : OpenLaw} {n : Nat} {q : Program} {loose : List Str} {XP : (Str -> Option Value) -> Heap -> Prop} {YP : World -> Heap -> Prop} {d : DefRec}
   (hn : l.most = some n) (hdf : d.params.defaults = [])
   (call : ∀ (w : World) (s₀ s₁ : Shared) (mg mb : Str -> Option Value) (fa : Addr) (o : Obj) (pm cd doc : Value) (a : Addr) (vs : List Value) (ns : List Int),
     Ground q loose [] XP w s₀ mg mb s₁.heap -> YP w s₁.heap →
     s₁.heap.get? fa = some o -> o.data = .func (docDef d.name d.params d.body d.scope pm cd doc) -> s₁.heap.CodeRec cd d.name -> mg d.name = some (.ref fa) →
     s₁.heap.get? a = some { cls := .type "list", data := .seq vs.toArray } -> IntsAre vs ns -> ns.length <= n -> s₁.gens = #[] →
     codeAny (model l.prog w) callerA (.call (.ref fa) ⟨[.ref a], []⟩) y0.V s₁) :
   WalkO q loose XP YP l.row.toRowW d [] (fun f vs => PySem.call f vs) := by
 intro w s₀ s₁ mg mb G Y fa o pm cd doc dV kV ho hd ko hD hmg hg args vals as wK hlay hrd NV hlo
 obtain rfl : dV = .none := Dflts.none hD hdf
 obtain rfl : kV = .none := Dflts.noKw hD
 obtain ⟨a, vs, ns, rfl, rfl, abF, hints, hlen⟩ := Py hn wK NV
 refine enter_call (codeAny_mono (call w s₀ s₁ mg mb fa o pm cd doc a vs ns G Y ho (fd_plain hd) ko hmg abF hints hlen hg) fun r s' hq => ?_)
 obtain ⟨rfl, h2, h3, h4⟩ := hq
 exact ⟨.inl ⟨.bool true, .bool true, [], rfl, fun _ => rfl, .bool true, Pz l _, fun _ => ⟨List.Pairwise.nil, fun _ hm => (nomatch hm)⟩⟩, h2, h3, h4⟩
section
variable {prog : Program} {w : World} {A : Around} {E : Value -> Shared -> Prop} {s : Shared} {K : Frag}
def ledger (h : Heap) (L d : Addr) : List (Addr × Obj) := (List.range h.objs.size).filterMap fun a => if a = L \/ a = d then none else (h.get? a).map fun o => (a, o)
end
end Att
namespace L2
open PySem PySem.Spec PyProof.Rows
theorem Dv : ∀ {vs : List Value} {ns : List Int}, IntsAre vs ns -> Vals (ns.map V.int) vs
 | _, _, .nil => .nil
 | _, _, .cons n t h => .cons ⟨t, rfl⟩ (Dv h)
def inClass (s : Stmt) (j : Nat) : Stmt := match s with
 | .ClassDef _ _ _ body _ _ _ _ _ _ _ => body.getD j (.Pass ⟨0, 0, 0, 0⟩)
 | _ => .Pass ⟨0, 0, 0, 0⟩
def yT (s : Stmt) : Arguments := match s with
 | .FunctionDef _ a _ _ _ _ _ _ _ _ => a
 | _ => { posonlyargs := [], args := [], vararg := none, kwonlyargs := [], kw_defaults := [], kwarg := none, defaults := [] }
def fK (s : Stmt) : List Stmt := match s with
 | .FunctionDef _ _ b _ _ _ _ _ _ _ => b
 | _ => []
def aF (s : Stmt) : Scope := match s with
 | .FunctionDef _ _ _ _ _ _ sc _ _ _ => sc
 | _ => { kind := .function, names := [], isGenerator := false, isCoroutine := false }
abbrev iT : RP := fun _ _ _ _ _ _ => False
abbrev E0 : XK := fun _ _ _ => False
theorem Hy {X : Cx} : Passes iT X E0 := fun _ _ _ _ _ _ _ h => h.elim
structure kY (K : PySem.W.Frag) (x qual : Str) (st : Stmt) (f : Addr) (fd : FuncData) : Prop where
 ex : ∃ (oc : Value) (od : Option Addr) (kV doc pm : Value) (an : Option Addr) (eo ct : Value) (Pr : Array (Option Value)),
   fd = PySem.W.fnOf x qual (yT st) (fK st) (aF st) .none kV doc pm an eo ct /\ K.lookup f = some ⟨oc, od, .func fd, Pr⟩ /\ PySem.W.codeIn K eo qual = true
 kp : PySem.W.keepIn K (.ref f) = true
section
variable {P : Program} {w : World} {K : PySem.W.Frag} {mg : Str -> Option Value} {base : Heap}
theorem kY.ok {x qual : Str} {st : Stmt} {f : Addr} {fd : FuncData} {N ps : List Str} {k : Nat} {sp : Sp} (F : kY K x qual st f fd) (S : bC N ps (aF st)) (len : ∀ vs H Q E, sp vs H Q E -> vs.length = ps.length)
   (Ht : ∀ (eo : Value) (A : Around) (outer : List Env) (s : Shared) (H : Hp) (vs : List V) (Q : VK) (E : XK), gb k (A.deeper y0.Z) -> sp vs H Q E →
     ∃ t, Kr (wI iT P w K mg base N qual (aF st) f eo A outer s H E).Wn (fK st) t /\ t { nx := fun _ H' => Q .non H', rt := Q } (start N vs) H) : cV P w K mg base iT (k + 1) f fd ps sp := by
 obtain ⟨oc, od, kV, doc, pm, an, eo, ct, Pr, rfl, lk, ko⟩ := F.ex
 refine Sl lk ko S len fun A outer s H vs Q E hr Kg => ?_
 obtain ⟨t, h, q⟩ := Ht eo A outer s H vs Q E hr Kg
 exact ⟨t, h.Wn, q⟩
theorem kY.binds {x qual : Str} {st : Stmt} {f : Addr} {fd : FuncData} {ps : List Str} (F : kY K x qual st f fd)
   (h : ∀ (kV doc pm : Value) (an : Option Addr) (eo ct : Value) (us : List Value), us.length = ps.length -> bindArgs (PySem.W.fnOf x qual (yT st) (fK st) (aF st) .none kV doc pm an eo ct) ⟨us, []⟩ = pure (ps.zip us)) : Binds K fd ps [] := by
 obtain ⟨oc, od, kV, doc, pm, an, eo, ct, Pr, rfl, lk, ko⟩ := F.ex
 exact .all (h kV doc pm an eo ct)
theorem cA {x qual : Str} {st : Stmt} {f : Addr} {oc : Value} {od an : Option Addr} {Pr : Array (Option Value)} {kV doc pm eo ct : Value} (l : K.lookup f = some ⟨oc, od, .func (PySem.W.fnOf x qual (yT st) (fK st) (aF st) .none kV doc pm an eo ct), Pr⟩)
   (c : PySem.W.codeIn K eo qual = true) (k : PySem.W.keepIn K (.ref f) = true) : kY K x qual st f (PySem.W.fnOf x qual (yT st) (fK st) (aF st) .none kV doc pm an eo ct) := ⟨⟨oc, od, kV, doc, pm, an, eo, ct, Pr, rfl, l, c⟩, k⟩
end
theorem cQ {n : Nat} (h : n <= 1000) : n < sizeLine := aoc h y0.g
section
variable {X : Cx}
end
theorem SD {A B : Prop} (h : B) : if false = true then A else B := by
 rw [amg amE]
 exact h
theorem SG {A B : Prop} (h : A) : if true = true then A else B := by
 rw [aml rfl]
 exact h
def aQ (H H' : Hp) : Prop := ∀ b o, H b = some o -> H' b = some o
theorem aQ.refl (H : Hp) : aQ H H := fun _ _ h => h
theorem aQ.trans {H H1 H2 : Hp} (a : aQ H H1) (b : aQ H1 H2) : aQ H H2 := fun c o h => b c o (a c o h)
theorem aQ.free {H H' : Hp} (e : aQ H H') {l : Addr} (h : H' l = Option.none) : H l = Option.none := by
 cases q : H l with
 | none => rfl
 | some o =>
   rw [e l o q] at h
   cases h
theorem aQ.seq {K : PySem.W.Frag} {H H' : Hp} {a : Addr} {xs : List V} (e : aQ H H') (h : qk K H a xs) : qk K H' a xs := by
 rcases h with (h | ⟨o, h⟩) | h
 . exact .inl (.inl (e _ _ h))
 . exact .inl (.inr ⟨o, e _ _ h⟩)
 . exact .inr h
section
variable {κ : Type} [DecidableEq κ]
def tT (bH : List (κ × V)) (k : κ) : Option V := (bH.find? fun kv => decide (kv.1 = k)).map (·.2)
def putK (bH : List (κ × V)) (k : κ) (v : V) : List (κ × V) :=
 if (bH.any fun kv => decide (kv.1 = k)) = true then bH.map (fun kv => if kv.1 = k then (kv.1, v) else kv) else bH ++ [(k, v)]
theorem uT {p : κ × V} {r : List (κ × V)} {k : κ} (e : p.1 = k) : tT (p :: r) k = some p.2 := by simp [tT, anG, e]
theorem qw {p : κ × V} {r : List (κ × V)} {k : κ} (e : ¬ p.1 = k) : tT (p :: r) k = tT r k := by simp [tT, anG, e]
theorem Hz (k : κ) : ∀ bH : List (κ × V), (bH.any fun kv => decide (kv.1 = k)) = (tT bH k).isSome
 | [] => rfl
 | p :: r => by
   rw [anS]
   by_cases e : p.1 = k
   . simp only [uT e, anC e, Bool.true_or, Option.isSome_some]
   . rw [qw e, ang e, Bool.false_or]; exact Hz k r
theorem yc (bH : List (κ × V)) (k : κ) (v : V) : (putK bH k v).length <= bH.length + 1 := by
 unfold putK
 split
 . rw [amh]; omega
 . rw [amv, amB, anP]; omega
theorem wA.wL {o : Option V} {u : Option Value} (r : wA o u) : o.isSome = u.isSome := by
 cases o with
 | none => cases u with
   | none => rfl
   | some _ => exact (show False from r).elim
 | some _ => cases u with
   | none => exact (show False from r).elim
   | some _ => rfl
theorem KV.val {bH : List (κ × V)} {vs : List (κ × Value)} (r : KV bH vs) (k : κ) : wA (tT bH k) (valueAt vs k) := by
 unfold KV at r
 induction r with
 | nil => exact True.intro
 | @cons p q ps qs h t ih =>
   obtain ⟨h1, h2⟩ := h
   by_cases e : p.1 = k
   . have e' : q.1 = k := h1.symm.trans e
     have b : valueAt (q :: qs) k = some q.2 := by simp [valueAt, anG, e']
     rw [uT e, b]; exact h2
   . have e' : ¬ q.1 = k := fun z => e (h1.trans z)
     have b : valueAt (q :: qs) k = valueAt qs k := by simp [valueAt, anG, e']
     rw [qw e, b]; exact ih
theorem KV.any {bH : List (κ × V)} {vs : List (κ × Value)} (r : KV bH vs) (k : κ) : (bH.any fun kv => decide (kv.1 = k)) = vs.any fun kv => decide (kv.1 = k) := by
 unfold KV at r
 induction r with
 | nil => rfl
 | cons h t ih => rw [anS, anS, ih, h.1]
theorem KV.repl {bH : List (κ × V)} {vs : List (κ × Value)} (r : KV bH vs) (k : κ) {y : V} {u : Value} (ry : RelV y u) :
   KV (bH.map fun kv => if kv.1 = k then (kv.1, y) else kv) (vs.map fun kv => if kv.1 = k then (kv.1, u) else kv) := by
 unfold KV at r ⊢
 induction r with
 | nil => exact .nil
 | @cons p q ps qs h t ih =>
   rw [amD, amD]
   refine .cons ?_ ih
   obtain ⟨h1, h2⟩ := h
   by_cases e : p.1 = k
   . rw [aml e, aml (h1.symm.trans e)]; exact ⟨h1, ry⟩
   . rw [amg e, amg (fun z => e (h1.trans z))]; exact ⟨h1, h2⟩
theorem KV.put {bH : List (κ × V)} {vs : List (κ × Value)} (r : KV bH vs) (k : κ) {y : V} {u : Value} (ry : RelV y u) : KV (putK bH k y) (stored vs k u) := by
 unfold putK stored
 rw [r.any k]
 by_cases e : (vs.any fun kv => decide (kv.1 = k)) = true
 . rw [aml e, aml e]; exact r.repl k ry
 . rw [amg e, amg e]; exact Paired.snoc r ⟨rfl, ry⟩
theorem KV.length {bH : List (κ × V)} {vs : List (κ × Value)} (r : KV bH vs) : bH.length = vs.length := Paired.length r
end
theorem NW {P : Program} {w : World} {k : Key} {u : Value} (r : RelV (kV k) u) : (gj P w).is k u = true := by
 cases k with
 | inl i => obtain ⟨t, e⟩ := (show ∃ t, u = Value.int i t from r); subst e; exact Hg P w i t
 | inr x => obtain ⟨t, e⟩ := (show ∃ t, u = Value.str x t from r); subst e; exact Hh P w x t
theorem Dw {P : Program} {w : World} : ∀ {ks : List Key} {us : List Value}, Vals (ks.map kV) us -> ItemsAre (gj P w) ks us
 | [], _, r => by rw [List.map_nil] at r; cases r; exact .nil
 | k :: ks, _, r => by
   rw [amD] at r
   cases r with
   | cons h t => exact .cons (NW h) (Dw t)
abbrev KT (H : Hp) : List (List Key × V) -> List (List Key × Addr × Value) -> Prop := Paired fun p q => p.1 = q.1 /\ H q.2.1 = some (.tup (p.1.map kV)) /\ RelV p.2 q.2.2
theorem KT.val {H : Hp} {bH : List (List Key × V)} {xs : List (List Key × Addr × Value)} (r : KT H bH xs) (k : List Key) : wA (tT bH k) ((atKey xs k).map (·.2)) := by
 induction r with
 | nil => exact True.intro
 | @cons p q ps qs h t ih =>
   obtain ⟨h1, _, h2⟩ := h
   by_cases e : p.1 = k
   . have e' : q.1 = k := h1.symm.trans e
     have b : atKey (q :: qs) k = some q.2 := by simp [atKey, anG, e']
     rw [uT e, b]; exact h2
   . have e' : ¬ q.1 = k := fun z => e (h1.trans z)
     have b : atKey (q :: qs) k = atKey qs k := by simp [atKey, anG, e']
     rw [qw e, b]; exact ih
theorem KT.repl {H : Hp} {bH : List (List Key × V)} {xs : List (List Key × Addr × Value)} (r : KT H bH xs) (k : List Key) {y : V} {u : Value} (ry : RelV y u) :
   KT H (bH.map fun kv => if kv.1 = k then (kv.1, y) else kv) (xs.map (putAt k u)) := by
 induction r with
 | nil => exact .nil
 | @cons p q ps qs h t ih =>
   rw [amD, amD]
   refine .cons ?_ ih
   obtain ⟨h1, h2, h3⟩ := h
   unfold putAt
   by_cases e : p.1 = k
   . rw [aml e, aml (h1.symm.trans e)]; exact ⟨h1, h2, ry⟩
   . rw [amg e, amg (fun z => e (h1.trans z))]; exact ⟨h1, h2, h3⟩
theorem KT.put {H : Hp} {bH : List (List Key × V)} {xs : List (List Key × Addr × Value)} (r : KT H bH xs) (k : List Key) {b : Addr} {y : V} {u : Value} (hb : H b = some (.tup (k.map kV))) (ry : RelV y u) :
   KT H (putK bH k y) (storedH xs k b u) := by
 have e : (bH.any fun kv => decide (kv.1 = k)) = (atKey xs k).isSome := by
   rw [Hz, (r.val k).wL, Option.isSome_map]
 unfold putK storedH
 rw [e]
 by_cases q : (atKey xs k).isSome = true
 . rw [aml q, aml q]; exact r.repl k ry
 . rw [amg q, amg q]; exact Paired.snoc r ⟨rfl, hb, ry⟩
theorem KT.keeps {H H' : Hp} {bH : List (List Key × V)} {xs : List (List Key × Addr × Value)} (r : KT H bH xs) (ht : ∀ b ys, H b = some (.tup ys) -> H' b = some (.tup ys)) : KT H' bH xs :=
 Paired.aaT r fun _ _ z => ⟨z.1, ht _ _ z.2.1, z.2.2⟩
section
variable {P : Program} {w : World} {H : Hp} {h : Heap} {a : Addr}
theorem aar {u : HO} (ok : qo P w H h) (e : Rd H a u) : fB P w H h a u := e.ok ok
theorem HB {bH : List (Key × V)} (ok : qo P w H h) (e : Rd H a (.dK bH)) : bH.length <= sizeLine /\ (a == sysModules) = false /\ ∃ vs, KV bH vs /\ h.DictOf (gj P w) a vs :=
 show fB P w H h a (.dK bH) from aar ok e
theorem afg {bH : List (Key × V)} (ok : qo P w H h) (e : H a = some (.dK bH)) : bH.length <= sizeLine /\ (a == sysModules) = false /\ ∃ vs, KV bH vs /\ h.DictOf (gj P w) a vs := HB ok (.inl e)
theorem Et {ks : List Key} (ok : qo P w H h) (e : H a = some (.tup (ks.map kV))) : (tupleKind (gj P w)).is h ks a := by
 obtain ⟨_, its, r, o, h1, h2, n, h3⟩ := (show fB P w H h a (.tup (ks.map kV)) from ok a _ e)
 exact ⟨o, its.toArray, n, h1, h2, h3, by simpa using Dw r⟩
theorem NX {bH : List (List Key × V)} (ok : qo P w H h) (e : Rd H a (.dT bH)) : bH.length <= sizeLine /\ (a == sysModules) = false ∧
   ∃ xs, KT H bH xs /\ h.DictOfH (tupleKind (gj P w)) a xs := by
 obtain ⟨z, y, xs, r, o, es, ep, h1, h2, h3, h4, h5⟩ := (show fB P w H h a (.dT bH) from aar ok e)
 refine ⟨z, y, xs, r, o, es, ep, h1, h2, h3, h4, fun x hx => ?_, h5⟩
 have all : ∀ {l : List (List Key × V)} {m : List (List Key × Addr × Value)}, KT H l m -> ∀ x ∈ m, (tupleKind (gj P w)).is h x.1 x.2.1 := by
   intro l m q
   induction q with
   | nil => intro x hx; exact nomatch hx
   | @cons p q ps qs hq t ih =>
     intro x hx
     rcases amt.mp hx with e | hx
     . subst e
       exact Et ok (by rw [← hq.1]; exact hq.2.1)
     . exact ih x hx
 exact all r x hx
theorem afh {bH : List (List Key × V)} (ok : qo P w H h) (e : H a = some (.dT bH)) : bH.length <= sizeLine /\ (a == sysModules) = false ∧
   ∃ xs, KT H bH xs /\ h.DictOfH (tupleKind (gj P w)) a xs := NX ok (.inl e)
end
def Eu (H : Hp) (a : Addr) (y : V) (r : Option V) : Prop :=
 (∃ bH k, Rd H a (.dK bH) /\ y = kV k /\ r = tT bH k) \/ ∃ bH k b, Rd H a (.dT bH) /\ y = .ref b /\ H b = some (.tup (k.map kV)) /\ r = tT bH k
def SJ (H : Hp) (a : Addr) (y v : V) (H' : Hp) : Prop :=
 (∃ bH k, H a = some (.dK bH) /\ y = kV k /\ bH.length < sizeLine /\ H' = upd H a (.dK (putK bH k v))) ∨
 ∃ bH k b, H a = some (.dT bH) /\ y = .ref b /\ H b = some (.tup (k.map kV)) /\ bH.length < sizeLine /\ H' = upd H a (.dT (putK bH k v))
theorem Eu.k {H : Hp} {a : Addr} {bH : List (Key × V)} {k : Key} (e : H a = some (.dK bH)) : Eu H a (kV k) (tT bH k) := .inl ⟨bH, k, .inl e, rfl, rfl⟩
theorem SJ.k {H : Hp} {a : Addr} {bH : List (Key × V)} {k : Key} {v : V} (e : H a = some (.dK bH)) (hl : bH.length < sizeLine) : SJ H a (kV k) v (upd H a (.dK (putK bH k v))) := .inl ⟨bH, k, e, rfl, hl, rfl⟩
section
variable {X : Cx} {pins : List (Addr × Obj)} {σ : St} {H : Hp} {s : Shared} {a : Addr} {y v : V} {u r : Value} {o : Option V} {A : Around} {E : Value -> Shared -> Prop}
theorem Inv.big (I : Inv X pins σ H s) : sysModules < s.heap.objs.size := by
 have h : mainGlobals < s.heap.objs.size := (I.mod.glob.keeps I.bk).lt
 exact Nat.lt_trans y0.g h
theorem PB {Q : Value -> Shared -> Prop} (hu : A.units + 1 < cLine) (I : Inv X pins σ H s) (g : Eu H a y (some v)) (ry : RelV y u) (h : ∀ w' s', Inv X pins σ H s' -> RelV v w' -> Q w' s') :
   wpAny y0.d A (getItem (.ref a) u) Q E s := by
 rcases g with ⟨bH, k, e, ey, l⟩ | ⟨bH, k, b, e, ey, eb, l⟩
 . subst ey
   obtain ⟨z, hd, vs, rel, dd⟩ := HB I.dM e
   obtain ⟨w', hw, Pw⟩ := wA.some_of (v := v) (o := valueAt vs k) (by rw [l]; exact rel.val k)
   exact wpAny_getItem_of (NW ry) dd.mapOf hw (h w' _ (I.tok _) Pw)
 . subst ey
   cases (show u = Value.ref b from ry)
   obtain ⟨z, hd, xs, rel, dd⟩ := NX I.dM e
   obtain ⟨w', hw, Pw⟩ := wA.some_of (v := v) (o := (atKey xs k).map (·.2)) (by rw [l]; exact rel.val k)
   obtain ⟨p, hp, hp2⟩ := Option.map_eq_some_iff.mp hw
   refine wpAny_getItem_heap (tupleKind_room_in1 hu) (Et I.dM eb) dd hp ?_
   rw [hp2]
   exact h w' _ (I.tok _) Pw
theorem ahR {Q : Value -> Shared -> Prop} (hu : A.units + 1 < cLine) (I : Inv X pins σ H s) (g : Eu H a y o) (ry : RelV y u) (h : ∀ s', Inv X pins σ H s' -> Q (.bool o.isSome) s') :
   wpAny y0.d A (compareOp .In u (.ref a)) Q E s := by
 rcases g with ⟨bH, k, e, ey, l⟩ | ⟨bH, k, b, e, ey, eb, l⟩
 . subst ey
   obtain ⟨z, hd, vs, rel, dd⟩ := HB I.dM e
   refine wpAny_in_of (NW ry) hd dd.mapOf ?_
   rw [← (rel.val k).wL, ← l]
   exact h _ (I.tok _)
 . subst ey
   cases (show u = Value.ref b from ry)
   obtain ⟨z, hd, xs, rel, dd⟩ := NX I.dM e
   refine wpAny_in_heap (tupleKind_room_in1 hu) (Et I.dM eb) hd dd ?_
   have q := (rel.val k).wL
   rw [Option.isSome_map] at q
   rw [← q, ← l]
   exact h _ (I.tok _)
theorem NZ {h' : Heap} {t' : Nat} {ob : HO} (I : Inv X pins σ H s) (mu : Mut (H a)) (hs : Heap.SameBut a s.heap h') (he : ∃ q, h'.get? a = some q) (new : fB X.prog X.w (upd H a ob) h' a ob) :
   Inv X pins σ (upd H a ob) { s with heap := h', toks := t' } :=
 I.write (x := a) (e := a) mu y0.az (fun b q hb z => (hs.2 b hb).trans z) he new
theorem SK {P : Program} {w : World} {H' : Hp} {h' : Heap} {bH : List (Key × V)} {vs : List (Key × Value)} (z : bH.length <= sizeLine) (hd : (a == sysModules) = false) (rel : KV bH vs) (dd : h'.DictOf (gj P w) a vs) :
   fB P w H' h' a (.dK bH) := ⟨z, hd, vs, rel, dd⟩
theorem PD {H' : Hp} {Q : Unit -> Shared -> Prop} (hu : A.units + 1 < cLine) (I : Inv X pins σ H s) (g : SJ H a y v H') (ry : RelV y u) (rv : RelV v r) (h : ∀ s', Inv X pins σ H' s' -> Q () s') :
   wpAny y0.d A (setItem (.ref a) u r) Q E s := by
 rcases g with ⟨bH, k, e, ey, l, eH⟩ | ⟨bH, k, b, e, ey, eb, l, eH⟩
 . subst ey eH
   obtain ⟨z, hd, vs, rel, dd⟩ := afg I.dM e
   have hz : vs.length <= sizeLine := by rw [← rel.length]; exact z
   have hl : (putK bH k v).length <= sizeLine := by have := yc bH k v; omega
   refine wpAny_setItem_pairs (hsz := hz) (NW ry) dd fun h' dd' hs => h _ ?_
   have he : ∃ q, h'.get? a = some q := let ⟨q, _, _, hq, _⟩ := dd'; ⟨q, hq⟩
   exact NZ I (by rw [e]; exact True.intro) hs he (SK hl hd (rel.put k rv) dd')
 . subst ey eH
   cases (show u = Value.ref b from ry)
   obtain ⟨z, hd, xs, rel, dd⟩ := afh I.dM e
   have hz : xs.length <= sizeLine := by rw [← Paired.length rel]; exact z
   have hl : (putK bH k v).length <= sizeLine := by have := yc bH k v; omega
   refine wpAny_setItem_heap (hsz := hz) (tupleKind_room_in1 hu) (Et I.dM eb) dd fun h' dd' hs => h _ ?_
   obtain ⟨q, es, ep, hq, h2, h3, h4, _, h5⟩ := dd'
   refine NZ I (by rw [e]; exact True.intro) hs ⟨q, hq⟩ ⟨hl, hd, _, (rel.put k eb rv).keeps fun c ys ec => ?_, q, es, ep, hq, h2, h3, h4, h5⟩
   rw [aO (aeE ec e y0.bo)]
   exact ec
end
section
variable {X : Cx} {pins : List (Addr × Obj)} {σ : St} {H : Hp} {s : Shared} {a : Addr} {bH : List (Key × V)} {k : Key} {u : Value} {A : Around} {E : Value -> Shared -> Prop}
end
def abG (i : Expr) : Prop := ∀ ov iv, subscripted i false ov iv = operate [ov, iv] (getItem ov iv)
theorem WW {prog : Program} {w : World} {A : Around} {E : Value -> Shared -> Prop} {s : Shared} {env : Env} {value slice : Expr} {pos : Pos} {T id : String} {Q : Value -> Shared -> Prop}
   (hl : typeLookup (.type T) "__getitem__" = pure (some (.builtin id))) (hs : abG slice)
   (h : wpAny y0.w A (eval value env) (fun o s₁ => wpAny y0.w A (eval slice env) (fun i s₂ => s₂.TypeIs o T /\ wpAny y0.w A (getItem o i) Q E s₂) E s₁) E s) :
   wpAny y0.w A (eval (.Subscript value slice pos) env) Q E s := by
 refine Subscript_ (ani h (fun o s₁ h₁ => ani h₁ (fun i s₂ h₂ => ?_) fun _ _ x => x) fun _ _ x => x)
 obtain ⟨hT, h₂⟩ := h₂
 unfold subscriptTail
 refine ams ?_
 rw [getitemInPython_of_ne hT.not_modules]
 refine ams (wpAny_specialOf hT hl ?_)
 have fin : wpAny y0.w A (subscripted slice false o i) (fun r s₃ => wpAny y0.w A (letTemporaryGo value o r >>= fun _ => pure r) Q E s₃) E s₂ := by
   rw [hs o i]
   exact wpAny_operating (ani h₂ (fun r s₃ h₃ => ams (wpAny_letTemporaryGo (amW h₃))) fun _ _ x => x)
 first
   | exact amW (ams fin)
   | exact ams (amW (ams fin))
   | exact ams fin
theorem HC {X : Cx} {pins : List (Addr × Obj)} {σ : St} {H : Hp} {s : Shared} {a : Addr} {y : V} {o : Option V} (I : Inv X pins σ H s) (g : Eu H a y o) : s.TypeIs (.ref a) "dict" := by
 rcases g with ⟨bH, k, e, _, _⟩ | ⟨bH, k, b, e, _, _, _⟩
 . obtain ⟨_, _, vs, _, dd⟩ := HB I.dM e
   exact dd.typeIs
 . obtain ⟨_, _, xs, _, dd⟩ := NX I.dM e
   exact dd.typeIs
def afj (td ty : TE) : TE := fun σ H Q => td σ H fun x H1 => ty σ H1 fun y H2 => ∃ a v, x = .ref a /\ Eu H2 a y (some v) /\ Q v H2
def ahS (ty td : TE) : TE := fun σ H Q => ty σ H fun y H1 => td σ H1 fun x H2 => ∃ a o, x = .ref a /\ Eu H2 a y o /\ Q (.bl o.isSome) H2
def afk (td ty tv : TE) : TS := fun D σ H => tv σ H fun v H1 => td σ H1 fun x H2 => ty σ H2 fun y H3 => ∃ a H4, x = .ref a /\ SJ H3 a y v H4 /\ D.nx σ H4
section
variable {X : Cx} {o i e value : Expr} {pos pos' ahB : Pos} {td ty tv : TE}
theorem WX (hu : X.A.units + 1 < cLine) (ho : PE X o td) (hi : PE X i ty) (hs : abG i) : PE X (.Subscript o i pos) (afj td ty) := by
 intro pins s σ H Q I h
 refine WW PySem.F.slot_dict_getitem.lookup hs (fu (ho pins s σ H _ I h) fun u s1 ⟨x, H1, I1, rx, q1⟩ => fu (hi pins s1 σ H1 _ I1 q1) fun iv s2 zz => ?_)
 obtain ⟨y, H2, I2, ry, a, v, ex, g, q2⟩ := zz
 subst ex
 obtain rfl : u = Value.ref a := rx
 exact ⟨HC I2 g, PB hu I2 g ry fun w' s3 I3 Pw => ⟨v, H2, I3, Pw, q2⟩⟩
theorem abH (hu : X.A.units + 1 < cLine) (hi : PE X i ty) (ho : PE X o td) : PC X .In i o (ahS ty td) := by
 intro pins s σ H Q I h
 refine fu (hi pins s σ H _ I h) fun iv s1 ⟨y, H1, I1, ry, q1⟩ => fu (ho pins s1 σ H1 _ I1 q1) fun u s2 zz => ?_
 obtain ⟨x, H2, I2, rx, a, ov, ex, g, q2⟩ := zz
 subst ex
 obtain rfl : u = Value.ref a := rx
 exact ahR hu I2 g ry fun s3 I3 => ⟨.bl ov.isSome, H2, I3, rfl, q2⟩
theorem WY (hu : X.A.units + 1 < cLine) (ho : PE X o td) (hi : PE X i ty) (hv : PE X value tv) (hs : swapsWith value (some (.Subscript o i pos')) pos.line X.env = pure false) :
   PS X (.Assign [.Subscript o i pos'] value pos) (afk td ty tv) := by
 intro pins s σ H D I h
 refine wpAny_Assign_Subscript (fu (hv pins s σ H _ I h) fun r s1 ⟨v, H1, I1, rv, q1⟩ => fu (ho pins s1 σ H1 _ I1 q1) fun u s2 ⟨x, H2, I2, rx, q2⟩ => fu (hi pins s2 σ H2 _ I2 q2) fun iv s3 zz => ?_) hs
 obtain ⟨y, H3, I3, ry, a, H4, ex, g, q3⟩ := zz
 subst ex
 obtain rfl : u = Value.ref a := rx
 exact PD hu I3 g ry rv fun s4 I4 => ⟨σ, H4, I4, q3⟩
end
theorem SM {P : Program} {w : World} {H : Hp} (h : Heap) (hb : sysModules < h.objs.size) : fB P w H (h.push { cls := .type "dict", data := .dict #[] }) h.objs.size (.dK []) :=
 ⟨amM _, anJ.mpr (an8 (amX hb)), [], .nil, Heap.DictOf.new h⟩
def abI : TE := fun _ H Q => ∀ p, H p = none -> Q (.ref p) (upd H p (.dK []))
section
variable {X : Cx} {pos : Pos}
theorem SN : PE X (.Dict [] [] pos) abI := fun pins s σ H Q I h =>
 wpAny_Dict_empty ⟨.ref s.heap.objs.size, _, I.laid (a := s.heap.objs.size) (o := .dK []) (t' := s.toks) (fun _ _ q => amy _ q) (amo _) (SM s.heap I.big), rfl, h _ y0.bm⟩
end
structure M2 (X : Cx) (o : Expr) (m : Str) (apos : Pos) (e f : Expr) (oY : Pos) : Prop where
 base : attributeBase o m X.env (eval o X.env) = eval o X.env
 few : ((backTo oY (starEach [e, f] X.env)).all (fun x => !x.1) && (backToKw oY y0.bv).all y0.bE
   && decide (([e, f] : List Expr).length + ([] : List Keyword).length + y0.U < 30)) = true
 line : (apos.endLine == oY.line) = true
 trees : backTo oY (starEach [e, f] X.env) = [(false, eval e X.env), (false, eval f X.env)]
section
variable {X : Cx} {pins : List (Addr × Obj)} {σ : St} {H : Hp} {s : Shared} {a : Addr} {y d : V} {u r : Value} {o : Option V} {A : Around} {E : Value -> Shared -> Prop}
end
section
variable {X : Cx} {o e f : Expr} {apos oY : Pos} {td ty tx : TE}
end
section
variable {X : Cx} {pins : List (Addr × Obj)} {σ : St} {H : Hp} {s : Shared} {a : Addr} {bH : List (Key × V)} {A : Around} {E : Value -> Shared -> Prop}
theorem SQ {Q : Value -> Shared -> Prop} (I : Inv X pins σ H s) (e : Rd H a (.dK bH)) (h : ∀ p s', H p = none -> Inv X pins σ (upd H p (.dK bH)) s' -> Q (.ref p) s') : wpAny (model X.prog X.w) A (call (.type "dict") [.ref a]) Q E s := by
 obtain ⟨z, hd, vs, rel, dd⟩ := HB I.dM e
 refine kt_call_dict hd dd (by rw [← rel.length]; exact z) fun h' dd' hs => ?_
 refine h _ _ y0.bm (I.laid (a := s.heap.objs.size) (o := .dK bH) (t' := s.toks) (fun b q hq => ?_) (amo _) (SK z (anJ.mpr (an8 (amX I.big))) rel dd'))
 exact (hs.2 b (amX (amG hq))).trans (amy _ hq)
end
section
variable {X : Cx} {pins : List (Addr × Obj)} {σ : St} {H : Hp} {s : Shared} {a : Addr} {y : V} {u : Value} {A : Around} {E : Value -> Shared -> Prop}
end
end L2
namespace L3
open PySem PySem.Spec PyProof.Rows L2
inductive D where
 | non | bl (b : Bool) | int (i : Int) | str (x : Str)
 | tup (ds : List D) | lst (ds : List D) | ins (c : Str) (fs : List (Str × D)) | kZ (bH : List (Key × D))
 | dct (bH : List (List Key × D))
 | any
 | val (v : V)
inductive T where
 | sh (d : D) | tup (ts : List T) | lst (ts : List T) | ins (c : Str) (fs : List (Str × T)) | kZ (bH : List (Key × D)) | dct (bH : List (List Key × T))
 | pin (x : Addr) (t : T)
mutual
def T.eF : T -> D
 | .sh d => d
 | .tup ts => .tup (dQ ts)
 | .lst ts => .lst (dQ ts)
 | .ins c fs => .ins c (sU fs)
 | .kZ bH => .kZ bH
 | .dct bH => .dct (SR bH)
 | .pin _ t => t.eF
def T.dQ : List T -> List D
 | [] => []
 | t :: ts => t.eF :: T.dQ ts
def T.sU : List (Str × T) -> List (Str × D)
 | [] => []
 | (x, t) :: fs => (x, t.eF) :: T.sU fs
def T.SR : List (List Key × T) -> List (List Key × D)
 | [] => []
 | (x, t) :: fs => (x, t.eF) :: T.SR fs
end
variable (K : PySem.W.Frag) (CL : Str -> Addr)
mutual
inductive cy (Z : Hp) : D -> V -> Prop where
 | non : cy Z .non .non
 | bl (b : Bool) : cy Z (.bl b) (.bl b)
 | int (i : Int) : cy Z (.int i) (.int i)
 | str (x : Str) : cy Z (.str x) (.str x)
 | any (v : V) : cy Z .any v
 | val (v : V) : cy Z (.val v) v
 | tup {a : Addr} {vs : List V} {ds : List D} : uM K Z a vs -> aX Z ds vs -> cy Z (.tup ds) (.ref a)
 | lst {a : Addr} {vs : List V} {ds : List D} : qk K Z a vs -> aX Z ds vs -> cy Z (.lst ds) (.ref a)
 | ins {a dx : Addr} {c : Str} {gs : List (Str × V)} {fs : List (Str × D)} : Z a = some (.ins (CL c) dx gs) -> qx Z fs gs -> cy Z (.ins c fs) (.ref a)
 | kZ {a : Addr} {gs : List (Key × V)} {fs : List (Key × D)} : Z a = some (.dK gs) -> cH Z fs gs -> cy Z (.kZ fs) (.ref a)
 | dct {a : Addr} {gs : List (List Key × V)} {fs : List (List Key × D)} : Z a = some (.dT gs) -> yd Z fs gs -> cy Z (.dct fs) (.ref a)
inductive aX (Z : Hp) : List D -> List V -> Prop where
 | nil : aX Z [] []
 | cons {d : D} {v : V} {ds : List D} {vs : List V} : cy Z d v -> aX Z ds vs -> aX Z (d :: ds) (v :: vs)
inductive qx (Z : Hp) : List (Str × D) -> List (Str × V) -> Prop where
 | nil : qx Z [] []
 | cons {x : Str} {d : D} {v : V} {ds : List (Str × D)} {vs : List (Str × V)} : cy Z d v -> qx Z ds vs -> qx Z ((x, d) :: ds) ((x, v) :: vs)
inductive cH (Z : Hp) : List (Key × D) -> List (Key × V) -> Prop where
 | nil : cH Z [] []
 | cons {x : Key} {d : D} {v : V} {ds : List (Key × D)} {vs : List (Key × V)} : cy Z d v -> cH Z ds vs -> cH Z ((x, d) :: ds) ((x, v) :: vs)
inductive yd (Z : Hp) : List (List Key × D) -> List (List Key × V) -> Prop where
 | nil : yd Z [] []
 | cons {x : List Key} {d : D} {v : V} {ds : List (List Key × D)} {vs : List (List Key × V)} : cy Z d v -> yd Z ds vs -> yd Z ((x, d) :: ds) ((x, v) :: vs)
end
mutual
inductive dR (H Z : Hp) : T -> V -> List Addr -> Prop where
 | sh {d : D} {v : V} : cy K CL Z d v -> dR H Z (.sh d) v []
 | tup {a : Addr} {vs : List V} {ts : List T} {fp : List Addr} : Z a = some (.tup vs) -> bI H Z ts vs fp -> dR H Z (.tup ts) (.ref a) fp
 | lst {a : Addr} {vs : List V} {ts : List T} {fp : List Addr} : H a = some (.lst vs) -> bI H Z ts vs fp -> dR H Z (.lst ts) (.ref a) (a :: fp)
 | ins {a dx : Addr} {c : Str} {gs : List (Str × V)} {fs : List (Str × T)} {fp : List Addr} : H a = some (.ins (CL c) dx gs) -> eZ H Z fs gs fp -> dR H Z (.ins c fs) (.ref a) (a :: fp)
 | kZ {a : Addr} {gs : List (Key × V)} {bH : List (Key × D)} : H a = some (.dK gs) -> cH K CL Z bH gs -> dR H Z (.kZ bH) (.ref a) [a]
 | dct {a : Addr} {gs : List (List Key × V)} {bH : List (List Key × T)} {fp : List Addr} : H a = some (.dT gs) -> ye H Z bH gs fp -> dR H Z (.dct bH) (.ref a) (a :: fp)
 | pin {x : Addr} {t : T} {fp : List Addr} : dR H Z t (.ref x) fp -> dR H Z (.pin x t) (.ref x) fp
inductive bI (H Z : Hp) : List T -> List V -> List Addr -> Prop where
 | nil : bI H Z [] [] []
 | cons {t : T} {v : V} {ts : List T} {vs : List V} {fp gp : List Addr} : dR H Z t v fp -> bI H Z ts vs gp -> bI H Z (t :: ts) (v :: vs) (fp ++ gp)
inductive eZ (H Z : Hp) : List (Str × T) -> List (Str × V) -> List Addr -> Prop where
 | nil : eZ H Z [] [] []
 | cons {x : Str} {t : T} {v : V} {ts : List (Str × T)} {vs : List (Str × V)} {fp gp : List Addr} : dR H Z t v fp -> eZ H Z ts vs gp -> eZ H Z ((x, t) :: ts) ((x, v) :: vs) (fp ++ gp)
inductive ye (H Z : Hp) : List (List Key × T) -> List (List Key × V) -> List Addr -> Prop where
 | nil : ye H Z [] [] []
 | cons {x : List Key} {t : T} {v : V} {ts : List (List Key × T)} {vs : List (List Key × V)} {fp gp : List Addr} : dR H Z t v fp -> ye H Z ts vs gp -> ye H Z ((x, t) :: ts) ((x, v) :: vs) (fp ++ gp)
end
inductive gf (H Z : Hp) : List (Option T) -> L2.St -> List Addr -> Prop where
 | nil : gf H Z [] [] []
 | skip {o : Option V} {δ : List (Option T)} {σ : L2.St} {fp : List Addr} : gf H Z δ σ fp -> gf H Z (none :: δ) (o :: σ) fp
 | cons {t : T} {v : V} {δ : List (Option T)} {σ : L2.St} {fp gp : List Addr} : dR K CL H Z t v fp -> gf H Z δ σ gp -> gf H Z (some t :: δ) (some v :: σ) (fp ++ gp)
section
variable {K : PySem.W.Frag} {CL : Str -> Addr}
theorem aQ.HD {H H' : Hp} {a : Addr} {xs : List V} (e : aQ H H') (h : uM K H a xs) : uM K H' a xs := by
 rcases h with (h | ⟨o, h⟩) | h
 . exact .inl (.inl (e _ _ h))
 . exact .inl (.inr ⟨o, e _ _ h⟩)
 . exact .inr h
theorem cy.mono {Z Z' : Hp} (e : aQ Z Z') {d : D} {v : V} (h : cy K CL Z d v) : cy K CL Z' d v :=
 cy.rec (motive_1 := fun d v _ => cy K CL Z' d v) (motive_2 := fun d v _ => aX K CL Z' d v) (motive_3 := fun d v _ => qx K CL Z' d v) (motive_4 := fun d v _ => cH K CL Z' d v) (motive_5 := fun d v _ => yd K CL Z' d v)
   .non .bl .int .str .any .val (fun h _ r => .tup (aQ.HD e h) r) (fun h _ r => .lst (e.seq h) r) (fun h _ r => .ins (e _ _ h) r) (fun h _ r => .kZ (e _ _ h) r) (fun h _ r => .dct (e _ _ h) r) .nil y0.I .nil y0.I .nil y0.I .nil y0.I h
theorem aX.mono {Z Z' : Hp} (e : aQ Z Z') {d : List D} {v : List V} (h : aX K CL Z d v) : aX K CL Z' d v :=
 aX.rec (motive_1 := fun d v _ => cy K CL Z' d v) (motive_2 := fun d v _ => aX K CL Z' d v) (motive_3 := fun d v _ => qx K CL Z' d v) (motive_4 := fun d v _ => cH K CL Z' d v) (motive_5 := fun d v _ => yd K CL Z' d v)
   .non .bl .int .str .any .val (fun h _ r => .tup (aQ.HD e h) r) (fun h _ r => .lst (e.seq h) r) (fun h _ r => .ins (e _ _ h) r) (fun h _ r => .kZ (e _ _ h) r) (fun h _ r => .dct (e _ _ h) r) .nil y0.I .nil y0.I .nil y0.I .nil y0.I h
theorem cH.mono {Z Z' : Hp} (e : aQ Z Z') {d : List (Key × D)} {v : List (Key × V)} (h : cH K CL Z d v) : cH K CL Z' d v :=
 cH.rec (motive_1 := fun d v _ => cy K CL Z' d v) (motive_2 := fun d v _ => aX K CL Z' d v) (motive_3 := fun d v _ => qx K CL Z' d v) (motive_4 := fun d v _ => cH K CL Z' d v) (motive_5 := fun d v _ => yd K CL Z' d v)
   .non .bl .int .str .any .val (fun h _ r => .tup (aQ.HD e h) r) (fun h _ r => .lst (e.seq h) r) (fun h _ r => .ins (e _ _ h) r) (fun h _ r => .kZ (e _ _ h) r) (fun h _ r => .dct (e _ _ h) r) .nil y0.I .nil y0.I .nil y0.I .nil y0.I h
theorem dR.mono {H H' Z Z' : Hp} (e : aQ Z Z') {t : T} {v : V} {fp : List Addr} (k : ∀ a ∈ fp, H' a = H a) (h : dR K CL H Z t v fp) : dR K CL H' Z' t v fp :=
 dR.rec (motive_1 := fun t v fp _ => (∀ a ∈ fp, H' a = H a) -> dR K CL H' Z' t v fp) (motive_2 := fun t v fp _ => (∀ a ∈ fp, H' a = H a) -> bI K CL H' Z' t v fp) (motive_3 := fun t v fp _ => (∀ a ∈ fp, H' a = H a) -> eZ K CL H' Z' t v fp) (motive_4 := fun t v fp _ => (∀ a ∈ fp, H' a = H a) -> ye K CL H' Z' t v fp)
   (fun h _ => .sh (h.mono e)) (fun h _ r k => .tup (e _ _ h) (r k)) y0.ci y0.cj y0.be y0.ck (fun _ r k => .pin (r k)) y0.au y0.h y0.au y0.h y0.au y0.h h k
theorem bI.mono {H H' Z Z' : Hp} (e : aQ Z Z') {t : List T} {v : List V} {fp : List Addr} (k : ∀ a ∈ fp, H' a = H a) (h : bI K CL H Z t v fp) : bI K CL H' Z' t v fp :=
 bI.rec (motive_1 := fun t v fp _ => (∀ a ∈ fp, H' a = H a) -> dR K CL H' Z' t v fp) (motive_2 := fun t v fp _ => (∀ a ∈ fp, H' a = H a) -> bI K CL H' Z' t v fp) (motive_3 := fun t v fp _ => (∀ a ∈ fp, H' a = H a) -> eZ K CL H' Z' t v fp) (motive_4 := fun t v fp _ => (∀ a ∈ fp, H' a = H a) -> ye K CL H' Z' t v fp)
   (fun h _ => .sh (h.mono e)) (fun h _ r k => .tup (e _ _ h) (r k)) y0.ci y0.cj y0.be y0.ck (fun _ r k => .pin (r k)) y0.au y0.h y0.au y0.h y0.au y0.h h k
theorem eZ.mono {H H' Z Z' : Hp} (e : aQ Z Z') {t : List (Str × T)} {v : List (Str × V)} {fp : List Addr} (k : ∀ a ∈ fp, H' a = H a) (h : eZ K CL H Z t v fp) : eZ K CL H' Z' t v fp :=
 eZ.rec (motive_1 := fun t v fp _ => (∀ a ∈ fp, H' a = H a) -> dR K CL H' Z' t v fp) (motive_2 := fun t v fp _ => (∀ a ∈ fp, H' a = H a) -> bI K CL H' Z' t v fp) (motive_3 := fun t v fp _ => (∀ a ∈ fp, H' a = H a) -> eZ K CL H' Z' t v fp) (motive_4 := fun t v fp _ => (∀ a ∈ fp, H' a = H a) -> ye K CL H' Z' t v fp)
   (fun h _ => .sh (h.mono e)) (fun h _ r k => .tup (e _ _ h) (r k)) y0.ci y0.cj y0.be y0.ck (fun _ r k => .pin (r k)) y0.au y0.h y0.au y0.h y0.au y0.h h k
theorem dR.there {H Z : Hp} {t : T} {v : V} {fp : List Addr} (h : dR K CL H Z t v fp) : ∀ a ∈ fp, ∃ o, H a = some o :=
 dR.rec (motive_1 := fun t v fp _ => ∀ a ∈ fp, ∃ o, H a = some o) (motive_2 := fun t v fp _ => ∀ a ∈ fp, ∃ o, H a = some o) (motive_3 := fun t v fp _ => ∀ a ∈ fp, ∃ o, H a = some o) (motive_4 := fun t v fp _ => ∀ a ∈ fp, ∃ o, H a = some o)
   (fun _ a ha => absurd ha amJ) (fun _ _ r => r) y0.n y0.n y0.bA y0.n (fun _ r => r) y0.aH y0.L y0.aH y0.L y0.aH y0.L h
theorem bI.there {H Z : Hp} {t : List T} {v : List V} {fp : List Addr} (h : bI K CL H Z t v fp) : ∀ a ∈ fp, ∃ o, H a = some o :=
 bI.rec (motive_1 := fun t v fp _ => ∀ a ∈ fp, ∃ o, H a = some o) (motive_2 := fun t v fp _ => ∀ a ∈ fp, ∃ o, H a = some o) (motive_3 := fun t v fp _ => ∀ a ∈ fp, ∃ o, H a = some o) (motive_4 := fun t v fp _ => ∀ a ∈ fp, ∃ o, H a = some o)
   (fun _ a ha => absurd ha amJ) (fun _ _ r => r) y0.n y0.n y0.bA y0.n (fun _ r => r) y0.aH y0.L y0.aH y0.L y0.aH y0.L h
theorem dR.eF {H Z Z' : Hp} (e : aQ Z Z') {t : T} {v : V} {fp : List Addr} (k : ∀ a ∈ fp, Z' a = H a) (h : dR K CL H Z t v fp) : cy K CL Z' t.eF v :=
 dR.rec (motive_1 := fun t v fp _ => (∀ a ∈ fp, Z' a = H a) -> cy K CL Z' t.eF v) (motive_2 := fun t v fp _ => (∀ a ∈ fp, Z' a = H a) -> aX K CL Z' (T.dQ t) v) (motive_3 := fun t v fp _ => (∀ a ∈ fp, Z' a = H a) -> qx K CL Z' (T.sU t) v) (motive_4 := fun t v fp _ => (∀ a ∈ fp, Z' a = H a) -> yd K CL Z' (T.SR t) v)
   (fun h _ => by rw [T.eF]; exact h.mono e) (fun h _ r k => by rw [T.eF]; exact .tup (uM.of (e _ _ h)) (r k)) (fun h _ r k => by rw [T.eF]; exact .lst (qk.of ((k _ amj).trans h)) y0.x) (fun h _ r k => by rw [T.eF]; exact .ins ((k _ amj).trans h) y0.x) (fun h f k => by rw [T.eF]; exact .kZ ((k _ amj).trans h) (cH.mono e f)) (fun h _ r k => by rw [T.eF]; exact .dct ((k _ amj).trans h) y0.x) (fun _ r k => by rw [T.eF]; exact r k) (fun _ => by rw [T.dQ]; exact .nil) (fun _ _ h r k => by rw [T.dQ]; exact .cons (h fun a ha => k a (amw _ ha)) (r fun a ha => k a (ami _ ha))) (fun _ => by rw [T.sU]; exact .nil) (fun _ _ h r k => by rw [T.sU]; exact .cons (h fun a ha => k a (amw _ ha)) (r fun a ha => k a (ami _ ha))) (fun _ => by rw [T.SR]; exact .nil) (fun _ _ h r k => by rw [T.SR]; exact .cons (h fun a ha => k a (amw _ ha)) (r fun a ha => k a (ami _ ha))) h k
theorem aX.ind {Z : Hp} {P : List D -> List V -> Prop} (n : P [] []) (c : ∀ {d : D} {v : V} {ds : List D} {vs : List V}, cy K CL Z d v -> aX K CL Z ds vs -> P ds vs -> P (d :: ds) (v :: vs)) {ds : List D} {vs : List V} (h : aX K CL Z ds vs) : P ds vs :=
 aX.rec (motive_1 := fun _ _ _ => True) (motive_2 := fun d v _ => P d v) (motive_3 := fun _ _ _ => True) (motive_4 := fun _ _ _ => True) (motive_5 := fun _ _ _ => True)
   trivial y0.aA y0.aA y0.aA y0.aA y0.aA y0.t y0.t y0.t y0.t y0.t n (fun a b _ i => c a b i) trivial y0.u trivial y0.u trivial y0.u h
theorem cH.ind {Z : Hp} {P : List (Key × D) -> List (Key × V) -> Prop} (n : P [] []) (c : ∀ {x : Key} {d : D} {v : V} {ds : List (Key × D)} {vs : List (Key × V)}, cy K CL Z d v -> cH K CL Z ds vs -> P ds vs -> P ((x, d) :: ds) ((x, v) :: vs)) {ds : List (Key × D)} {vs : List (Key × V)} (h : cH K CL Z ds vs) : P ds vs :=
 cH.rec (motive_1 := fun _ _ _ => True) (motive_2 := fun _ _ _ => True) (motive_3 := fun _ _ _ => True) (motive_4 := fun d v _ => P d v) (motive_5 := fun _ _ _ => True)
   trivial y0.aA y0.aA y0.aA y0.aA y0.aA y0.t y0.t y0.t y0.t y0.t trivial y0.u trivial y0.u n (fun a b _ i => c a b i) trivial y0.u h
theorem bI.ind {H Z : Hp} {P : List T -> List V -> List Addr -> Prop} (n : P [] [] []) (c : ∀ {t : T} {v : V} {ts : List T} {vs : List V} {fp gp : List Addr}, dR K CL H Z t v fp -> bI K CL H Z ts vs gp -> P ts vs gp -> P (t :: ts) (v :: vs) (fp ++ gp)) {ts : List T} {vs : List V} {fp : List Addr} (h : bI K CL H Z ts vs fp) : P ts vs fp :=
 bI.rec (motive_1 := fun _ _ _ _ => True) (motive_2 := fun d v f _ => P d v f) (motive_3 := fun _ _ _ _ => True) (motive_4 := fun _ _ _ _ => True)
   (fun _ => trivial) y0.t y0.t y0.t (fun _ _ => trivial) y0.t (fun _ _ => trivial) n (fun a b _ i => c a b i) trivial y0.u trivial y0.u h
theorem eZ.ind {H Z : Hp} {P : List (Str × T) -> List (Str × V) -> List Addr -> Prop} (n : P [] [] []) (c : ∀ {x : Str} {t : T} {v : V} {ts : List (Str × T)} {vs : List (Str × V)} {fp gp : List Addr}, dR K CL H Z t v fp -> eZ K CL H Z ts vs gp -> P ts vs gp -> P ((x, t) :: ts) ((x, v) :: vs) (fp ++ gp)) {ts : List (Str × T)} {vs : List (Str × V)} {fp : List Addr} (h : eZ K CL H Z ts vs fp) : P ts vs fp :=
 eZ.rec (motive_1 := fun _ _ _ _ => True) (motive_2 := fun _ _ _ _ => True) (motive_3 := fun d v f _ => P d v f) (motive_4 := fun _ _ _ _ => True)
   (fun _ => trivial) y0.t y0.t y0.t (fun _ _ => trivial) y0.t (fun _ _ => trivial) trivial y0.u n (fun a b _ i => c a b i) trivial y0.u h
theorem aX.length {Z : Hp} {d : List D} {v : List V} (h : aX K CL Z d v) : d.length = v.length :=
 aX.ind (P := fun d v => d.length = v.length) rfl (fun _ _ i => congrArg (· + 1) i) h
theorem bI.length {H Z : Hp} {d : List T} {v : List V} {fp : List Addr} (h : bI K CL H Z d v fp) : d.length = v.length :=
 bI.ind (P := fun d v _ => d.length = v.length) rfl (fun _ _ i => congrArg (· + 1) i) h
theorem aX.get {Z : Hp} : ∀ {ds : List D} {vs : List V} {i : Nat} {d : D}, aX K CL Z ds vs -> ds[i]? = some d -> ∃ v, vs[i]? = some v /\ cy K CL Z d v
 | _, _, _, _, .nil, e => by simp at e
 | _, _, 0, _, .cons r _, e => by simp at e; subst e; exact ⟨_, rfl, r⟩
 | _, _, i + 1, d, .cons _ t, e => by
   obtain ⟨u, h1, h2⟩ := aX.get (i := i) (d := d) t y0.aP
   exact ⟨u, by simpa using h1, h2⟩
theorem aX.SV {Z : Hp} : ∀ {ds : List D} {vs : List V} {i : Nat} {v : V}, aX K CL Z ds vs -> vs[i]? = some v -> ∃ d, ds[i]? = some d /\ cy K CL Z d v
 | _, _, _, _, .nil, e => by simp at e
 | _, _, 0, _, .cons r _, e => by simp at e; subst e; exact ⟨_, rfl, r⟩
 | _, _, i + 1, d, .cons _ t, e => by
   obtain ⟨u, h1, h2⟩ := aX.SV (i := i) (v := d) t y0.aP
   exact ⟨u, by simpa using h1, h2⟩
theorem gf.get {H Z : Hp} : ∀ {δ : List (Option T)} {σ : L2.St} {fp : List Addr} {i : Nat} {t : T}, gf K CL H Z δ σ fp -> δ[i]? = some (some t) →
   ∃ v f1 f2 f3, σ[i]? = some (some v) /\ fp = f1 ++ (f2 ++ f3) /\ dR K CL H Z t v f2 ∧
     (∀ {H' Z' : Hp} {t' : T} {v' : V} {g : List Addr}, aQ Z Z' -> (∀ a ∈ f1 ++ f3, H' a = H a) -> dR K CL H' Z' t' v' g -> gf K CL H' Z' (δ.set i (some t')) (σ.set i (some v')) y0.ar) ∧
     (∀ {o : Option V}, gf K CL H Z (δ.set i none) (σ.set i o) (f1 ++ f3)) := by
 intro δ σ fp i t h
 have mono : ∀ {H H' Z Z' : Hp} {δ : List (Option T)} {σ : L2.St} {fp : List Addr}, aQ Z Z' -> (∀ a ∈ fp, H' a = H a) -> gf K CL H Z δ σ fp -> gf K CL H' Z' δ σ fp := by
   intro H H' Z Z' δ σ fp e k r
   induction r with
   | nil => exact .nil
   | skip _ ih => exact .skip (ih k)
   | cons r _ ih => exact .cons (r.mono e fun a ha => k a (amw _ ha)) (ih fun a ha => k a (ami _ ha))
 induction h generalizing i with
 | nil => intro e; simp at e
 | @skip o δ σ fp r ih =>
   cases i with
   | zero => intro e; simp at e
   | succ i =>
     intro e
     obtain ⟨v, f1, f2, f3, h1, h2, h3, h4, h5⟩ := ih (i := i) y0.aP
     exact ⟨v, f1, f2, f3, by simpa using h1, h2, h3, fun e k q => .skip (h4 e k q), .skip h5⟩
 | @cons t0 v0 δ σ fp gp r0 r ih =>
   cases i with
   | zero =>
     intro e
     simp at e
     subst e
     refine ⟨v0, [], fp, gp, rfl, rfl, r0, fun {H' Z' t' v' g} e k q => gf.cons (fp := g) (gp := gp) q (mono (fp := gp) e (fun a ha => k a (by simpa using ha)) r), .skip (by simpa using r)⟩
   | succ i =>
     intro e
     obtain ⟨v, f1, f2, f3, h1, h2, h3, h4, h5⟩ := ih (i := i) y0.aP
     refine ⟨v, fp ++ f1, f2, f3, by simpa using h1, by rw [h2, List.append_assoc], h3, fun {H' Z' t' v' g} e k q => ?_, fun {o} => ?_⟩
     . rw [amr]
       exact .cons (r0.mono e fun a ha => k a y0.bB) (h4 e (fun a ha => k a (by rw [amr]; exact ami _ ha)) q)
     . rw [amr]
       exact .cons r0 h5
theorem gf.mono {H H' Z Z' : Hp} {δ : List (Option T)} {σ : L2.St} {fp : List Addr} (e : aQ Z Z') (k : ∀ a ∈ fp, H' a = H a) (r : gf K CL H Z δ σ fp) : gf K CL H' Z' δ σ fp := by
 induction r with
 | nil => exact .nil
 | skip _ ih => exact .skip (ih k)
 | cons r _ ih => exact .cons (r.mono e fun a ha => k a (amw _ ha)) (ih fun a ha => k a (ami _ ha))
theorem gf.there {H Z : Hp} {δ : List (Option T)} {σ : L2.St} {fp : List Addr} (r : gf K CL H Z δ σ fp) : ∀ a ∈ fp, ∃ o, H a = some o := by
 induction r with
 | nil => intro a ha; cases ha
 | skip _ ih => exact ih
 | cons r _ ih => exact fun a ha => (amx.mp ha).elim (r.there a) (ih a)
theorem gf.put {H Z : Hp} {δ : List (Option T)} {σ : L2.St} {fp : List Addr} (r : gf K CL H Z δ σ fp) {t : T} {v : V} {g : List Addr} (q : dR K CL H Z t v g) :
   ∀ {i : Nat}, i < δ.length -> ∃ f, gf K CL H Z (δ.set i (some t)) (σ.set i (some v)) f /\ ∃ f', f'.Sublist fp /\ f.Perm (g ++ f') := by
 induction r with
 | nil => intro i hi; simp at hi
 | @skip o δ σ fp r ih =>
   intro i hi
   cases i with
   | zero => exact ⟨g ++ fp, .cons q r, fp, am3 _, aot _⟩
   | succ i =>
     obtain ⟨f, h1, f', h2, h3⟩ := ih (i := i) y0.aC
     exact ⟨f, .skip h1, f', h2, h3⟩
 | @cons t0 v0 δ σ fp gp r0 r ih =>
   intro i hi
   cases i with
   | zero => exact ⟨g ++ gp, .cons q r, gp, anH _ _, aot _⟩
   | succ i =>
     obtain ⟨f, h1, f', h2, h3⟩ := ih (i := i) y0.aC
     refine ⟨fp ++ f, .cons r0 h1, fp ++ f', am5 (am3 _) h2, ?_⟩
     refine (am2 fp h3).trans ?_
     rw [← amr, ← amr]
     exact List.Perm.append_right f' am6
end
def zN (X : Cx) (e : Expr) : TE := fun σ H Q => ∀ (pins : List y0.p) (s : Shared), Inv X pins σ H s -> wpAny y0.d X.A (eval e X.env) y0.af X.xe s
def WZ (X : Cx) (e : Expr) : TT := fun σ H Q => ∀ (pins : List y0.p) (s : Shared), Inv X pins σ H s -> wpAny y0.d X.A (isTrue e X.env (eval e X.env)) (TP X pins σ Q) X.xe s
def HF (X : Cx) (es : List Expr) : TA := fun σ H Q => ∀ (pos : Pos) (pins : List y0.p) (s : Shared), Inv X pins σ H s -> wpAny y0.d X.A (spliced (backTo pos y0.M)) (AP X pins σ Q) X.xe s
def W0 (X : Cx) (st : Stmt) : TS := fun D σ H => ∀ (pins : List y0.p) (s : Shared), Inv X pins σ H s -> wpAny y0.d X.A (exec st X.env) (SP X pins D) X.xe s
def KP (X : Cx) (st : List Stmt) : TS := fun D σ H => ∀ (pins : List y0.p) (s : Shared), Inv X pins σ H s -> wpAny y0.d X.A (execs st X.env) (SP X pins D) X.xe s
section
variable {X : Cx}
theorem eS {e : Expr} : PE X e (zN X e) := fun pins s _ _ _ I h => h pins s I
theorem ptS {e : Expr} : PT X e (WZ X e) := fun pins s _ _ _ I h => h pins s I
theorem PF {e : List Expr} : PA X e (HF X e) := fun pos pins s _ _ _ I h => h pos pins s I
theorem psS {e : Stmt} : PS X e (W0 X e) := fun pins s _ _ _ I h => h pins s I
theorem RQ {e : List Stmt} : Kr X e (KP X e) := fun pins s _ _ _ I h => h pins s I
theorem dG {e : Expr} {t : TE} (h : PE X e t) {σ : L2.St} {H : Hp} {Q : VK} (q : t σ H Q) : zN X e σ H Q := fun pins s I => h pins s σ H Q I q
theorem HG {e : Expr} {t : TT} (h : PT X e t) {σ : L2.St} {H : Hp} {Q : Bool -> Hp -> Prop} (q : t σ H Q) : WZ X e σ H Q := fun pins s I => h pins s σ H Q I q
theorem PJ {e : List Expr} {t : TA} (h : PA X e t) {σ : L2.St} {H : Hp} {Q : List V -> Hp -> Prop} (q : t σ H Q) : HF X e σ H Q := fun pos pins s I => h pos pins s σ H Q I q
theorem wM {e : Stmt} {t : TS} (h : PS X e t) {σ : L2.St} {H : Hp} {D : Ends} (q : t D σ H) : W0 X e D σ H := fun pins s I => h pins s σ H D I q
theorem W2 {e : List Stmt} {t : TS} (h : Kr X e t) {σ : L2.St} {H : Hp} {D : Ends} (q : t D σ H) : KP X e D σ H := fun pins s I => h pins s σ H D I q
end
def notStar : Expr -> Bool
 | .Starred _ _ => false
 | _ => true
theorem bR {e : Expr} {es : List Expr} {env : Env} (h : notStar e = true) : starEach (e :: es) env = (false, eval e env) :: starEach es env := by
 cases e <;> first | rfl | (cases h)
structure Bx where
 B : Hp
 Z : Hp
def jY : HO -> Bool
 | .tup _ => true
 | .eF _ _ => true
 | _ => false
def HJ (x : Str) : Bool := x.cps[0]? == some 35
def PL (x : Str) : Str := ⟨x.cps.extract 1 x.cps.size⟩
def k6 (CL : Str -> Addr) (Z : Hp) : Prop := ∀ x, HJ x = true -> CL x ≠ 0 -> Z (CL x) = some (.tabs (PL x))
structure cj (K : PySem.W.Frag) (CL : Str -> Addr) (b : Bx) (H Z : Hp) (δ : List (Option T)) (σ : L2.St) (ts : List T) (vs : List V) : Prop where
 rep : ∃ fp gp, gf K CL H Z δ σ fp /\ bI K CL H Z ts vs gp /\ (fp ++ gp).Nodup /\ ∀ a ∈ fp ++ gp, Z a = none /\ b.B a = none
 bh : aQ b.B H
 zz : aQ b.Z Z
 zh : aQ Z H
 new : ∀ a o, Z a = some o -> b.Z a = none -> b.B a = none
 tp : ∀ a o, H a = some o -> jY o = true -> Z a = some o
 tab : k6 CL b.Z
section
variable {K : PySem.W.Frag} {CL : Str -> Addr} {b : Bx} {H H' Z Z' : Hp} {δ δ' : List (Option T)} {σ σ' : L2.St} {ts ts' : List T} {vs vs' : List V} {t : T} {v : V}
theorem k6.mono {A B : Hp} (h : k6 CL A) (e : aQ A B) : k6 CL B := fun x hx h0 => e _ _ (h x hx h0)
theorem cj.abK (S : cj K CL b H Z δ σ ts vs) : k6 CL Z := S.tab.mono S.zz
theorem cj.KQ (S : cj K CL b H Z δ σ ts vs) : k6 CL H := S.abK.mono S.zh
theorem abL {A B : Hp} (e : aQ A B) {a : Addr} (h : B a = none) : A a = none := e.free h
theorem aQ.upd {H : Hp} {p : Addr} {o : HO} (h : H p = none) : aQ H (upd H p o) := fun b u e => by rw [aO (aZ e h)]; exact e
theorem cj.view (S : cj K CL b H Z δ σ (t :: ts) (v :: vs)) : cy K CL H t.eF v := by
 obtain ⟨fp, gp, _, r, _, _⟩ := S.rep
 cases r with
 | cons r _ => exact r.eF S.zh fun _ _ => rfl
theorem cj.pop (S : cj K CL b H Z δ σ (t :: ts) (v :: vs)) : cj K CL b H Z δ σ ts vs := by
 obtain ⟨fp, gp, e, r, nd, k⟩ := S.rep
 cases r with
 | @cons _ _ _ _ f1 f2 r1 r2 =>
   refine ⟨⟨fp, f2, e, r2, nd.sublist (am5 (am3 _) (anH _ _)), fun a ha => k a ?_⟩, S.bh, S.zz, S.zh, S.new, S.tp, S.tab⟩
   rcases amx.mp ha with h | h
   . exact amw _ h
   . exact ami _ (ami _ h)
theorem cj.push {d : D} (S : cj K CL b H Z δ σ ts vs) (r : cy K CL Z d v) : cj K CL b H Z δ σ (.sh d :: ts) (v :: vs) := by
 obtain ⟨fp, gp, e, r2, nd, k⟩ := S.rep
 exact ⟨⟨fp, [] ++ gp, e, .cons (.sh r) r2, nd, k⟩, S.bh, S.zz, S.zh, S.new, S.tp, S.tab⟩
theorem cj.KR (S : cj K CL b H Z δ σ (t :: ts) (v :: vs)) : ∃ Z', aQ Z Z' /\ cj K CL b H Z' δ σ (.sh t.eF :: ts) (v :: vs) := by
 classical
 obtain ⟨fp, gp, e, r, nd, k⟩ := S.rep
 cases r with
 | @cons _ _ _ _ f1 f2 r1 r2 =>
   have nZ : ∀ a ∈ f1, Z a = none /\ b.B a = none := fun a ha => k a (ami _ (amw _ ha))
   have sz : aQ Z (fun a => if a ∈ f1 then H a else Z a) := fun a o q => by
     by_cases ha : a ∈ f1
     . rw [(nZ a ha).1] at q; cases q
     . show (if a ∈ f1 then H a else Z a) = some o
       rw [amg ha]; exact q
   have nd1 := anh.mp nd
   have dj : ∀ a ∈ fp ++ f2, a ∉ f1 := fun a ha h1 => by
     rcases amx.mp ha with h | h
     . exact nd1.2.2 a h a (amw _ h1) rfl
     . exact (anh.mp nd1.2.1).2.2 a h1 a h rfl
   refine ⟨fun a => if a ∈ f1 then H a else Z a, sz, ⟨⟨fp, [] ++ f2, e.mono sz (fun _ _ => rfl), .cons (.sh (r1.eF sz fun a ha => aml ha)) (r2.mono sz fun _ _ => rfl), ?_, fun a ha => ?_⟩, S.bh, S.zz.trans sz, fun a o q => ?_, fun a o q z => ?_, fun a o q i => ?_, S.tab⟩⟩
   . exact nd.sublist (am5 (am3 _) (anH _ _))
   . have SW : a ∈ fp ++ f2 := ha
     refine ⟨?_, (k a ?_).2⟩
     . show (if a ∈ f1 then H a else Z a) = none
       rw [amg (dj a SW)]
       refine (k a ?_).1
       rcases amx.mp SW with h | h
       . exact amw _ h
       . exact ami _ (ami _ h)
     . rcases amx.mp SW with h | h
       . exact amw _ h
       . exact ami _ (ami _ h)
   . have q' : (if a ∈ f1 then H a else Z a) = some o := q
     by_cases ha : a ∈ f1
     . rw [aml ha] at q'; exact q'
     . rw [amg ha] at q'; exact S.zh a o q'
   . have q' : (if a ∈ f1 then H a else Z a) = some o := q
     by_cases ha : a ∈ f1
     . exact (nZ a ha).2
     . rw [amg ha] at q'; exact S.new a o q' z
   . exact sz a o (S.tp a o q i)
theorem cj.N1 {i : Nat} (S : cj K CL b H Z δ σ ts vs) (hi : δ[i]? = some (some t)) : ∃ v Z', σ[i]? = some (some v) /\ aQ Z Z' /\ cj K CL b H Z' (δ.set i (some (.sh t.eF))) σ (.sh t.eF :: ts) (v :: vs) := by
 classical
 obtain ⟨fp, gp, e, r, nd, k⟩ := S.rep
 obtain ⟨v, f1, f2, f3, hv, uO, rt, put, _⟩ := e.get hi
 subst uO
 have nZ : ∀ a ∈ f2, Z a = none /\ b.B a = none := fun a ha => k a y0.bB
 have sz : aQ Z (fun a => if a ∈ f2 then H a else Z a) := fun a o q => by
   by_cases ha : a ∈ f2
   . rw [(nZ a ha).1] at q; cases q
   . show (if a ∈ f2 then H a else Z a) = some o
     rw [amg ha]; exact q
 have dj : ∀ a ∈ (f1 ++ f3) ++ gp, a ∉ f2 := fun a ha h2 => by
   have hp : ((f1 ++ (f2 ++ f3)) ++ gp).Perm (f2 ++ ((f1 ++ f3) ++ gp)) := by
     rw [← amr, ← amr]
     refine (List.perm_append_right_iff gp).mpr ?_
     rw [← amr]
     exact (List.perm_append_right_iff f3).mpr am6
   exact (anh.mp y0.bp).2.2 a h2 a ha rfl
 have rF : cy K CL (fun a => if a ∈ f2 then H a else Z a) t.eF v := rt.eF sz fun a ha => aml ha
 have abM : σ.set i (some v) = σ := by
   apply an3
   intro j
   rw [List.getElem?_set]
   split
   . rename_i h; subst h
     split
     . exact hv.symm
     . rename_i h2; rw [anY y0.b]
   . rfl
 have e2 : gf K CL H (fun a => if a ∈ f2 then H a else Z a) (δ.set i (some (.sh t.eF))) σ (f1 ++ ([] ++ f3)) := by
   have := put (H' := H) (t' := .sh t.eF) (v' := v) (g := []) sz (fun _ _ => rfl) (.sh rF)
   rwa [abM] at this
 refine ⟨v, fun a => if a ∈ f2 then H a else Z a, hv, sz, ⟨⟨f1 ++ ([] ++ f3), [] ++ gp, e2, .cons (.sh rF) (r.mono sz fun _ _ => rfl), ?_, fun a ha => ?_⟩, S.bh, S.zz.trans sz, fun a o q => ?_, fun a o q z => ?_, fun a o q i => sz a o (S.tp a o q i), S.tab⟩⟩
 . exact nd.sublist (am5 (am5 (am3 _) (anH _ _)) (am3 _))
 . have SW : a ∈ (f1 ++ f3) ++ gp := ha
   have hm : a ∈ (f1 ++ (f2 ++ f3)) ++ gp := by
     simp only [amx] at SW ⊢
     rcases SW with (h | h) | h
     . exact .inl (.inl h)
     . exact .inl (.inr (.inr h))
     . exact .inr h
   refine ⟨?_, (k a hm).2⟩
   show (if a ∈ f2 then H a else Z a) = none
   rw [amg (dj a SW)]
   exact (k a hm).1
 . have q' : (if a ∈ f2 then H a else Z a) = some o := q
   by_cases ha : a ∈ f2
   . rw [aml ha] at q'; exact q'
   . rw [amg ha] at q'; exact S.zh a o q'
 . have q' : (if a ∈ f2 then H a else Z a) = some o := q
   by_cases ha : a ∈ f2
   . exact (nZ a ha).2
   . rw [amg ha] at q'; exact S.new a o q' z
theorem cj.move {i : Nat} (S : cj K CL b H Z δ σ ts vs) (hi : δ[i]? = some (some t)) : ∃ v, σ[i]? = some (some v) /\ cj K CL b H Z (δ.set i none) σ (t :: ts) (v :: vs) := by
 obtain ⟨fp, gp, e, r, nd, k⟩ := S.rep
 obtain ⟨v, f1, f2, f3, hv, uO, rt, _, del⟩ := e.get hi
 subst uO
 have abM : σ.set i (some v) = σ := by
   apply an3
   intro j
   rw [List.getElem?_set]
   split
   . rename_i h; subst h
     split
     . exact hv.symm
     . rename_i h2; rw [anY y0.b]
   . rfl
 have hp : ((f1 ++ (f2 ++ f3)) ++ gp).Perm ((f1 ++ f3) ++ (f2 ++ gp)) := by
   have h1 : (f2 ++ f3).Perm (f3 ++ f2) := am6
   have h2 := (am2 f1 h1).append_right gp
   simp only [amr] at h2 ⊢
   exact h2
 refine ⟨v, hv, ⟨⟨f1 ++ f3, f2 ++ gp, ?_, .cons rt r, hp.nodup_iff.mp nd, fun a ha => k a (hp.mem_iff.mpr ha)⟩, S.bh, S.zz, S.zh, S.new, S.tp, S.tab⟩⟩
 have := del (o := some v)
 rwa [abM] at this
theorem cj.look {i : Nat} (S : cj K CL b H Z δ σ ts vs) (hi : δ[i]? = some (some t)) : ∃ v, σ[i]? = some (some v) /\ cy K CL H t.eF v := by
 obtain ⟨fp, gp, e, r, nd, k⟩ := S.rep
 obtain ⟨v, f1, f2, f3, hv, uO, rt, _, _⟩ := e.get hi
 exact ⟨v, hv, rt.eF S.zh fun _ _ => rfl⟩
theorem cj.aas {i : Nat} {d : D} (S : cj K CL b H Z δ σ ts vs) (hi : δ[i]? = some (some (.sh d))) : ∃ v, σ[i]? = some (some v) /\ cy K CL Z d v := by
 obtain ⟨fp, gp, e, r, nd, k⟩ := S.rep
 obtain ⟨v, f1, f2, f3, hv, uO, rt, _, _⟩ := e.get hi
 cases rt with
 | sh h => exact ⟨v, hv, h⟩
theorem cj.set {i : Nat} (S : cj K CL b H Z δ σ (t :: ts) (v :: vs)) (hi : i < δ.length) : cj K CL b H Z (δ.set i (some t)) (σ.set i (some v)) ts vs := by
 obtain ⟨fp, gp, e, r, nd, k⟩ := S.rep
 cases r with
 | @cons _ _ _ _ f1 f2 r1 r2 =>
   obtain ⟨f, h1, f', h2, h3⟩ := e.put r1 hi
   have hp : (f ++ f2).Perm (f' ++ (f1 ++ f2)) := by
     refine (h3.append_right f2).trans ?_
     rw [← amr]
     exact am6.append_right f2
   have afm : (f' ++ (f1 ++ f2)).Sublist (fp ++ (f1 ++ f2)) := am5 h2 (am3 _)
   exact ⟨⟨f, f2, h1, r2, hp.nodup_iff.mpr (nd.sublist afm), fun a ha => k a (afm.subset (hp.mem_iff.mp ha))⟩, S.bh, S.zz, S.zh, S.new, S.tp, S.tab⟩
end
mutual
def D.oW : D -> Bool
 | .tup ds => D.cI ds
 | .lst _ => false
 | .ins _ _ => false
 | .kZ _ => false
 | .dct _ => false
 | .any => false
 | _ => true
def D.cI : List D -> Bool
 | [] => true
 | d :: ds => d.oW && D.cI ds
end
mutual
def T.clean : T -> Bool
 | .sh d => d.oW
 | .tup ts => T.ju ts
 | .lst ts => T.ju ts
 | .ins _ fs => T.cz fs
 | .kZ bH => D.cI (bH.map (·.2))
 | .dct bH => T.Ew bH
 | .pin _ t => t.clean
def T.ju : List T -> Bool
 | [] => true
 | t :: ts => t.clean && T.ju ts
def T.cz : List (Str × T) -> Bool
 | [] => true
 | (_, t) :: ts => t.clean && T.cz ts
def T.Ew : List (List Key × T) -> Bool
 | [] => true
 | (_, t) :: ts => t.clean && T.Ew ts
end
def cW (X : Cx) (CL : Str -> Addr) (b : Bx) (e : Expr) (δ : List (Option T)) (t : T) (δ' : List (Option T)) : Prop :=
 ∀ (H Z : Hp) (σ : L2.St) (ts : List T) (vs : List V) (Q : VK), cj X.K CL b H Z δ σ ts vs -> (∀ v H' Z', aQ Z Z' -> aQ H H' -> cj X.K CL b H' Z' δ' σ (t :: ts) (v :: vs) -> Q v H') -> zN X e σ H Q
def d9 (X : Cx) (CL : Str -> Addr) (b : Bx) (e : Expr) (δ : List (Option T)) (d : D) (δ' : List (Option T)) : Prop :=
 ∀ (H Z : Hp) (σ : L2.St) (ts : List T) (vs : List V) (Q : VK), cj X.K CL b H Z δ σ ts vs -> (∀ v H' Z', aQ Z Z' -> aQ H H' -> cj X.K CL b H' Z' δ' σ ts vs -> cy X.K CL H' d v -> Q v H') -> zN X e σ H Q
def yf (X : Cx) (CL : Str -> Addr) (b : Bx) (e : Expr) (δ : List (Option T)) (p : Bool) (δ' : List (Option T)) : Prop :=
 ∀ (H Z : Hp) (σ : L2.St) (ts : List T) (vs : List V) (Q : Bool -> Hp -> Prop), cj X.K CL b H Z δ σ ts vs -> (∀ H' Z', aQ Z Z' -> aQ H H' -> cj X.K CL b H' Z' δ' σ ts vs -> Q p H') -> WZ X e σ H Q
def PN (X : Cx) (CL : Str -> Addr) (b : Bx) (es : List Expr) (δ : List (Option T)) (tl : List T) (δ' : List (Option T)) : Prop :=
 ∀ (H Z : Hp) (σ : L2.St) (ts : List T) (vs : List V) (Q : List V -> Hp -> Prop), cj X.K CL b H Z δ σ ts vs →
   (∀ us H' Z', us.length = tl.length -> aQ Z Z' -> aQ H H' -> cj X.K CL b H' Z' δ' σ (tl.reverse ++ ts) (us.reverse ++ vs) -> Q us H') -> HF X es σ H Q
def RT (X : Cx) (CL : Str -> Addr) (b : Bx) (es : List Expr) (δ : List (Option T)) (ds : List D) (δ' : List (Option T)) : Prop :=
 ∀ (H Z : Hp) (σ : L2.St) (ts : List T) (vs : List V) (Q : List V -> Hp -> Prop), cj X.K CL b H Z δ σ ts vs →
   (∀ us H' Z', aQ Z Z' -> aQ H H' -> cj X.K CL b H' Z' δ' σ ts vs -> aX X.K CL H' ds us -> Q us H') -> HF X es σ H Q
structure dN where
 nx : List (Option T) -> Prop
 rt : T -> List (Option T) -> Prop
 bk : List (Option T) -> Prop := fun _ => False
 ct : List (Option T) -> Prop := fun _ => False
structure Meets (K : PySem.W.Frag) (CL : Str -> Addr) (b : Bx) (Z : Hp) (ts : List T) (vs : List V) (D : dN) (E : Ends) : Prop where
 nx : ∀ δ' σ' H' Z', aQ Z Z' -> cj K CL b H' Z' δ' σ' ts vs -> D.nx δ' -> E.nx σ' H'
 rt : ∀ t v H' Z' δ' σ', aQ Z Z' -> cj K CL b H' Z' δ' σ' (t :: ts) (v :: vs) -> D.rt t δ' -> E.rt v H'
 bk : ∀ δ' σ' H' Z', aQ Z Z' -> cj K CL b H' Z' δ' σ' ts vs -> D.bk δ' -> E.bk σ' H'
 ct : ∀ δ' σ' H' Z', aQ Z Z' -> cj K CL b H' Z' δ' σ' ts vs -> D.ct δ' -> E.ct σ' H'
def W3 (X : Cx) (CL : Str -> Addr) (b : Bx) (st : Stmt) (δ : List (Option T)) (D : dN) : Prop :=
 ∀ (H Z : Hp) (σ : L2.St) (ts : List T) (vs : List V) (E : Ends), cj X.K CL b H Z δ σ ts vs -> Meets X.K CL b Z ts vs D E -> W0 X st E σ H
def fD (X : Cx) (CL : Str -> Addr) (b : Bx) (st : List Stmt) (δ : List (Option T)) (D : dN) : Prop :=
 ∀ (H Z : Hp) (σ : L2.St) (ts : List T) (vs : List V) (E : Ends), cj X.K CL b H Z δ σ ts vs -> Meets X.K CL b Z ts vs D E -> KP X st E σ H
section
variable {K : PySem.W.Frag} {CL : Str -> Addr} {b : Bx} {H H' Z Z' : Hp} {δ δ' : List (Option T)} {σ σ' : L2.St} {ts ts' : List T} {vs vs' : List V} {t : T} {v : V}
theorem Meets.mono {D : dN} {E : Ends} (M : Meets K CL b Z ts vs D E) (e : aQ Z Z') : Meets K CL b Z' ts vs D E :=
 ⟨fun _ _ _ _ s => M.nx _ _ _ _ (e.trans s), fun _ _ _ _ _ _ s => M.rt _ _ _ _ _ _ (e.trans s), fun _ _ _ _ s => M.bk _ _ _ _ (e.trans s), fun _ _ _ _ s => M.ct _ _ _ _ (e.trans s)⟩
theorem N2 {a : Addr} {xs : List V} (zh : ∀ a o, H a = some o -> jY o = true -> Z a = some o) (h : uM K H a xs) : uM K Z a xs := by
 rcases h with (h | ⟨o, h⟩) | h
 . exact .inl (.inl (zh _ _ h rfl))
 . exact .inl (.inr ⟨o, zh _ _ h rfl⟩)
 . exact .inr h
theorem cy.oW (zh : ∀ a o, H a = some o -> jY o = true -> Z a = some o) {d : D} {v : V} (k : d.oW = true) (h : cy K CL H d v) : cy K CL Z d v :=
 cy.rec (motive_1 := fun d v _ => d.oW = true -> cy K CL Z d v) (motive_2 := fun d v _ => D.cI d = true -> aX K CL Z d v) (motive_3 := fun d v _ => True) (motive_4 := fun d v _ => True) (motive_5 := fun d v _ => True)
   (fun _ => .non) (fun b _ => .bl b) (fun b _ => .int b) (fun b _ => .str b) (fun _ k => by rw [D.oW] at k; cases k) (fun b _ => .val b) (fun h _ r k => .tup (N2 zh h) (r (by rw [D.oW] at k; exact k))) (fun _ _ _ k => by rw [D.oW] at k; cases k) (fun _ _ _ k => by rw [D.oW] at k; cases k) (fun _ _ _ k => by rw [D.oW] at k; cases k) (fun _ _ _ k => by rw [D.oW] at k; cases k) y0.au (fun _ _ h r k => by rw [D.cI, am1] at k; exact .cons (h k.1) (r k.2)) trivial y0.u trivial y0.u trivial y0.u h k
theorem aX.oW (zh : ∀ a o, H a = some o -> jY o = true -> Z a = some o) {d : List D} {v : List V} (k : D.cI d = true) (h : aX K CL H d v) : aX K CL Z d v :=
 aX.rec (motive_1 := fun d v _ => d.oW = true -> cy K CL Z d v) (motive_2 := fun d v _ => D.cI d = true -> aX K CL Z d v) (motive_3 := fun d v _ => True) (motive_4 := fun d v _ => True) (motive_5 := fun d v _ => True)
   (fun _ => .non) (fun b _ => .bl b) (fun b _ => .int b) (fun b _ => .str b) (fun _ k => by rw [D.oW] at k; cases k) (fun b _ => .val b) (fun h _ r k => .tup (N2 zh h) (r (by rw [D.oW] at k; exact k))) (fun _ _ _ k => by rw [D.oW] at k; cases k) (fun _ _ _ k => by rw [D.oW] at k; cases k) (fun _ _ _ k => by rw [D.oW] at k; cases k) (fun _ _ _ k => by rw [D.oW] at k; cases k) y0.au (fun _ _ h r k => by rw [D.cI, am1] at k; exact .cons (h k.1) (r k.2)) trivial y0.u trivial y0.u trivial y0.u h k
theorem cH.clean {Z1 : Hp} (zi : ∀ {d : D} {v : V}, d.oW = true -> cy K CL Z1 d v -> cy K CL Z d v) {bH : List (Key × D)} {gs : List (Key × V)} (k : D.cI (bH.map (·.2)) = true) (h : cH K CL Z1 bH gs) : cH K CL Z bH gs :=
 cH.ind (P := fun bH gs => D.cI (bH.map (·.2)) = true -> cH K CL Z bH gs) y0.au (fun h _ i k => by rw [amD, D.cI, am1] at k; exact .cons (zi k.1 h) (i k.2)) h k
theorem dR.clean {Z1 : Hp} (zh : ∀ a xs, Z1 a = some (.tup xs) -> Z a = some (.tup xs)) (zi : ∀ {d : D} {v : V}, d.oW = true -> cy K CL Z1 d v -> cy K CL Z d v) {t : T} {v : V} {fp : List Addr} (k : t.clean = true) (h : dR K CL H Z1 t v fp) : dR K CL H Z t v fp :=
 dR.rec (motive_1 := fun t v fp _ => t.clean = true -> dR K CL H Z t v fp) (motive_2 := fun t v fp _ => T.ju t = true -> bI K CL H Z t v fp) (motive_3 := fun t v fp _ => T.cz t = true -> eZ K CL H Z t v fp) (motive_4 := fun t v fp _ => T.Ew t = true -> ye K CL H Z t v fp)
   (fun h k => .sh (zi y0.ai h)) (fun h _ r k => .tup (zh _ _ h) (r y0.ai)) (fun h _ r k => .lst h (r y0.ai)) (fun h _ r k => .ins h (r y0.ai)) (fun h f k => .kZ h (cH.clean zi y0.ai f)) (fun h _ r k => .dct h (r y0.ai)) (fun _ r k => .pin (r y0.ai)) y0.au (fun _ _ h r k => by rw [T.ju, am1] at k; exact .cons (h k.1) (r k.2)) y0.au (fun _ _ h r k => by rw [T.cz, am1] at k; exact .cons (h k.1) (r k.2)) y0.au (fun _ _ h r k => by rw [T.Ew, am1] at k; exact .cons (h k.1) (r k.2)) h k
theorem cj.back {W W' : Hp} {fp : List Addr} (S : cj K CL b H Z δ σ ts vs) (hh : aQ H H') (zw : aQ Z W) (ww : aQ W W') (wh : aQ W' H') (new : ∀ a o, W' a = some o -> W a = none -> H a = none)
   (tp : ∀ a o, H' a = some o -> jY o = true -> W' a = some o) (r : dR K CL H' W' t v fp) (nd : fp.Nodup) (own : ∀ a ∈ fp, W' a = none /\ H a = none) (c : W = Z \/ t.clean = true) :
   ∃ Z', aQ Z Z' /\ cj K CL b H' Z' δ σ (t :: ts) (v :: vs) := by
 classical
 let Z' : Hp := fun a => if (H a).isSome = true then Z a else W' a
 have zs : ∀ {a : Addr} {o : HO}, H a = some o -> Z' a = Z a := fun {a o} e => by
   show (if (H a).isSome = true then Z a else W' a) = Z a
   rw [aml (by rw [e]; rfl)]
 have zn : ∀ {a : Addr}, H a = none -> Z' a = W' a := fun {a} e => by
   show (if (H a).isSome = true then Z a else W' a) = W' a
   rw [amg (by rw [e]; simp)]
 have sz : aQ Z Z' := fun a o q => by rw [zs (S.zh a o q)]; exact q
 have zw' : ∀ a o, Z' a = some o -> W' a = some o := fun a o q => by
   cases e : H a with
   | none => rw [zn e] at q; exact q
   | some u => rw [zs e] at q; exact ww a o (zw a o q)
 have ztp : ∀ a o, H' a = some o -> jY o = true -> Z' a = some o := fun a o q i => by
   cases e : H a with
   | none => rw [zn e]; exact tp a o q i
   | some u =>
     rw [zs e]
     have := hh a u e
     rw [q] at this; cases this
     exact S.tp a o e i
 have r' : dR K CL H' Z' t v fp := by
   rcases c with c | c
   . have : Z' = W' := by
       funext a
       cases e : H a with
       | none => exact zn e
       | some u =>
         rw [zs e]
         cases q : W' a with
         | none =>
           cases q2 : Z a with
           | none => rfl
           | some o => rw [ww a o (zw a o q2)] at q; cases q
         | some o =>
           cases q2 : W a with
           | none => rw [new a o q q2] at e; cases e
           | some o2 =>
             have := ww a o2 q2
             rw [q] at this; cases this
             rw [← c]; exact q2
     rw [this]; exact r
   . refine dR.clean (fun a xs h => ?_) (fun {d v} k h => ?_) c r
     . exact ztp a _ (wh a _ h) rfl
     . exact cy.oW (H := H') ztp k (h.mono wh)
 obtain ⟨f0, g0, e0, r0, nd0, k0⟩ := S.rep
 have old : ∀ a ∈ f0 ++ g0, ∃ o, H a = some o := fun a ha => (amx.mp ha).elim (e0.there a) (r0.there a)
 have keep : ∀ a ∈ f0 ++ g0, H' a = H a := fun a ha => by
   obtain ⟨o, e⟩ := old a ha
   rw [e]; exact hh a o e
 refine ⟨Z', sz, ⟨⟨f0, fp ++ g0, e0.mono sz (fun a ha => keep a (amw _ ha)), .cons r' (r0.mono sz fun a ha => keep a (ami _ ha)), ?_, fun a ha => ?_⟩, S.bh.trans hh, S.zz.trans sz, fun a o q => wh a o (zw' a o q), fun a o q z => ?_, ztp, S.tab⟩⟩
 . have hp : (f0 ++ (fp ++ g0)).Perm (fp ++ (f0 ++ g0)) := by
     rw [← amr, ← amr]
     exact am6.append_right g0
   refine hp.nodup_iff.mpr (anh.mpr ⟨nd, nd0, fun a ha c hc e => ?_⟩)
   subst e
   obtain ⟨o, q⟩ := old a hc
   rw [(own a ha).2] at q; cases q
 . have : a ∈ f0 ++ g0 \/ a ∈ fp := by
     simp only [amx] at ha ⊢
     rcases ha with h | h | h
     . exact .inl (.inl h)
     . exact .inr h
     . exact .inl (.inr h)
   rcases this with h | h
   . obtain ⟨o, q⟩ := old a h
     exact ⟨by rw [zs q]; exact (k0 a h).1, (k0 a h).2⟩
   . exact ⟨by rw [zn (own a h).2]; exact (own a h).1, S.bh.free (own a h).2⟩
 . cases e : H a with
   | none => exact S.bh.free e
   | some u => rw [zs e] at q; exact S.new a o q z
end
section
variable {X : Cx} {CL : Str -> Addr} {b : Bx} {δ δ1 δ2 δ3 : List (Option T)} {e e1 e2 : Expr} {t t1 t2 : T} {d d1 d2 : D} {pos : Pos}
theorem SX (h : cW X CL b e δ t δ1) : d9 X CL b e δ t.eF δ1 := fun H Z σ ts vs Q S k => h H Z σ ts vs Q S fun v H' Z' z s S' => k v H' Z' z s S'.pop S'.view
theorem ah (h : cW X CL b e δ (.sh d) δ1) : d9 X CL b e δ d δ1 := by have := SX h; rwa [T.eF] at this
theorem gS (h : d9 X CL b e δ d δ1) (i : d.oW = true) : cW X CL b e δ (.sh d) δ1 := fun H Z σ ts vs Q S k => h H Z σ ts vs Q S fun v H' Z' z s S' r => k v H' Z' z s (S'.push (cy.oW S'.tp i r))
theorem KS (h : cW X CL b e δ t δ1) : cW X CL b e δ (.sh t.eF) δ1 := fun H Z σ ts vs Q S k => h H Z σ ts vs Q S fun v H' Z' z s S' => by
 obtain ⟨Z2, z2, S2⟩ := S'.KR
 exact k v H' Z2 (z.trans z2) s S2
theorem av {i : Int} {j : Nat} : cW X CL b (.Constant (.int i) j pos) δ (.sh (.int i)) δ := fun H Z σ ts vs Q S k => dG aaX (k _ _ Z y0.B y0.B (S.push (.int i)))
theorem qy {i : Bool} {j : Nat} : cW X CL b (.Constant (.bool i) j pos) δ (.sh (.bl i)) δ := fun H Z σ ts vs Q S k => dG aeK (k _ _ Z y0.B y0.B (S.push (.bl i)))
theorem abN {j : Nat} : cW X CL b (.Constant .none j pos) δ (.sh .non) δ := fun H Z σ ts vs Q S k => dG aaY (k _ _ Z y0.B y0.B (S.push .non))
theorem bS {x : Str} {j : Nat} : cW X CL b (.Constant (.str x) j pos) δ (.sh (.str x)) δ := fun H Z σ ts vs Q S k => dG aaZ (k _ _ Z y0.B y0.B (S.push (.str x)))
section
variable (i : Nat) {x : Str} (hi : X.N[i]? = some x := by rfl) (hv : Vis X.env.scope x := by first | exact Or.inl rfl | exact Or.inr (Or.inl rfl) | exact Or.inr (Or.inr rfl)) (hd : y0.i = false := by decide) (ko : y0.q = false := by decide)
include hi hv hd ko
theorem abO (h : δ[i]? = some (some (.sh d)) := by rfl) : cW X CL b y0.am δ (.sh d) δ := fun H Z σ ts vs Q S k => by
 obtain ⟨v, e, r⟩ := S.aas h
 exact dG (m7 hi hv hd ko) ⟨v, e, k v H Z y0.B y0.B (S.push r)⟩
theorem W4 (h : δ[i]? = some (some t) := by rfl) : cW X CL b y0.am δ (.sh t.eF) (δ.set i (some (.sh t.eF))) := fun H Z σ ts vs Q S k => by
 obtain ⟨v, Z', e, z, S'⟩ := S.N1 h
 exact dG (m7 hi hv hd ko) ⟨v, e, k v H Z' z y0.B S'⟩
theorem W5 (h : δ[i]? = some (some t) := by rfl) : cW X CL b y0.am δ t (δ.set i none) := fun H Z σ ts vs Q S k => by
 obtain ⟨v, e, S'⟩ := S.move h
 exact dG (m7 hi hv hd ko) ⟨v, e, k v H Z y0.B y0.B S'⟩
theorem abP (h : δ[i]? = some (some t) := by rfl) : d9 X CL b y0.am δ t.eF δ := fun H Z σ ts vs Q S k => by
 obtain ⟨v, e, r⟩ := S.look h
 exact dG (m7 hi hv hd ko) ⟨v, e, k v H Z y0.B y0.B S r⟩
end
def scV : D -> Option V
 | .non => some .non
 | .bl b => some (.bl b)
 | .int i => some (.int i)
 | .str x => some (.str x)
 | _ => none
theorem cy.sc {K : PySem.W.Frag} {Z : Hp} {d : D} {v w : V} (r : cy K CL Z d v) (h : scV d = some w) : v = w := by
 cases r <;> first | (exact amK h) | (cases h)
theorem W6 {K : PySem.W.Frag} {Z : Hp} {d : D} {w : V} (h : scV d = some w) : cy K CL Z d w := by
 cases d <;> first | (cases h; constructor) | (cases h)
theorem tU {op : Operator} {r : R2} {w1 w2 w : V} (ho : yJ X (binaryOp op) r) (h1 : d9 X CL b e1 δ d1 δ1) (h2 : d9 X CL b e2 δ1 d2 δ2) (s1 : scV d1 = some w1) (s2 : scV d2 = some w2) (s3 : scV d = some w)
   (hr : ∀ (H : Hp) (Q : VK), Q w H -> r w1 w2 H Q) : cW X CL b (.BinOp e1 op e2 pos) δ (.sh d) δ2 := fun H Z σ ts vs Q S k => by
 refine dG (zJ ho eS eS) (h1 H Z σ ts vs _ S fun v1 H1 Z1 z1 k1 S1 r1 => h2 H1 Z1 σ ts vs _ S1 fun v2 H2 Z2 z2 k2 S2 r2 => ?_)
 rw [r1.sc s1, r2.sc s2]
 exact hr H2 Q (k w H2 Z2 y0.F y0.S (S2.push (W6 s3)))
theorem b8 {i j : Int} (h1 : d9 X CL b e1 δ (.int i) δ1) (h2 : d9 X CL b e2 δ1 (.int j) δ2) : cW X CL b (.BinOp e1 .Add e2 pos) δ (.sh (.int (i + j))) δ2 := tU abl h1 h2 rfl rfl rfl fun _ _ q => ⟨i, j, rfl, rfl, q⟩
theorem m8 {i j : Int} (h1 : d9 X CL b e1 δ (.int i) δ1) (h2 : d9 X CL b e2 δ1 (.int j) δ2) : cW X CL b (.BinOp e1 .Sub e2 pos) δ (.sh (.int (i - j))) δ2 := tU abm h1 h2 rfl rfl rfl fun _ _ q => ⟨i, j, rfl, rfl, q⟩
theorem zO {i j : Int} (h1 : d9 X CL b e1 δ (.int i) δ1) (h2 : d9 X CL b e2 δ1 (.int j) δ2) (c : WC i j) : cW X CL b (.BinOp e1 .Mult e2 pos) δ (.sh (.int (i * j))) δ2 := tU abn h1 h2 rfl rfl rfl fun _ _ q => ⟨i, j, rfl, rfl, c, q⟩
theorem bO {i j : Int} (h1 : d9 X CL b e1 δ (.int i) δ1) (h2 : d9 X CL b e2 δ1 (.int j) δ2) (c : 0 < j) : cW X CL b (.BinOp e1 .Mod e2 pos) δ (.sh (.int (i % j))) δ2 := tU abo h1 h2 rfl rfl rfl fun _ _ q => ⟨i, j, rfl, rfl, c, q⟩
theorem cY {i j : Int} (h1 : d9 X CL b e1 δ (.int i) δ1) (h2 : d9 X CL b e2 δ1 (.int j) δ2) (c : ae0 i j) : cW X CL b (.BinOp e1 .FloorDiv e2 pos) δ (.sh (.int (i / j))) δ2 := tU WD h1 h2 rfl rfl rfl fun _ _ q => ⟨i, j, rfl, rfl, c, q⟩
theorem KW {i j : Int} (h1 : d9 X CL b e1 δ (.int i) δ1) (h2 : d9 X CL b e2 δ1 (.int j) δ2) (c : ae1 i j) : cW X CL b (.BinOp e1 .Pow e2 pos) δ (.sh (.int (i ^ j.toNat))) δ2 := tU abp h1 h2 rfl rfl rfl fun _ _ q => ⟨i, j, rfl, rfl, c, q⟩
theorem qz {x y : Str} (h1 : d9 X CL b e1 δ (.str x) δ1) (h2 : d9 X CL b e2 δ1 (.str y) δ2) (c : x.length + y.length <= sizeLine) : cW X CL b (.BinOp e1 .Add e2 pos) δ (.sh (.str (x ++ y))) δ2 := tU Kx h1 h2 rfl rfl rfl fun _ _ q => ⟨x, y, rfl, rfl, c, q⟩
theorem Dy {op : CmpOp} {r : R2} {p : Bool} {w1 w2 : V} (ho : yJ X (compareOp op) r) (h1 : d9 X CL b e1 δ d1 δ1) (h2 : d9 X CL b e2 δ1 d2 δ2) (s1 : scV d1 = some w1) (s2 : scV d2 = some w2)
   (hr : ∀ (H : Hp) (Q : VK), Q (.bl p) H -> r w1 w2 H Q) (hm : behindInMarks op e2 = false) : yf X CL b (.Compare e1 [op] [e2] pos) δ p δ2 /\ cW X CL b (.Compare e1 [op] [e2] pos) δ (.sh (.bl p)) δ2 := by
 constructor
 . intro H Z σ ts vs Q S k
   refine HG (yR ho eS eS hm) (h1 H Z σ ts vs _ S fun v1 H1 Z1 z1 k1 S1 r1 => h2 H1 Z1 σ ts vs _ S1 fun v2 H2 Z2 z2 k2 S2 r2 => ?_)
   rw [r1.sc s1, r2.sc s2]
   exact hr H2 _ ⟨p, rfl, k H2 Z2 y0.F y0.S S2⟩
 . intro H Z σ ts vs Q S k
   refine dG (yQ ho eS eS hm) (h1 H Z σ ts vs _ S fun v1 H1 Z1 z1 k1 S1 r1 => h2 H1 Z1 σ ts vs _ S1 fun v2 H2 Z2 z2 k2 S2 r2 => ?_)
   rw [r1.sc s1, r2.sc s2]
   exact hr H2 _ (k _ H2 Z2 y0.F y0.S (S2.push (.bl p)))
theorem fj {i j : Int} (h1 : d9 X CL b e1 δ (.int i) δ1) (h2 : d9 X CL b e2 δ1 (.int j) δ2) : yf X CL b (.Compare e1 [.Eq] [e2] pos) δ (decide (i = j)) δ2 /\ cW X CL b (.Compare e1 [.Eq] [e2] pos) δ (.sh (.bl (decide (i = j)))) δ2 :=
 Dy aam h1 h2 rfl rfl y0.bf (wC _)
theorem Ex {i j : Int} (h1 : d9 X CL b e1 δ (.int i) δ1) (h2 : d9 X CL b e2 δ1 (.int j) δ2) : yf X CL b (.Compare e1 [.NotEq] [e2] pos) δ (!decide (i = j)) δ2 /\ cW X CL b (.Compare e1 [.NotEq] [e2] pos) δ (.sh (.bl (!decide (i = j)))) δ2 :=
 Dy aan h1 h2 rfl rfl y0.bf (wC _)
theorem iC {i j : Str} (h1 : d9 X CL b e1 δ (.str i) δ1) (h2 : d9 X CL b e2 δ1 (.str j) δ2) : yf X CL b (.Compare e1 [.Eq] [e2] pos) δ (decide (i = j)) δ2 /\ cW X CL b (.Compare e1 [.Eq] [e2] pos) δ (.sh (.bl (decide (i = j)))) δ2 :=
 Dy aam h1 h2 rfl rfl (fun _ _ q => ⟨rfl, by rw [show decide (V.str i = V.str j) = decide (i = j) by simp]; exact q⟩) (wC _)
theorem N3 {i j : Int} (h1 : d9 X CL b e1 δ (.int i) δ1) (h2 : d9 X CL b e2 δ1 (.int j) δ2) : yf X CL b (.Compare e1 [.Lt] [e2] pos) δ (decide (i < j)) δ2 /\ cW X CL b (.Compare e1 [.Lt] [e2] pos) δ (.sh (.bl (decide (i < j)))) δ2 := Dy ae3 h1 h2 rfl rfl (fun _ _ q => ⟨i, j, rfl, rfl, q⟩) (wC _)
theorem HK {i j : Int} (h1 : d9 X CL b e1 δ (.int i) δ1) (h2 : d9 X CL b e2 δ1 (.int j) δ2) : yf X CL b (.Compare e1 [.Gt] [e2] pos) δ (decide (j < i)) δ2 /\ cW X CL b (.Compare e1 [.Gt] [e2] pos) δ (.sh (.bl (decide (j < i)))) δ2 := Dy ae4 h1 h2 rfl rfl (fun _ _ q => ⟨i, j, rfl, rfl, q⟩) (wC _)
end
section
variable {K : PySem.W.Frag} {CL : Str -> Addr} {H Z : Hp}
theorem bI.split : ∀ {as bs : List T} {us ws : List V} {gp : List Addr}, as.length = us.length -> bI K CL H Z (as ++ bs) (us ++ ws) gp -> ∃ g1 g2, gp = g1 ++ g2 /\ bI K CL H Z as us g1 /\ bI K CL H Z bs ws g2
 | [], _, [], _, gp, _, r => ⟨[], gp, rfl, .nil, r⟩
 | [], _, _ :: _, _, _, h, _ => by simp at h
 | _ :: _, _, [], _, _, h, _ => by simp at h
 | a :: as, bs, u :: us, ws, gp, h, r => by
   cases r with
   | @cons _ _ _ _ f1 f2 r1 r2 =>
     obtain ⟨g1, g2, e, h1, h2⟩ := bI.split (as := as) (us := us) (by simpa using h) r2
     exact ⟨f1 ++ g1, g2, by rw [e, amr], .cons r1 h1, h2⟩
theorem bI.app {as bs : List T} {us ws : List V} {g1 g2 : List Addr} (h : bI K CL H Z as us g1) (q : bI K CL H Z bs ws g2) : bI K CL H Z (as ++ bs) (us ++ ws) (g1 ++ g2) :=
 bI.ind (P := fun as us g1 => bI K CL H Z (as ++ bs) (us ++ ws) (g1 ++ g2)) q (fun r _ i => by rw [amr]; exact .cons r i) h
theorem bI.rev : ∀ {as : List T} {us : List V} {g : List Addr}, bI K CL H Z as.reverse us.reverse g -> ∃ g', bI K CL H Z as us g' /\ g'.Perm g
 | [], [], g, r => by
   have r' : bI K CL H Z [] [] g := r
   cases r'
   exact ⟨[], .nil, aot _⟩
 | [], u :: us, g, r => by have := r.length; simp at this
 | a :: as, [], g, r => by have := r.length; simp at this
 | a :: as, u :: us, g, r => by
   rw [an4, an4] at r
   have hl := r.length
   obtain ⟨g1, g2, e, r1, r2⟩ := bI.split (by simp at hl ⊢; omega) r
   subst e
   obtain ⟨g', r', p⟩ := bI.rev r1
   cases r2 with
   | @cons _ _ _ _ f1 f2 q1 q2 =>
     cases q2
     refine ⟨f1 ++ g', .cons q1 r', ?_⟩
     rw [amH]
     exact (am2 f1 p).trans am6
theorem bI.toF : ∀ {ds : List D} {us : List V} {g : List Addr}, bI K CL H Z (ds.map T.sh) us g -> aX K CL Z ds us /\ g = []
 | [], _, _, r => by
   have r' : bI K CL H Z [] _ _ := r
   cases r'
   exact ⟨.nil, rfl⟩
 | d :: ds, _, _, r => by
   have r' : bI K CL H Z (T.sh d :: ds.map T.sh) _ _ := r
   cases r' with
   | cons r1 r2 =>
     cases r1 with
     | sh h =>
       obtain ⟨q, e⟩ := bI.toF r2
       exact ⟨.cons h q, by rw [e]; rfl⟩
theorem kL : ∀ (ds : List D), T.dQ (ds.map T.sh) = ds
 | [] => rfl
 | d :: ds => by rw [amD, T.dQ, kL ds, T.eF]
end
section
variable {K : PySem.W.Frag} {CL : Str -> Addr} {b : Bx} {H H' Z Z' : Hp} {δ δ' : List (Option T)} {σ σ' : L2.St} {ts tl : List T} {vs us : List V} {t : T} {v : V}
theorem cj.KY {p : Addr} (S : cj K CL b H Z δ σ (tl.reverse ++ ts) (us.reverse ++ vs)) (hl : us.length = tl.length) (hp : H p = none) :
   aQ Z (upd Z p (.tup us)) /\ aQ H (upd H p (.tup us)) /\ cj K CL b (upd H p (.tup us)) (upd Z p (.tup us)) δ σ (.tup tl :: ts) (.ref p :: vs) := by
 obtain ⟨fp, gp, e, r, nd, k⟩ := S.rep
 obtain ⟨g1, g2, eg, r1, r2⟩ := bI.split (by simp [hl]) r
 subst eg
 obtain ⟨g', r', pm⟩ := r1.rev
 have zp : Z p = none := S.zh.free hp
 have sz : aQ Z (upd Z p (.tup us)) := aQ.upd zp
 have sh : aQ H (upd H p (.tup us)) := aQ.upd hp
 have keep : ∀ a ∈ fp ++ (g1 ++ g2), a ≠ p := fun a ha => by
   have : ∃ o, H a = some o := by
     rcases amx.mp ha with h | h
     . exact e.there a h
     . exact r.there a h
   obtain ⟨o, q⟩ := this
   exact aZ q hp
 have pm2 : (fp ++ (g' ++ g2)).Perm (fp ++ (g1 ++ g2)) := (pm.append_right g2).append_left fp
 have kk : ∀ a ∈ fp ++ (g' ++ g2), a ≠ p := fun a ha => keep a (pm2.mem_iff.mp ha)
 refine ⟨sz, sh, ⟨⟨fp, g' ++ g2, e.mono sz y0.bh, .cons (.tup bw (r'.mono sz fun a ha => aO (kk a y0.bB))) (r2.mono sz fun a ha => aO (keep a y0.bB)), pm2.nodup_iff.mpr nd, fun a ha => ?_⟩, S.bh.trans sh, S.zz.trans sz, fun a o q => ?_, fun a o q z => ?_, fun a o q i => ?_, S.tab⟩⟩
 . exact ⟨by rw [aO (kk a ha)]; exact (k a (pm2.mem_iff.mp ha)).1, (k a (pm2.mem_iff.mp ha)).2⟩
 . by_cases ha : a = p
   . subst ha; rw [bw] at q ⊢; exact q
   . rw [aO ha] at q ⊢; exact S.zh a o q
 . by_cases ha : a = p
   . subst ha; exact S.bh.free hp
   . rw [aO ha] at q; exact S.new a o q z
 . by_cases ha : a = p
   . subst ha; rw [bw] at q ⊢; exact q
   . rw [aO ha] at q ⊢; exact S.tp a o q i
theorem cj.qA {p : Addr} {g0 : List Addr} (S : cj K CL b H Z δ σ (tl.reverse ++ ts) (us.reverse ++ vs)) (hl : us.length = tl.length) (hp : H p = none) :
   aQ H (upd H p (.lst us)) /\ cj K CL b (upd H p (.lst us)) Z δ σ (.lst tl :: ts) (.ref p :: vs) := by
 obtain ⟨fp, gp, e, r, nd, k⟩ := S.rep
 obtain ⟨g1, g2, eg, r1, r2⟩ := bI.split (by simp [hl]) r
 subst eg
 obtain ⟨g', r', pm⟩ := r1.rev
 have zp : Z p = none := S.zh.free hp
 have sh : aQ H (upd H p (.lst us)) := aQ.upd hp
 have keep : ∀ a ∈ fp ++ (g1 ++ g2), a ≠ p := fun a ha => by
   have : ∃ o, H a = some o := by
     rcases amx.mp ha with h | h
     . exact e.there a h
     . exact r.there a h
   obtain ⟨o, q⟩ := this
   exact aZ q hp
 have pm2 : (fp ++ (g' ++ g2)).Perm (fp ++ (g1 ++ g2)) := (pm.append_right g2).append_left fp
 have kk : ∀ a ∈ fp ++ (g' ++ g2), a ≠ p := fun a ha => keep a (pm2.mem_iff.mp ha)
 have pm3 : (fp ++ ((p :: g') ++ g2)).Perm (p :: (fp ++ (g' ++ g2))) := by
   rw [amL]; exact ant
 refine ⟨sh, ⟨⟨fp, (p :: g') ++ g2, e.mono y0.B y0.bh, .cons (.lst bw (r'.mono y0.B fun a ha => aO (kk a y0.bB))) (r2.mono y0.B fun a ha => aO (keep a y0.bB)), ?_, fun a ha => ?_⟩, S.bh.trans sh, S.zz, S.zh.trans sh, S.new, fun a o q i => ?_, S.tab⟩⟩
 . refine pm3.nodup_iff.mpr (ank.mpr ⟨fun h => kk p h rfl, pm2.nodup_iff.mpr nd⟩)
 . rcases amt.mp (pm3.mem_iff.mp ha) with h | h
   . subst h; exact ⟨zp, S.bh.free hp⟩
   . exact k a (pm2.mem_iff.mp h)
 . by_cases ha : a = p
   . subst ha; rw [bw] at q; cases q; cases i
   . rw [aO ha] at q; exact S.tp a o q i
end
section
variable {X : Cx} {CL : Str -> Addr} {b : Bx} {δ δ1 δ2 δ3 : List (Option T)} {e e1 e2 e3 : Expr} {es : List Expr} {t t1 t2 : T} {d d1 d2 : D} {tl : List T} {ds : List D} {p q : Bool} {pos : Pos}
theorem b9 : PN X CL b [] δ [] δ := fun H Z σ ts vs Q S k => PJ fC (k [] H Z rfl y0.B y0.B S)
theorem bu (h1 : cW X CL b e δ t δ1) (h2 : PN X CL b es δ1 tl δ2) (hs : starEach (e :: es) X.env = (false, eval e X.env) :: starEach es X.env := by exact bR rfl) : PN X CL b y0.ag δ (t :: tl) δ2 := fun H Z σ ts vs Q S k =>
 PJ (dc eS PF hs) (h1 H Z σ ts vs _ S fun v H1 Z1 z1 k1 S1 => h2 H1 Z1 σ _ _ _ S1 fun us H2 Z2 hl z2 k2 S2 => k (v :: us) H2 Z2 (by simp [hl]) y0.F y0.S (by
   rw [an4, an4, amr, amr]
   exact S2))
theorem aV : RT X CL b [] δ [] δ := fun H Z σ ts vs Q S k => PJ fC (k [] H Z y0.B y0.B S .nil)
theorem aj (h1 : d9 X CL b e δ d δ1) (h2 : RT X CL b es δ1 ds δ2) (hs : starEach (e :: es) X.env = (false, eval e X.env) :: starEach es X.env := by exact bR rfl) : RT X CL b y0.ag δ (d :: ds) δ2 := fun H Z σ ts vs Q S k =>
 PJ (dc eS PF hs) (h1 H Z σ ts vs _ S fun v H1 Z1 z1 k1 S1 r1 => h2 H1 Z1 σ _ _ _ S1 fun us H2 Z2 z2 k2 S2 r2 => k (v :: us) H2 Z2 y0.F y0.S S2 (.cons (r1.mono k2) r2))
theorem wN {j : Nat} (h : PN X CL b es δ tl δ1) (hl : tl.length <= sizeLine) : cW X CL b (.Tuple es j pos) δ (.tup tl) δ1 := fun H Z σ ts vs Q S k =>
 dG (abu PF) (h H Z σ ts vs _ S fun us H1 Z1 hu z1 k1 S1 => ⟨by rw [hu]; exact hl, fun p hp => by
   obtain ⟨a, c, S2⟩ := S1.KY hu hp
   exact k _ _ _ (z1.trans a) (k1.trans c) S2⟩)
theorem bT {j : Nat} (h : PN X CL b es δ (ds.map T.sh) δ1) (hl : ds.length <= sizeLine) : cW X CL b (.Tuple es j pos) δ (.sh (.tup ds)) δ1 := by
 have := KS (wN (pos := pos) (j := j) h (by simpa using hl))
 rwa [T.eF, kL] at this
theorem cL (h : PN X CL b es δ tl δ1) (hl : tl.length <= sizeLine) : cW X CL b (.List es pos) δ (.lst tl) δ1 := fun H Z σ ts vs Q S k =>
 dG (abv PF) (h H Z σ ts vs _ S fun us H1 Z1 hu z1 k1 S1 => ⟨by rw [hu]; exact hl, fun p hp => by
   obtain ⟨c, S2⟩ := S1.qA (g0 := []) hu hp
   exact k _ _ _ z1 (k1.trans c) S2⟩)
theorem iU (h : cW X CL b e δ (.sh (.bl p)) δ1) (he : ∀ whole, isTrue e X.env whole = (do let v ← whole; standAt e.pos; holding [v] (truthy v)) := by intro _; rfl) : yf X CL b e δ p δ1 := fun H Z σ ts vs Q S k =>
 HG (aa1 eS he) (h H Z σ ts vs _ S fun v H1 Z1 z1 k1 S1 => ⟨p, by have := S1.view; rw [T.eF] at this; exact this.sc rfl, k H1 Z1 z1 k1 S1.pop⟩)
theorem qB (h : yf X CL b e δ p δ1) : yf X CL b (.UnaryOp .Not e pos) δ (!p) δ1 := fun H Z σ ts vs Q S k => HG (aa4 ptS) (h H Z σ ts vs _ S fun H1 Z1 z1 k1 S1 => k H1 Z1 z1 k1 S1)
def abR (X : Cx) (e : Expr) : TT := fun σ H Q => ∀ (whole : Sem Value) (pins : List y0.p) (s : Shared), Inv X pins σ H s -> wpAny y0.d X.A (isTrue e X.env whole) (TP X pins σ Q) X.xe s
theorem pwS {e : Expr} : PW X e (abR X e) := fun whole pins s _ _ _ I h => h whole pins s I
def TWv (X : Cx) (CL : Str -> Addr) (b : Bx) (e : Expr) (δ : List (Option T)) (p : Bool) (δ' : List (Option T)) : Prop :=
 ∀ (H Z : Hp) (σ : L2.St) (ts : List T) (vs : List V) (Q : Bool -> Hp -> Prop), cj X.K CL b H Z δ σ ts vs -> (∀ H' Z', aQ Z Z' -> aQ H H' -> cj X.K CL b H' Z' δ' σ ts vs -> Q p H') -> abR X e σ H Q
theorem W7 {t : TT} (h : PW X e t) {σ : L2.St} {H : Hp} {Q : Bool -> Hp -> Prop} (q : t σ H Q) : abR X e σ H Q := fun whole pins s I => h whole pins s σ H Q I q
theorem k7 (h : TWv X CL b e δ p δ1) : yf X CL b e δ p δ1 := fun H Z σ ts vs Q S k pins s I => h H Z σ ts vs Q S k _ pins s I
theorem lX (h : yf X CL b e δ p δ1) : TWv X CL b (.BoolOp .And [e] pos) δ p δ1 := fun H Z σ ts vs Q S k => W7 (Wx ptS) (h H Z σ ts vs _ S k)
theorem m9 (h : yf X CL b e δ p δ1) : TWv X CL b (.BoolOp .Or [e] pos) δ p δ1 := fun H Z σ ts vs Q S k => W7 (aa2 ptS) (h H Z σ ts vs _ S k)
theorem iD (h : yf X CL b e δ p δ1) (h2 : p = true -> TWv X CL b (.BoolOp .And (e2 :: es) pos) δ1 q δ1) : TWv X CL b (.BoolOp .And (e :: e2 :: es) pos) δ (p && q) δ1 := fun H Z σ ts vs Q S k =>
 W7 (aa3 ptS pwS) (h H Z σ ts vs _ S fun H1 Z1 z1 k1 S1 => by
   cases p with
   | true => exact SG (h2 rfl H1 Z1 σ ts vs _ S1 fun H2 Z2 z2 k2 S2 => k H2 Z2 y0.F y0.S S2)
   | false => exact SD (k H1 Z1 z1 k1 S1))
theorem sY (h : yf X CL b e δ p δ1) (h2 : p = false -> TWv X CL b (.BoolOp .Or (e2 :: es) pos) δ1 q δ1) : TWv X CL b (.BoolOp .Or (e :: e2 :: es) pos) δ (p || q) δ1 := fun H Z σ ts vs Q S k =>
 W7 (aeL ptS pwS) (h H Z σ ts vs _ S fun H1 Z1 z1 k1 S1 => by
   cases p with
   | true => exact SG (k H1 Z1 z1 k1 S1)
   | false => exact SD (h2 rfl H1 Z1 σ ts vs _ S1 fun H2 Z2 z2 k2 S2 => k H2 Z2 y0.F y0.S S2))
theorem SY {op : BoolOp} (h : cW X CL b e δ t δ1) : cW X CL b (.BoolOp op [e] pos) δ t δ1 := fun H Z σ ts vs Q S k => dG (aa5 eS) (h H Z σ ts vs _ S k)
theorem KZ (h : cW X CL b e δ (.sh (.bl p)) δ1) (h2 : p = true -> cW X CL b (.BoolOp .And (e2 :: es) pos) δ1 (.sh (.bl q)) δ1) : cW X CL b (.BoolOp .And (e :: e2 :: es) pos) δ (.sh (.bl (p && q))) δ1 := fun H Z σ ts vs Q S k =>
 dG (aa6 eS eS) (h H Z σ ts vs _ S fun v H1 Z1 z1 k1 S1 => by
   have hv : v = .bl p := by have := S1.view; rw [T.eF] at this; exact this.sc rfl
   refine ⟨p, hv, ?_⟩
   cases p with
   | true => exact SG (h2 rfl H1 Z1 σ ts vs _ S1.pop fun v H2 Z2 z2 k2 S2 => k v H2 Z2 y0.F y0.S S2)
   | false => exact SD (k _ H1 Z1 z1 k1 (S1.pop.push (.bl false))))
theorem S6 (h : cW X CL b e δ (.sh (.bl p)) δ1) : cW X CL b (.UnaryOp .Not e pos) δ (.sh (.bl (!p))) δ1 := fun H Z σ ts vs Q S k =>
 dG (L2.aa7 eS) (h H Z σ ts vs _ S fun v H1 Z1 z1 k1 S1 => ⟨p, by have := S1.view; rw [T.eF] at this; exact this.sc rfl, k _ H1 Z1 z1 k1 (S1.pop.push (.bl (!p)))⟩)
theorem yU {K : PySem.W.Frag} {Z : Hp} {vs : List V} {k : Int} (r : aX K CL Z ds vs) (h : uN ds k = some d) : ∃ v, uN vs k = some v /\ cy K CL Z d v := by
 unfold uN at h ⊢
 rw [← r.length]
 cases e : Sq ds.length k with
 | none => rw [e] at h; cases h
 | some j =>
   rw [e] at h
   exact r.get h
theorem bL {k : Int} (h1 : d9 X CL b e1 δ (.tup ds) δ1) (h2 : d9 X CL b e2 δ1 (.int k) δ2) (hk : uN ds k = some d) (hs : rP e2 := by exact fun _ _ => rfl) : d9 X CL b y0.bw δ d δ2 := fun H Z σ ts vs Q S kk =>
 dG (Hv Ss eS eS hs) (h1 H Z σ ts vs _ S fun v1 H1 Z1 z1 k1 S1 r1 => h2 H1 Z1 σ ts vs _ S1 fun v2 H2 Z2 z2 k2 S2 r2 => by
   have W8 := r1.mono k2
   cases W8 with
   | tup hq rr =>
     obtain ⟨v, hv, rv⟩ := yU rr hk
     exact ⟨_, _, k, v, rfl, r2.sc rfl, hq, hv, kk v H2 Z2 y0.F y0.S S2 rv⟩)
theorem cB {k : Int} (h1 : d9 X CL b e1 δ (.lst ds) δ1) (h2 : d9 X CL b e2 δ1 (.int k) δ2) (hk : uN ds k = some d) (hs : rP e2 := by exact fun _ _ => rfl) : d9 X CL b y0.bw δ d δ2 := fun H Z σ ts vs Q S kk =>
 dG (Hv NT eS eS hs) (h1 H Z σ ts vs _ S fun v1 H1 Z1 z1 k1 S1 r1 => h2 H1 Z1 σ ts vs _ S1 fun v2 H2 Z2 z2 k2 S2 r2 => by
   have W8 := r1.mono k2
   cases W8 with
   | lst hq rr =>
     obtain ⟨v, hv, rv⟩ := yU rr hk
     exact ⟨_, _, k, v, rfl, r2.sc rfl, hq, hv, kk v H2 Z2 y0.F y0.S S2 rv⟩)
theorem S7 {k : Int} {x : Str} {c : Nat} (h1 : d9 X CL b e1 δ (.str x) δ1) (h2 : d9 X CL b e2 δ1 (.int k) δ2) (hl : x.length <= sizeLine) (hk : uN x.cps.toList k = some c) (hs : rP e2 := by exact fun _ _ => rfl) : cW X CL b y0.bw δ (.sh (.str ⟨#[c]⟩)) δ2 := fun H Z σ ts vs Q S kk =>
 dG (Hv abz eS eS hs) (h1 H Z σ ts vs _ S fun v1 H1 Z1 z1 k1 S1 r1 => h2 H1 Z1 σ ts vs _ S1 fun v2 H2 Z2 z2 k2 S2 r2 =>
   ⟨x, k, c, r1.sc rfl, r2.sc rfl, hl, hk, kk _ H2 Z2 y0.F y0.S (S2.push (.str _))⟩)
theorem cZ {k : Int} (h1 : cW X CL b e1 δ (.sh (.tup ds)) δ1) (h2 : d9 X CL b e2 δ1 (.int k) δ2) (hk : uN ds k = some d) (hs : rP e2 := by exact fun _ _ => rfl) : cW X CL b y0.bw δ (.sh d) δ2 := fun H Z σ ts vs Q S kk =>
 dG (Hv Ss eS eS hs) (h1 H Z σ ts vs _ S fun v1 H1 Z1 z1 k1 S1 => h2 H1 Z1 σ _ _ _ S1 fun v2 H2 Z2 z2 k2 S2 r2 => by
   obtain ⟨fp, gp, _, r, _, _⟩ := S2.rep
   cases r with
   | cons r _ =>
     cases r with
     | sh r =>
       cases r with
       | tup hq rr =>
         obtain ⟨v, hv, rv⟩ := yU rr hk
         exact ⟨_, _, k, v, rfl, r2.sc rfl, aQ.HD S2.zh hq, hv, kk v H2 Z2 y0.F y0.S (S2.pop.push rv)⟩)
theorem K0 {k : Int} (h1 : cW X CL b e1 δ (.sh (.lst ds)) δ1) (h2 : d9 X CL b e2 δ1 (.int k) δ2) (hk : uN ds k = some d) (hs : rP e2 := by exact fun _ _ => rfl) : cW X CL b y0.bw δ (.sh d) δ2 := fun H Z σ ts vs Q S kk =>
 dG (Hv NT eS eS hs) (h1 H Z σ ts vs _ S fun v1 H1 Z1 z1 k1 S1 => h2 H1 Z1 σ _ _ _ S1 fun v2 H2 Z2 z2 k2 S2 r2 => by
   obtain ⟨fp, gp, _, r, _, _⟩ := S2.rep
   cases r with
   | cons r _ =>
     cases r with
     | sh r =>
       cases r with
       | lst hq rr =>
         obtain ⟨v, hv, rv⟩ := yU rr hk
         exact ⟨_, _, k, v, rfl, r2.sc rfl, S2.zh.seq hq, hv, kk v H2 Z2 y0.F y0.S (S2.pop.push rv)⟩)
end
section
variable {K : PySem.W.Frag} {CL : Str -> Addr} {b : Bx} {H H' Z Z' : Hp} {δ δ' : List (Option T)} {σ σ' : L2.St} {ts tl : List T} {vs us : List V} {t : T} {v : V}
theorem cj.sZ : ∀ {ds : List D} {us : List V} {ts : List T} {vs : List V}, aX K CL Z ds us -> cj K CL b H Z δ σ ts vs -> cj K CL b H Z δ σ ((ds.map T.sh).reverse ++ ts) (us.reverse ++ vs)
 | _, _, _, _, .nil, S => S
 | _, _, ts, vs, .cons (d := d) (v := v) (ds := ds) (vs := us) r t, S => by
   rw [amD, an4, an4, amr, amr]
   exact cj.sZ t (S.push r)
theorem cj.drops (S : cj K CL b H Z δ σ (tl ++ ts) (us ++ vs)) (hl : us.length = tl.length) : cj K CL b H Z δ σ ts vs := by
 induction tl generalizing us with
 | nil =>
   cases us with
   | nil => exact S
   | cons _ _ => simp at hl
 | cons t tl ih =>
   cases us with
   | nil => simp at hl
   | cons u us => exact ih S.pop (by simpa using hl)
theorem cj.W9 {ds : List D} (S : cj K CL b H Z δ σ ((ds.map T.sh).reverse ++ ts) (us.reverse ++ vs)) (hl : us.length = ds.length) : aX K CL Z ds us := by
 obtain ⟨fp, gp, e, r, nd, k⟩ := S.rep
 obtain ⟨g1, g2, eg, r1, r2⟩ := bI.split (by simp [hl]) r
 obtain ⟨g', r', pm⟩ := r1.rev
 exact r'.toF.1
end
section
variable {X : Cx} {CL : Str -> Addr} {b : Bx} {δ δ1 δ2 δ3 : List (Option T)} {e e1 e2 e3 : Expr} {es : List Expr} {t t1 t2 : T} {d d1 d2 : D} {tl : List T} {ds : List D} {p q : Bool} {pos pp : Pos}
theorem yV (hm : X.mg "len" = none) (h : d9 X CL b e δ (.lst ds) δ1) (hg : Gl X "len" := by rfl) (hs : starEach [e] X.env = (false, eval e X.env) :: starEach [] X.env := by exact bR rfl) (hpl : (backTo pos (starEach ([] : List Expr) X.env)).any (·.1) = false := by rfl) : cW X CL b (.Call (.Name "len" pp) [e] [] pos) δ (.sh (.int ds.length)) δ1 := fun H Z σ ts vs Q S k =>
 dG (kX uS hg hm PySem.boot_len y0.bb (he := hs)) (h H Z σ ts vs _ S fun v H1 Z1 z1 k1 S1 r => by
   cases r with
   | lst hq rr => exact ⟨_, _, rfl, .inl hq, by rw [← rr.length]; exact k _ H1 Z1 z1 k1 (S1.push (.int _))⟩)
theorem lY (hm : X.mg "len" = none) (h : d9 X CL b e δ (.tup ds) δ1) (hg : Gl X "len" := by rfl) (hs : starEach [e] X.env = (false, eval e X.env) :: starEach [] X.env := by exact bR rfl) : cW X CL b (.Call (.Name "len" pp) [e] [] pos) δ (.sh (.int ds.length)) δ1 := fun H Z σ ts vs Q S k =>
 dG (kX uS hg hm PySem.boot_len y0.bb (he := hs)) (h H Z σ ts vs _ S fun v H1 Z1 z1 k1 S1 r => by
   cases r with
   | tup hq rr => exact ⟨_, _, rfl, .inr hq, by rw [← rr.length]; exact k _ H1 Z1 z1 k1 (S1.push (.int _))⟩)
theorem dY (hm : X.mg "list" = none) (h : d9 X CL b e δ (.lst ds) δ1) (hi : D.cI ds = true) (hg : Gl X "list" := by rfl) (hv : bootBuiltins "list" = some (.type "list") := by rfl) (hs : starEach [e] X.env = (false, eval e X.env) :: starEach [] X.env := by exact bR rfl) : cW X CL b (.Call (.Name "list" pp) [e] [] pos) δ (.lst (ds.map T.sh)) δ1 := fun H Z σ ts vs Q S k =>
 dG (jt Er hg hm hv y0.bb (he := hs)) (h H Z σ ts vs _ S fun v H1 Z1 z1 k1 S1 r => by
   cases r with
   | lst hq rr =>
     refine ⟨_, _, rfl, .inl hq, fun l hl => ?_⟩
     obtain ⟨c, S2⟩ := (cj.sZ (aX.oW S1.tp hi rr) S1).qA (g0 := []) (by simp [rr.length]) hl
     exact k _ _ _ z1 (k1.trans c) S2)
def n8 (K : PySem.W.Frag) (CL : Str -> Addr) {A : Type} (n : Nat) (arg : A -> List D) (Pre : A -> Prop) (res : A -> T) : Sp := fun vs H Q _ =>
 ∃ (W : Hp) (a : A), aQ W H /\ (∀ c o, H c = some o -> jY o = true -> W c = some o) /\ aX K CL W (arg a) vs /\ (arg a).length = n /\ Pre a /\ k6 CL W ∧
   ∀ v H' W' fp, aQ H H' -> aQ W W' -> aQ W' H' -> (∀ c o, W' c = some o -> W c = none -> H c = none) -> (∀ c o, H' c = some o -> jY o = true -> W' c = some o) →
     dR K CL H' W' (res a) v fp -> fp.Nodup -> (∀ c ∈ fp, W' c = none /\ H c = none) -> Q v H'
section
variable {A : Type} {k n : Nat} {f : Addr} {fd : FuncData} {ps : List Str} {arg : A -> List D} {Pre : A -> Prop} {res : A -> T} {x : Str}
theorem Xa (a : A) (F : cV X.prog X.w X.K X.mg X.base iT k f fd ps (n8 X.K CL n arg Pre res)) (hr : gb k X.A) (hm : X.mg x = some (.ref f)) (hk : PySem.W.keepIn X.K (.ref f) = true) (hb : Binds X.K fd ps [])
   (h : RT X CL b y0.ag δ (arg a) δ1) (hn : (arg a).length = n) (hp : Pre a) (hc : (res a).clean = true) (hg : Gl X x)
   (wH : y0.i = false := by decide) (he : starEach y0.ag X.env = (false, eval e X.env) :: starEach es X.env := by exact bR rfl) (hpl : (backTo pos y0.M).any (·.1) = false := by rfl) :
   cW X CL b y0.bO δ (res a) δ1 := fun H Z σ ts vs Q S kk =>
 dG (NQ F hr hg hm hk hb .nil Hy PF wH he hpl) (h H Z σ ts vs _ S fun us H1 Z1 z1 k1 S1 r => by
   rw [amH]
   refine ⟨H1, a, .refl _, fun _ _ q _ => q, r, hn, hp, S1.KQ, fun v H' W' fp hh ww wh nw tp rt nd own => ?_⟩
   obtain ⟨Z', z', S'⟩ := S1.back hh S1.zh ww wh nw tp rt nd own (.inr hc)
   exact kk v H' Z' (z1.trans z') (k1.trans hh) S')
theorem S8 (a : A) (F : cV X.prog X.w X.K X.mg X.base iT k f fd ps (n8 X.K CL n arg Pre res)) (hr : gb k X.A) (hm : X.mg x = some (.ref f)) (hk : PySem.W.keepIn X.K (.ref f) = true) (hb : Binds X.K fd ps [])
   (h : PN X CL b y0.ag δ ((arg a).map T.sh) δ1) (hn : (arg a).length = n) (hp : Pre a) (hg : Gl X x)
   (wH : y0.i = false := by decide) (he : starEach y0.ag X.env = (false, eval e X.env) :: starEach es X.env := by exact bR rfl) (hpl : (backTo pos y0.M).any (·.1) = false := by rfl) :
   cW X CL b y0.bO δ (res a) δ1 := fun H Z σ ts vs Q S kk =>
 dG (NQ F hr hg hm hk hb .nil Hy PF wH he hpl) (h H Z σ ts vs _ S fun us H1 Z1 hl z1 k1 S1 => by
   rw [amH]
   have hl' : us.length = (arg a).length := by rw [hl, amh]
   have S2 := S1.drops (by simp [hl'])
   refine ⟨Z1, a, S1.zh, S1.tp, S1.W9 hl', hn, hp, S1.abK, fun v H' W' fp hh ww wh nw tp rt nd own => ?_⟩
   obtain ⟨Z', z', S'⟩ := S2.back hh y0.B ww wh nw tp rt nd own y0.az
   exact kk v H' Z' (z1.trans z') (k1.trans hh) S')
end
variable {D D' : dN} {st : Stmt} {fJ afn : List Stmt}
theorem Meets.to {K : PySem.W.Frag} {Z : Hp} {ts : List T} {vs : List V} {E : Ends} (M : Meets K CL b Z ts vs D E) (h1 : ∀ δ, D'.nx δ -> D.nx δ) (h2 : ∀ t δ, D'.rt t δ -> D.rt t δ) (h3 : ∀ δ, D'.bk δ -> D.bk δ) (h4 : ∀ δ, D'.ct δ -> D.ct δ) : Meets K CL b Z ts vs D' E :=
 ⟨fun _ _ _ _ s S k => M.nx _ _ _ _ s S (h1 _ k), fun _ _ _ _ _ _ s S k => M.rt _ _ _ _ _ _ s S (h2 _ _ k), fun _ _ _ _ s S k => M.bk _ _ _ _ s S (h3 _ k), fun _ _ _ _ s S k => M.ct _ _ _ _ s S (h4 _ k)⟩
theorem aK (h : D.nx δ) : fD X CL b [] δ D := fun H Z σ ts vs E S M => W2 Wy (M.nx δ σ H Z y0.B S h)
theorem dZ (h : W3 X CL b st δ { D with nx := fun δ1 => fD X CL b fJ δ1 D }) : fD X CL b (st :: fJ) δ D := fun H Z σ ts vs E S M =>
 W2 (zH psS RQ) (h H Z σ ts vs _ S ⟨fun δ' σ' H' Z' s S' k => k H' Z' σ' ts vs E S' (M.mono s), M.rt, M.bk, M.ct⟩)
theorem abT (h : cW X CL b e δ t δ1) (k : D.rt t δ1) : W3 X CL b (.Return (some e) pos) δ D := fun H Z σ ts vs E S M => wM (aa8 eS) (h H Z σ ts vs _ S fun v H1 Z1 z1 k1 S1 => M.rt t v H1 Z1 δ1 σ z1 S1 k)
theorem afo (h : yf X CL b e δ p δ1) (h1 : p = true -> fD X CL b fJ δ1 D) (h2 : p = false -> fD X CL b afn δ1 D) : W3 X CL b (.If e fJ afn pos) δ D := fun H Z σ ts vs E S M =>
 wM (aeQ ptS RQ RQ) (h H Z σ ts vs _ S fun H1 Z1 z1 k1 S1 => by
   cases p with
   | true => exact SG (h1 rfl H1 Z1 σ ts vs E S1 (M.mono z1))
   | false => exact SD (h2 rfl H1 Z1 σ ts vs E S1 (M.mono z1)))
theorem K1 (i : Nat) {x : Str} {pos' : Pos} (h : cW X CL b e δ t δ1) (k : D.nx (δ1.set i (some t))) (hl : i < δ1.length := by decide) (hN : X.N.Nodup := by assumption) (hi : X.N[i]? = some x := by rfl) (hx : Loc X.env.scope x := by first | exact .inl rfl | exact .inr rfl)
   (hs : swapsWith e y0.aw pos.line X.env = pure false := by rfl) (hf : X.fn x = true \/ X.env.scope.names.lookup x = some .local := by first | exact .inl rfl | exact .inr rfl | assumption) : W3 X CL b (.Assign [.Name x pos'] e pos) δ D := fun H Z σ ts vs E S M =>
 wM (R6 hN hi hx eS hs hf) (h H Z σ ts vs _ S fun v H1 Z1 z1 k1 S1 => M.nx _ _ H1 Z1 z1 (S1.set hl) k)
end
def entry (N : List Str) (ds : List D) : List (Option T) := ds.map (fun d => some (T.sh d)) ++ List.replicate (N.length - ds.length) none
theorem jv {K : PySem.W.Frag} {CL : Str -> Addr} {H Z : Hp} : ∀ {ds : List D} {vs : List V} (n : Nat), aX K CL Z ds vs -> gf K CL H Z (ds.map (fun d => some (T.sh d)) ++ List.replicate n none) (vs.map some ++ List.replicate n none) []
 | _, _, 0, .nil => .nil
 | _, _, n + 1, .nil => .skip (jv (ds := []) (vs := []) n .nil)
 | _, _, n, .cons r t => .cons (fp := []) (gp := []) (.sh r) (jv n t)
theorem bU {P : Program} {w : World} {K : PySem.W.Frag} {mg : Str -> Option Value} {base : Heap} {CL : Str -> Addr} {x qual : Str} {st : Stmt} {f : Addr} {fd : FuncData} {N ps : List Str} {k : Nat} {A : Type} {arg : A -> List D} {Pre : A -> Prop} {res : A -> T} (F : kY K x qual st f fd) (S : bC N ps (aF st))
   (hb : ∀ (eo : Value) (Ar : Around) (outer : List Env) (s : Shared) (H : Hp) (E : XK) (b : Bx) (a : A), gb k (Ar.deeper y0.Z) -> Pre a →
     fD (wI iT P w K mg base N qual (aF st) f eo Ar outer s H E).Wn CL b (fK st) (entry N (arg a)) { nx := fun _ => res a = .sh .non, rt := fun t _ => t = res a }) :
   cV P w K mg base iT (k + 1) f fd ps (n8 K CL ps.length arg Pre res) := by
 refine F.ok S (fun vs H Q E h => ?_) (fun eo Ar outer s H vs Q E hr h => ?_)
 . obtain ⟨W, a, _, _, r, hl, _⟩ := h
   rw [← r.length]; exact hl
 . obtain ⟨W, a, wh, tp, r, hl, hp, tb, kk⟩ := h
   refine ⟨_, RQ, hb eo Ar outer s H E ⟨H, W⟩ a hr hp H W _ [] [] _ ⟨⟨[], [], ?_, .nil, anD, fun a ha => by cases ha⟩, .refl _, .refl _, wh, fun a o q z => ?_, tp, tb⟩ ⟨fun δ' σ' H' Z' s' S' e => ?_, fun t v H' Z' δ' σ' s' S' e => ?_, fun _ _ _ _ _ _ e => e.elim, fun _ _ _ _ _ _ e => e.elim⟩⟩
   . unfold entry L2.start
     rw [← r.length]
     exact jv _ r
   . have q' : W a = some o := q
     have z' : W a = none := z
     rw [q'] at z'; cases z'
   . exact kk .non H' Z' [] S'.bh S'.zz S'.zh S'.new S'.tp (by rw [show res a = .sh .non from e]; exact .sh .non) anD fun a ha => by cases ha
   . have e' : t = res a := e
     subst e'
     obtain ⟨fp, gp, _, r', nd, own⟩ := S'.rep
     cases r' with
     | @cons _ _ _ _ f1 f2 r1 r2 =>
       have h1 := (anh.mp nd).2.1
       exact kk v H' Z' f1 S'.bh S'.zz S'.zh S'.new S'.tp r1 (anh.mp h1).1 fun a ha => own a (ami _ (amw _ ha))
section
variable {prog : Program} {w : World} {A : Around} {R : Result -> Shared -> Prop} {s : Shared}
theorem Ey {elt target iter : Expr} {ifs : List Expr} {scope : Scope} {pos : Pos} {it acc : Value} {env : Env} (I : Nat -> Shared -> Prop)
   (turn : ∀ n s, I n s -> wpAny y0.w A (pyNext it) (fun r s₁ => match r with
     | none => R (.ok .next) s₁
     | some v => wpAny y0.w A (letOwnedTupleGo target it v) (fun _ s₁' => wpAny y0.w A (assign target env v) (fun _ s₂ =>
         wpAny y0.w A (forIn ifs true fun c r => if r = true then do let ok ← isTrue c env (eval c env); pure (ForInStep.yield ok) else pure (ForInStep.yield r)) (fun ok s₃ =>
           if ok = true then wpAny y0.w A (eval elt env) (fun x s₄ =>
             wpAny y0.w A (call (.builtin "list.append") [acc, x]) (fun _ s₅ => ∃ m, m < n /\ I m s₅) y0.ad s₄) y0.ad s₃
           else ∃ m, m < n /\ I m s₃) y0.ad s₂) y0.ad s₁') y0.ad s₁) y0.ad s)
   (n : Nat) (h : I n s) :
   codeAny y0.w A (.compLoop (.ListComp elt [⟨target, iter, ifs, 0⟩] scope pos) 0 it acc env) R s := by
 refine codeAny_loop rfl I (fun n s hI => ?_) n h
 show wpAny _ A ((compTurn (.ListComp elt [⟨target, iter, ifs, 0⟩] scope pos) 0 it acc env).onRaise (fun x => do noteFrame x env; theTreesLotGoes x)) _ _ s
 refine wpAny_noted ?_
 rw [compTurn_list]
 refine ams (wpAny_standAt (ams (ani (turn n s hI) (fun r s₁ h₁ => ?_) fun _ _ h' => h'.elim)))
 cases r with
 | none => exact amW h₁
 | some v =>
   refine ams (ani h₁ (fun _ s₁' h₁' => ?_) fun _ _ h' => h'.elim)
   refine ams (ani h₁' (fun _ s₂ h₂ => ams (ani h₂ (fun ok s₃ h₃ => ?_) fun _ _ h' => h'.elim)) fun _ _ h' => h'.elim)
   cases ok with
   | false => exact amW ⟨rfl, h₃⟩
   | true =>
     exact ams (ams (ani h₃ (fun x s₄ h₄ => ams (ani h₄ (fun _ s₅ h₅ => amW (amW ⟨rfl, h₅⟩)) fun _ _ h' => h'.elim)) fun _ _ h' => h'.elim))
end
def dO (env : Env) : List (Str × NameKind) -> List (Str × Addr) -> List (Str × Addr)
 | [], cs => cs
 | (n, k) :: r, cs => dO env r (if k == .free then (n, (env.cells.lookup n).getD 0) :: cs else cs)
theorem ng {scope : Scope} {env : Env} (h : ∀ x ∈ scope.names, x.2 = .free -> ∃ c, env.cells.lookup x.1 = some c) : closureFor scope env = pure (dO env scope.names []) := by
 have go : ∀ (l : List (Str × NameKind)) (cs : List (Str × Addr)), (∀ x ∈ l, x.2 = .free -> ∃ c, env.cells.lookup x.1 = some c) →
     (forIn l cs fun x r => match x with | (name, kind) => if (kind == NameKind.free) = true then do let a ← cellOf env name; pure (ForInStep.yield ((name, a) :: r)) else pure (ForInStep.yield r) : Sem (List (Str × Addr))) = pure (dO env l cs) := by
   intro l
   induction l with
   | nil => intro cs _; rfl
   | cons x r ih =>
     intro cs hx
     obtain ⟨n, k⟩ := x
     rw [List.forIn_cons]
     by_cases hk : k = .free
     . subst hk
       obtain ⟨c, hc⟩ := hx (n, .free) amj rfl
       have e : cellOf env n = pure c := by unfold cellOf; rw [hc]
       simp only [an9, aoi, e, pure_bind]
       rw [ih _ fun y hy => hx y (amn _ hy)]
       simp only [dO, an9, aoi]
       rw [hc]; rfl
     . have hb : (k == NameKind.free) = false := by simpa using hk
       simp only [hb, anl, an1, pure_bind]
       rw [ih _ fun y hy => hx y (amn _ hy)]
       simp only [dO, hb, anl, an1]
 unfold closureFor
 have := go scope.names [] h
 simp only [bind_pure] at this ⊢
 exact this
theorem oZ {env : Env} : ∀ {l : List (Str × NameKind)} {cs : List (Str × Addr)} {y : Str} {c : Addr}, (∀ x ∈ l, x.2 = .free -> ∃ c, env.cells.lookup x.1 = some c) -> (∀ y c, cs.lookup y = some c -> env.cells.lookup y = some c) →
   (dO env l cs).lookup y = some c -> env.cells.lookup y = some c
 | [], cs, y, c, _, h, e => h y c e
 | (n, k) :: r, cs, y, c, hx, h, e => by
   refine oZ (l := r) (fun z hz => hx z (amn _ hz)) (fun z d hz => ?_) e
   by_cases hk : k = .free
   . subst hk
     obtain ⟨c', hc⟩ := hx (n, .free) amj rfl
     simp only [an9, aoi, hc, Option.getD_some, am4] at hz
     by_cases hzn : (z == n) = true
     . rw [hzn] at hz
       have : z = n := by simpa using hzn
       subst this
       cases hz
       exact hc
     . have : (z == n) = false := by simpa using hzn
       rw [this] at hz
       exact h z d hz
   . have hb : (k == NameKind.free) = false := by simpa using hk
     rw [hb] at hz
     exact h z d hz
theorem yg {env : Env} {y : Str} : ∀ {l : List (Str × NameKind)} {cs : List (Str × Addr)}, (∃ c, cs.lookup y = some c) -> ∃ c, (dO env l cs).lookup y = some c
 | [], cs, h => h
 | (n, k) :: r, cs, h => by
   refine yg (l := r) ?_
   by_cases hk : (k == NameKind.free) = true
   . rw [aml hk, am4]
     by_cases hy : (y == n) = true
     . rw [hy]; exact ⟨_, rfl⟩
     . have : (y == n) = false := by simpa using hy
       rw [this]; exact h
   . rw [amg hk]; exact h
theorem k8 {env : Env} {y : Str} : ∀ {l : List (Str × NameKind)} {cs : List (Str × Addr)}, l.lookup y = some .free -> ∃ c, (dO env l cs).lookup y = some c
 | [], _, h => by simp at h
 | (n, k) :: r, cs, h => by
   rw [am4] at h
   by_cases hy : (y == n) = true
   . rw [hy] at h
     cases h
     refine yg (l := r) ?_
     rw [aml (by rfl), am4, hy]
     exact ⟨_, rfl⟩
   . have : (y == n) = false := by simpa using hy
     rw [this] at h
     exact k8 (l := r) h
def eL (X : Cx) (scope : Scope) (Nc : List Str) (C : Addr) (s : Shared) (H : Hp) (fp : List Addr) : Cx where
 prog := X.prog
 w := X.w
 K := X.K
 mg := X.mg
 base := X.base
 A := X.A
 N := Nc
 s₀ := s
 H₀ := H
 env := compEnvC scope y0.v C X.env
 outer := X.stack
 stack := X.stack
 ex := fp
 fn := fun _ => false
 calm := X.calm
 pn := []
 xe := fun _ _ => False
structure iN (X : Cx) (scope : Scope) (x : Str) (Nc : List Str) (ix : List Nat) : Prop where
 kind : scope.kind = .function
 wO : ∀ y ∈ scope.names, y.2 ≠ .cell
 nd : Nc.Nodup
 names : ∀ y ∈ scope.names, y.2 = .local -> scope.names.lookup y.1 = some .local
 own : scope.names.lookup x = some .local
 frees : ∀ y ∈ scope.names, y.2 = .free -> scope.names.lookup y.1 = some .free /\ (X.env.kindOf y.1 = some .cell \/ X.env.kindOf y.1 = some .free)
 hd : Nc = x :: ix.filterMap (X.N[·]?)
 ixs : ∀ i ∈ ix, ∃ y, X.N[i]? = some y /\ scope.names.lookup y = some .free
theorem gw {env : Env} : ∀ {names : List (Str × NameKind)} {x : Str} {k : NameKind}, names.lookup x = some k -> 
   (names.map fun (n, k) => if (k == NameKind.free && env.scope.kind == .function && env.kindOf n == some .cell) then (n, NameKind.cell) else (n, k)).lookup x = some (if (k == NameKind.free && env.scope.kind == .function && env.kindOf x == some .cell) then .cell else k)
 | [], _, _, h => by simp at h
 | (n, k') :: r, x, k, h => by
   have ih := @gw env r x k
   show List.lookup x (y0.ay :: _) = _
   cases hx : x == n with
   | true =>
     simp only [am4, hx] at h
     cases h
     have e : x = n := by simpa using hx
     subst e
     split <;> simp [am4]
   | false =>
     simp only [am4, hx] at h
     split
     . simp only [am4, hx]; exact ih h
     . simp only [am4, hx]; exact ih h
theorem kD {env : Env} : ∀ {names : List (Str × NameKind)} {x : Str}, names.lookup x = none -> 
   (names.map fun (n, k) => if (k == NameKind.free && env.scope.kind == .function && env.kindOf n == some .cell) then (n, NameKind.cell) else (n, k)).lookup x = none
 | [], _, _ => rfl
 | (n, k') :: r, x, h => by
   have ih := @kD env r x
   show List.lookup x (y0.ay :: _) = _
   cases hx : x == n with
   | true => simp only [am4, hx] at h; cases h
   | false =>
     simp only [am4, hx] at h
     split
     . simp only [am4, hx]; exact ih h
     . simp only [am4, hx]; exact ih h
section
variable {X : Cx} {scope : Scope} {x : Str} {Nc : List Str} {ix : List Nat} {pins : List (Addr × Obj)} {σ : L2.St} {H : Hp} {s : Shared}
def wQ (σ : L2.St) (ix : List Nat) (o : Option V) : L2.St := o :: ix.map fun i => (σ[i]?).getD none
theorem PR {fp : List Addr} {kC : List (Addr × Obj)} {σ' : L2.St} {H' : Hp} {s' : Shared} {h'' : Heap} (I : Inv X pins σ H s) (uO : ∀ b ∈ fp, kJ X pins H b)
   (J : Inv (eL X scope Nc s.heap.objs.size s H fp) kC σ' H' s') (hs : Heap.SameBut s.heap.objs.size s'.heap h'') : Inv X pins σ H' { s' with heap := h'' } := by
 have un : Un (qp X.stack) fp H H' s.heap s'.heap := J.base
 have un2 : Un (qp X.stack) fp H H' s.heap h'' := by
   have ne : ∀ b o, s.heap.get? b = some o -> b ≠ s.heap.objs.size := fun b o e => amX (amG e)
   refine ⟨fun b o e n hb hx => (hs.2 b (ne b o e)).trans (un.keep b o e n hb hx), fun b o e n hb hx => ?_, un.free, fun b o e hx => ?_, un.yH, un.dQ, un.yI⟩
   . obtain ⟨sl, q⟩ := un.slot b o e n hb hx
     exact ⟨sl, (hs.2 b (ne b o e)).trans q⟩
   . obtain ⟨o', q⟩ := un.there b o e hx
     exact ⟨o', (hs.2 b (ne b o e)).trans q⟩
 have nC : H' s.heap.objs.size = none := J.free
 have dM : qo X.prog X.w H' h'' := fun b u e => by
   refine (J.dM b u e).yG (fun c v hc q => (hs.2 c ?_).trans q) (fun _ q => q) fun _ _ q => q
   rintro rfl
   rcases hc with z | z
   . subst z; rw [nC] at e; cases e
   . rw [nC] at z; cases z
 obtain ⟨hh, g, d, t, os'⟩ := s'
 obtain rfl : os' = s.os := J.os
 show L2.Inv X pins σ H' { s with heap := h'', gens := g, drawn := d, toks := t }
 exact I.call (h' := h'') (g' := g) (d' := d) (t' := t) (ch := fp) un2 dM J.bare fun b hb => ⟨(uO b hb).2.2.2.1, (uO b hb).2.1, (uO b hb).2.2.2.2.1, (uO b hb).2.2.2.2.2⟩
def abU (X : Cx) : List Expr -> TT
 | [] => fun _ H Q => Q true H
 | [c] => WZ X c
 | _ => fun _ _ _ => False
theorem S9 {ifs : List Expr} {Q : Bool -> Hp -> Prop} (I : Inv X pins σ H s) (h : abU X ifs σ H Q) (hx : X.xe = fun _ _ => False) :
   wpAny y0.d X.A (forIn ifs true fun c r => if r = true then do let ok ← isTrue c X.env (eval c X.env); pure (ForInStep.yield ok) else pure (ForInStep.yield r)) (TP X pins σ Q) y0.ad s := by
 match ifs, h with
 | [], h => exact wpAny_tests_nil ⟨H, I, h⟩
 | [c], h =>
   have := h pins s I
   rw [hx] at this
   exact wpAny_tests_one this
end
def TIv (X : Cx) (CL : Str -> Addr) (b : Bx) (ifs : List Expr) (δ : List (Option T)) (p : Bool) : Prop :=
 match ifs with
 | [] => p = true
 | [c] => yf X CL b c δ p δ
 | _ => False
theorem TIv.sem {X : Cx} {CL : Str -> Addr} {b : Bx} {ifs : List Expr} {δ : List (Option T)} {p : Bool} (h : TIv X CL b ifs δ p) {H Z : Hp} {σ : L2.St} {Q : Bool -> Hp -> Prop} (S : cj X.K CL b H Z δ σ [] [])
   (k : ∀ H' Z', aQ Z Z' -> aQ H H' -> cj X.K CL b H' Z' δ σ [] [] -> Q p H') : abU X ifs σ H Q := by
 match ifs, h with
 | [], h =>
   have e : p = true := h
   subst e
   exact k H Z y0.B y0.B S
 | [c], h => exact (show yf X CL b c δ p δ from h) H Z σ [] [] Q S k
theorem oi {ts : List T} : (T.lst ts).clean = T.ju ts := by rw [T.clean]
theorem zP {g : D -> T} : ∀ {ds : List D}, (∀ d ∈ ds, (g d).clean = true) -> T.ju (ds.map g) = true
 | [], _ => by rw [List.map_nil, T.ju]
 | d :: ds, h => by
   rw [amD, T.ju, h d amj, zP fun e he => h e (amn _ he)]
   rfl
section
variable {X : Cx} {CL : Str -> Addr} {b : Bx} {H Z W1 : Hp} {δ δc : List (Option T)} {σ : L2.St} {ts : List T} {vs us : List V} {ds : List D} {scope : Scope} {Nc : List Str} {ix : List Nat} {elt : Expr} {ifs : List Expr} {p : D -> Bool} {g : D -> T} {J : It}
end
section
variable {K : PySem.W.Frag} {CL : Str -> Addr} {b : Bx} {H H' Z Z' : Hp} {δ δ' : List (Option T)} {σ σ' : L2.St} {ts tl : List T} {vs us : List V} {t : T} {v : V}
theorem bI.at : ∀ {tl : List T} {us : List V} {fp : List Addr} {j : Nat} {t : T}, bI K CL H Z tl us fp -> tl[j]? = some t -> ∃ v f1 f2 f3, us[j]? = some v /\ fp = f1 ++ (f2 ++ f3) /\ dR K CL H Z t v f2 ∧
   ∀ {H' : Hp} {t' : T} {v' : V} {g : List Addr}, (∀ a ∈ f1 ++ f3, H' a = H a) -> dR K CL H' Z t' v' g -> bI K CL H' Z (tl.set j t') (us.set j v') y0.ar
 | _, _, _, _, _, .nil, e => by simp at e
 | _, _, _, 0, _, .cons (fp := fp) (gp := gp) r q, e => by
   simp at e
   subst e
   exact ⟨_, [], fp, gp, rfl, rfl, r, fun {H' t' v' g} k r' => bI.cons (fp := g) (gp := gp) r' (bI.mono (fp := gp) y0.B (fun a ha => k a (by simpa using ha)) q)⟩
 | _, _, _, j + 1, t, .cons (fp := fp) (gp := gp) r q, e => by
   obtain ⟨v, f1, f2, f3, h1, h2, h3, h4⟩ := bI.at (j := j) (t := t) q y0.aP
   refine ⟨v, fp ++ f1, f2, f3, by simpa using h1, by rw [h2, List.append_assoc], h3, fun k r' => ?_⟩
   rw [amr]
   exact .cons (r.mono y0.B fun a ha => k a y0.bB) (h4 (fun a ha => k a (by rw [amr]; exact ami _ ha)) r')
theorem oj {α : Type} {l : List α} {i : Nat} {x : α} (h : l[i]? = some x) : l.set i x = l := by
 apply an3
 intro j
 rw [List.getElem?_set]
 split
 . rename_i e; subst e
   split
   . exact h.symm
   . rename_i h2; rw [anY y0.b]
 . rfl
theorem cj.write {a : Addr} {xs : List V} {f1 f2 f3 g gp gp' : List Addr} {δ2 : List (Option T)} (S : cj K CL b H Z δ σ ts vs) (nd : ((f1 ++ (f2 ++ f3)) ++ gp).Nodup) (own : ∀ c ∈ (f1 ++ (f2 ++ f3)) ++ gp, Z c = none /\ b.B c = none) (ha : a ∈ f2)
   (hH : ∃ o, H a = some o) (e' : gf K CL (upd H a (.lst xs)) Z δ2 σ y0.ar) (r' : bI K CL (upd H a (.lst xs)) Z tl us gp') (pm : (y0.ar ++ gp').Nodup) (sub : ∀ c ∈ y0.ar ++ gp', c ∈ (f1 ++ (f2 ++ f3)) ++ gp) :
   cj K CL b (upd H a (.lst xs)) Z δ2 σ tl us := by
 have oa := own a y0.bB
 refine ⟨⟨_, _, e', r', pm, fun c hc => own c (sub c hc)⟩, fun c o q => ?_, S.zz, fun c o q => ?_, S.new, fun c o q i => ?_, S.tab⟩
 . rw [aO (aZ q oa.2)]; exact S.bh c o q
 . rw [aO (aZ q oa.1)]; exact S.zh c o q
 . by_cases hc : c = a
   . subst hc; rw [bw] at q; cases q; cases i
   . rw [aO hc] at q; exact S.tp c o q i
theorem cj.append {i : Nat} (S : cj K CL b H Z δ σ (t :: ts) (v :: vs)) (hi : δ[i]? = some (some (.lst tl))) :
   ∃ a us, σ[i]? = some (some (.ref a)) /\ H a = some (.lst us) /\ us.length = tl.length /\ cj K CL b (upd H a (.lst (us ++ [v]))) Z (δ.set i (some (.lst (tl ++ [t])))) σ ts vs := by
 obtain ⟨fp, gp, e, r, nd, k⟩ := S.rep
 obtain ⟨v0, f1, f2, f3, hv, uO, rt, put, _⟩ := e.get hi
 subst uO
 cases rt with
 | @lst a us _ g ha rs =>
   cases r with
   | @cons _ _ _ _ ft gr q1 q2 =>
     have ne : ∀ c ∈ y0.ar ++ (ft ++ gr), c ≠ a := fun c hc e => by
       subst e
       have hp : ((f1 ++ ((c :: g) ++ f3)) ++ (ft ++ gr)).Perm (c :: (y0.ar ++ (ft ++ gr))) := by
         rw [amL, ← amL]
         exact (ant.append_right _)
       exact (ank.mp y0.bp).1 hc
     refine ⟨a, us, hv, ha, rs.length.symm, ?_⟩
     have r1 : dR K CL (upd H a (.lst (us ++ [v]))) Z (.lst (tl ++ [t])) (.ref a) (a :: (g ++ (ft ++ []))) :=
       .lst bw (bI.app (rs.mono y0.B fun c hc => aO y0.N) (.cons (q1.mono y0.B fun c hc => aO y0.N) .nil))
     have e2 := put (H' := upd H a (.lst (us ++ [v]))) y0.B (fun c hc => aO (ne c (by
       rcases amx.mp hc with h | h
       . simp [h]
       . simp [h]))) r1
     rw [oj hv] at e2
     have hp : ((f1 ++ ((a :: (g ++ (ft ++ []))) ++ f3)) ++ gr).Perm ((f1 ++ ((a :: g) ++ f3)) ++ (ft ++ gr)) := by
       simp only [amH, amL, amr]
       refine am2 f1 (List.Perm.cons a (am2 g ?_))
       rw [← amr, ← amr]
       exact am6.append_right gr
     exact S.write nd k (amj) ⟨_, ha⟩ e2 y0.bY (hp.nodup_iff.mpr nd) fun c hc => hp.mem_iff.mp hc
theorem cj.setAt {i j : Nat} (S : cj K CL b H Z δ σ (t :: ts) (v :: vs)) (hi : δ[i]? = some (some (.lst tl))) (hj : j < tl.length) :
   ∃ a us, σ[i]? = some (some (.ref a)) /\ H a = some (.lst us) /\ us.length = tl.length /\ cj K CL b (upd H a (.lst (us.set j v))) Z (δ.set i (some (.lst (tl.set j t)))) σ ts vs := by
 obtain ⟨fp, gp, e, r, nd, k⟩ := S.rep
 obtain ⟨v0, f1, f2, f3, hv, uO, rt, put, _⟩ := e.get hi
 subst uO
 cases rt with
 | @lst a us _ g ha rs =>
   cases r with
   | @cons _ _ _ _ ft gr q1 q2 =>
     have ne : ∀ c ∈ y0.ar ++ (ft ++ gr), c ≠ a := fun c hc e => by
       subst e
       have hp : ((f1 ++ ((c :: g) ++ f3)) ++ (ft ++ gr)).Perm (c :: (y0.ar ++ (ft ++ gr))) := by
         rw [amL, ← amL]
         exact (ant.append_right _)
       exact (ank.mp y0.bp).1 hc
     refine ⟨a, us, hv, ha, rs.length.symm, ?_⟩
     obtain ⟨vj, g1, g2, g3, _, hg, _, set⟩ := rs.at (amq hj)
     subst hg
     have r1 : dR K CL (upd H a (.lst (us.set j v))) Z (.lst (tl.set j t)) (.ref a) (a :: (g1 ++ (ft ++ g3))) :=
       .lst bw (set (fun c hc => aO (ne c (by
         rcases amx.mp hc with h | h
         . simp [h]
         . simp [h]))) (q1.mono y0.B fun c hc => aO y0.N))
     have e2 := put (H' := upd H a (.lst (us.set j v))) y0.B (fun c hc => aO (ne c (by
       rcases amx.mp hc with h | h
       . simp [h]
       . simp [h]))) r1
     rw [oj hv] at e2
     have hp : ((f1 ++ ((a :: (g1 ++ (ft ++ g3))) ++ f3)) ++ gr).Perm ((f1 ++ ((a :: (g1 ++ g3)) ++ f3)) ++ (ft ++ gr)) := by
       simp only [amL, amr]
       refine am2 f1 (List.Perm.cons a (am2 g1 ?_))
       have := (am6 (l₁ := ft) (l₂ := g3 ++ f3)).append_right gr
       simp only [amr] at this
       exact this
     have sb : ((f1 ++ ((a :: (g1 ++ g3)) ++ f3)) ++ (ft ++ gr)).Sublist ((f1 ++ ((a :: (g1 ++ (g2 ++ g3))) ++ f3)) ++ (ft ++ gr)) := by
       refine am5 (am5 (am3 _) (am5 (List.Sublist.cons₂ a ?_) (am3 _))) (am3 _)
       exact am5 (am3 _) (anH _ _)
     exact S.write nd k (amj) ⟨_, ha⟩ e2 y0.bY (hp.nodup_iff.mpr (nd.sublist sb)) fun c hc => sb.subset (hp.mem_iff.mp hc)
end
section
variable {X : Cx} {CL : Str -> Addr} {b : Bx} {δ δ1 δ2 : List (Option T)} {e e2 : Expr} {t : T} {tl Tc tt tt0 : List T} {D : dN} {pos pp pa pb : Pos}
theorem abW (i : Nat) {x : Str} (h0 : δ[i]? = some (some (.lst Tc))) (h : cW X CL b e δ t δ1) (h1 : δ1[i]? = some (some (.lst tl))) (hl : tl.length < sizeLine) (k : D.nx (δ1.set i (some (.lst (tl ++ [t])))))
   (hi : X.N[i]? = some x := by rfl) (hv : Vis X.env.scope x := by first | exact Or.inl rfl | exact Or.inr (Or.inl rfl) | exact Or.inr (Or.inr rfl)) (hd : y0.i = false := by decide) (ko : y0.q = false := by decide)
   (oh : attributeBase y0.J "append" X.env (eval y0.J X.env) = eval y0.J X.env := by rfl)
   (Es : ((backTo pb (starEach [e] X.env)).all (fun x => !x.1) && (backToKw pb y0.bv).all y0.bE && decide ([e].length + ([] : List Keyword).length + y0.U < 30)) = true := by rfl)
   (hline : (pa.endLine == pb.line) = true := by rfl) (hs : starEach [e] X.env = (false, eval e X.env) :: starEach [] X.env := by exact bR rfl) (K2 : swapsWith y0.bU none pos.line X.env = pure false := by rfl) :
   W3 X CL b (.Expr y0.bU pos) δ D := fun H Z σ ts vs E S M =>
 wM (Ek (Sy aov PySem.F.slot_list_append PySem.F.type_list_append Du (m7 hi hv hd ko) y0.bb oh Es hline hs rfl) K2) (by
   obtain ⟨v0, e0, r0⟩ := S.look h0
   refine ⟨v0, e0, ?_, ?_⟩
   . rw [T.eF] at r0
     cases r0 with
     | lst hq _ => exact .inl ⟨rfl, _, hq⟩
   . refine h H Z σ ts vs _ S fun v H1 Z1 z1 k1 S1 => ?_
     obtain ⟨a, us, ea, ha, hu, S2⟩ := S1.append h1
     rw [e0] at ea
     cases ea
     exact ⟨a, us, v, rfl, rfl, ha, by rw [hu]; exact hl, M.nx _ σ _ Z1 z1 S2 k⟩)
end
def afq : Option (Option T) -> Option T
 | some (some t) => some (.sh t.eF)
 | _ => none
def shO : Option (Option T) -> Option T
 | some (some (T.sh d)) => some (.sh d)
 | _ => none
def B7 (δ : List (Option T)) (ix : List Nat) : List (Option T) := ix.map fun i => afq δ[i]?
def HL (δ : List (Option T)) (ix : List Nat) : List (Option T) := ix.map fun i => shO δ[i]?
section
variable {K : PySem.W.Frag} {CL : Str -> Addr} {b : Bx} {H Z : Hp} {δ : List (Option T)} {σ : L2.St} {ts : List T} {vs : List V}
theorem zQ (S : cj K CL b H Z δ σ ts vs) : ∀ (ix : List Nat) (H' : Hp), gf K CL H' H (B7 δ ix) (ix.map fun i => (σ[i]?).getD none) []
 | [], _ => .nil
 | i :: r, H' => by
   have ih := zQ S r H'
   show gf K CL H' H (afq δ[i]? :: B7 δ r) (((σ[i]?).getD none) :: r.map fun i => (σ[i]?).getD none) []
   cases e : δ[i]? with
   | none => exact .skip ih
   | some o =>
     cases o with
     | none => exact .skip ih
     | some t =>
       obtain ⟨v, hv, rv⟩ := S.look e
       rw [hv]
       exact .cons (fp := []) (gp := []) (.sh rv) ih
theorem HM (S : cj K CL b H Z δ σ ts vs) : ∀ (ix : List Nat) (H' : Hp), gf K CL H' Z (HL δ ix) (ix.map fun i => (σ[i]?).getD none) []
 | [], _ => .nil
 | i :: r, H' => by
   have ih := HM S r H'
   show gf K CL H' Z (shO δ[i]? :: HL δ r) (((σ[i]?).getD none) :: r.map fun i => (σ[i]?).getD none) []
   cases e : δ[i]? with
   | none => exact .skip ih
   | some o =>
     cases o with
     | none => exact .skip ih
     | some t =>
       cases t with
       | sh d =>
         obtain ⟨v, hv, rv⟩ := S.aas e
         rw [hv]
         exact .cons (fp := []) (gp := []) (.sh rv) ih
       | tup _ => exact .skip ih
       | lst _ => exact .skip ih
       | ins _ _ => exact .skip ih
       | kZ _ => exact .skip ih
       | dct _ => exact .skip ih
       | pin _ _ => exact .skip ih
end
section
variable {X : Cx} {CL : Str -> Addr} {b : Bx} {δ δ1 : List (Option T)} {scope : Scope} {x : Str} {Nc : List Str} {ix : List Nat} {elt iter : Expr} {ifs : List Expr} {px pos : Pos} {ds : List D}
structure Comes (X : Cx) (CL : Str -> Addr) (b : Bx) (δ1 : List (Option T)) (σ : L2.St) (ts : List T) (vs : List V) (Z H : Hp) (ds : List D) (J : It) (H1 : Hp) : Prop where
 ex : ∃ Z1 us, aQ Z Z1 /\ aQ H H1 /\ cj X.K CL b H1 Z1 δ1 σ ts vs /\ aX X.K CL Z1 ds us /\ (∀ i H2, aQ Z1 H2 -> i < ds.length -> J.go i H2) ∧
   (∀ i H2 x H', aQ Z1 H2 -> i < ds.length -> J.yld i H2 x H' -> H' = H2 /\ us[i]? = some x) /\ (∀ H2, aQ Z1 H2 -> J.stop ds.length H2)
def Xb (X : Cx) (CL : Str -> Addr) (b : Bx) (tg e : Expr) (δ : List (Option T)) (ds : List D) (δ1 : List (Option T)) : Prop :=
 ∃ wi, PI X tg e wi /\ ∀ (H Z : Hp) (σ : L2.St) (ts : List T) (vs : List V) (R : It -> Hp -> Prop), cj X.K CL b H Z δ σ ts vs -> (∀ J H1, Comes X CL b δ1 σ ts vs Z H ds J H1 -> R J H1) -> wi σ H R
theorem wR {tg : Expr} (h : cW X CL b iter δ (.sh (.lst ds)) δ1) : Xb X CL b tg iter δ ds δ1 := by
 refine ⟨_, WB eS, fun H Z σ ts vs R S k => h H Z σ ts vs _ S fun v H1 Z1 z1 k1 S1 => ?_⟩
 obtain ⟨fp, gp, _, r, _, _⟩ := S1.rep
 cases r with
 | cons r _ =>
   cases r with
   | sh r =>
     cases r with
     | @lst a us _ hq rr =>
       refine ⟨a, rfl, ⟨us, S1.zh.seq hq⟩, k _ _ ⟨Z1, us, z1, k1, S1.pop, rr, fun i H2 s hi => ?_, fun i H2 y H' s hi hy => ⟨hy.1, hy.2 us (s.seq hq)⟩, fun H2 s => ⟨us, s.seq hq, by rw [rr.length]; exact amo _⟩⟩⟩
       have Kh : i < us.length := by rw [← rr.length]; exact hi
       exact ⟨us, us[i], s.seq hq, by simp [Kh]⟩
theorem Ez {tg : Expr} (h : cW X CL b iter δ (.sh (.tup ds)) δ1) : Xb X CL b tg iter δ ds δ1 := by
 refine ⟨_, abj eS, fun H Z σ ts vs R S k => h H Z σ ts vs _ S fun v H1 Z1 z1 k1 S1 => ?_⟩
 obtain ⟨fp, gp, _, r, _, _⟩ := S1.rep
 cases r with
 | cons r _ =>
   cases r with
   | sh r =>
     cases r with
     | @tup a us _ hq rr =>
       refine ⟨a, rfl, ⟨us, aQ.HD S1.zh hq⟩, k _ _ ⟨Z1, us, z1, k1, S1.pop, rr, fun i H2 s hi => ?_, fun i H2 y H' s hi hy => ⟨hy.1, hy.2 us (aQ.HD s hq)⟩, fun H2 s => ⟨us, aQ.HD s hq, by rw [rr.length]; exact amo _⟩⟩⟩
       have Kh : i < us.length := by rw [← rr.length]; exact hi
       exact ⟨us, us[i], aQ.HD s hq, by simp [Kh]⟩
def bM (lo : Int) (n : Nat) : List D := (List.range n).map fun (i : Nat) => D.int (lo + i)
theorem HN {K : PySem.W.Frag} {Z : Hp} (lo : Int) (n : Nat) : aX K CL Z (bM lo n) ((List.range n).map fun (i : Nat) => V.int (lo + i)) := by
 unfold bM
 generalize List.range n = l
 induction l with
 | nil => exact .nil
 | cons i r ih => exact .cons (.int _) ih
theorem dI {tg : Expr} {pr pc : Pos} {n : Int} (hm : X.mg "range" = none) (h : d9 X CL b iter δ (.int n) δ1) (hn : -(2 ^ 62) <= n /\ n < 2 ^ 62) (hg : Gl X "range") (qq : starEach [iter] X.env = [(false, eval iter X.env)] := by rfl) (abX : starEach [iter] X.env = (false, eval iter X.env) :: starEach [] X.env := by exact bR rfl) :
   Xb X CL b tg (.Call (.Name "range" pr) [iter] [] pc) δ (bM 0 n.toNat) δ1 := by
 refine ⟨_, O8 hg hm (dc eS fC abX) qq, fun H Z σ ts vs R S k => h H Z σ ts vs _ S fun v H1 Z1 z1 k1 S1 r => ⟨n, by rw [r.sc rfl], hn.1, hn.2, k _ _ ⟨Z1, _, z1, k1, S1, HN 0 n.toNat, fun i H2 s hi => ?_, fun i H2 y H' s hi hy => ?_, fun H2 s => ?_⟩⟩⟩
 . show i < n.toNat
   have : (bM 0 n.toNat).length = n.toNat := by simp [bM]
   omega
 . have Kh : i < n.toNat := by simpa [bM] using hi
   refine ⟨hy.1, ?_⟩
   rw [amT, anr Kh, hy.2]
   rfl
 . show n.toNat <= (bM 0 n.toNat).length
   simp [bM]
theorem Dz {tg : Expr} {pr pc : Pos} {e1 e2 : Expr} {δ2 : List (Option T)} {m n : Int} (hm : X.mg "range" = none) (h1 : d9 X CL b e1 δ (.int m) δ1) (h2 : d9 X CL b e2 δ1 (.int n) δ2) (hn : -(2 ^ 62) <= m /\ m < 2 ^ 62 /\ -(2 ^ 62) <= n /\ n < 2 ^ 62) (hg : Gl X "range")
   (qq : starEach [e1, e2] X.env = [(false, eval e1 X.env), (false, eval e2 X.env)] := by rfl) (abX : starEach [e2] X.env = [(false, eval e2 X.env)] := by rfl) (ahY : starEach [e1, e2] X.env = (false, eval e1 X.env) :: starEach [e2] X.env := by rfl) (ahZ : starEach [e2] X.env = (false, eval e2 X.env) :: starEach [] X.env := by rfl) :
   Xb X CL b tg (.Call (.Name "range" pr) [e1, e2] [] pc) δ (bM m (n - m).toNat) δ2 := by
 refine ⟨_, O9 hg hm (dc eS (dc eS fC ahZ) ahY) qq abX, fun H Z σ ts vs R S k => h1 H Z σ ts vs _ S fun v H1 Z1 z1 k1 S1 r => h2 H1 Z1 σ ts vs _ S1 fun v2 H2 Z2 z2 k2 S2 r2 => ⟨m, n, by rw [r.sc rfl, r2.sc rfl], hn, k _ _ ⟨Z2, _, z1.trans z2, k1.trans k2, S2, HN m (n - m).toNat, fun i H2 s hi => ?_, fun i H2 y H' s hi hy => ?_, fun H2 s => ?_⟩⟩⟩
 . show i < (n - m).toNat
   have : (bM m (n - m).toNat).length = (n - m).toNat := by simp [bM]
   omega
 . have Kh : i < (n - m).toNat := by simpa [bM] using hi
   refine ⟨hy.1, ?_⟩
   rw [amT, anr Kh, hy.2]
   rfl
 . show (n - m).toNat <= (bM m (n - m).toNat).length
   simp [bM]
theorem abY {D : dN} {fJ : List Stmt} (i : Nat) {pos' : Pos} (P : Nat -> List (Option T) -> Prop) (h : Xb X CL b (.Name x pos') iter δ ds δ1) (h0 : P 0 δ1) (hl : ∀ j δ, P j δ -> i < δ.length)
   (hs : ∀ j d δ, ds[j]? = some d -> P j δ -> fD X CL b fJ (δ.set i (some (.sh d))) { nx := P (j + 1), rt := D.rt, bk := D.nx, ct := P (j + 1) }) (hd : ∀ δ, P ds.length δ -> D.nx δ)
   (hp : PassesOwn y0.d X.A X.env X.xe) (hc : X.calm = true) (hN : X.N.Nodup) (hi : X.N[i]? = some x) (hx : Loc X.env.scope x) (hf : X.fn x = true \/ X.env.scope.names.lookup x = some .local) (hq : ∀ x, foldedSetIterable iter X.env x = pure x := by intro _; rfl) :
   W3 X CL b (.For (.Name x pos') iter fJ [] pos) δ D := fun H Z σ ts vs E S M => by
 obtain ⟨wi, pi, hw⟩ := h
 refine wM (R9 hp hc pi (uQ hN hi hx hf) RQ hq) (hw H Z σ ts vs _ S fun J H1 zz => ?_)
 obtain ⟨Z1, us, z1, k1, S1, rr, go, yl, st⟩ := zz
 refine ⟨fun j m σ H2 => m = ds.length - j /\ j <= ds.length /\ ∃ Z2 δ2, aQ Z1 Z2 /\ cj X.K CL b H2 Z2 δ2 σ ts vs /\ P j δ2, ⟨_, rfl, amM _, Z1, δ1, .refl _, S1, h0⟩, ?_⟩
 rintro j m σ H2 ⟨rfl, hj, Z2, δ2, s, S2, p2⟩
 by_cases tV : j < ds.length
 . refine .inr ⟨go j H2 (s.trans S2.zh) tV, fun σ' H' => ∃ Z2 δ2, aQ Z1 Z2 /\ cj X.K CL b H' Z2 δ2 σ' ts vs /\ P (j + 1) δ2, fun σ' H' h => ⟨ds.length - (j + 1), by omega, rfl, tV, h⟩, fun y H' hy => ?_⟩
   obtain ⟨e, hu⟩ := yl j H2 y H' (s.trans S2.zh) tV hy
   subst e
   obtain ⟨d, Ww, rd⟩ := rr.SV hu
   have S3 := (S2.push (rd.mono s)).set (hl j δ2 p2)
   exact hs j d δ2 Ww p2 _ Z2 _ ts vs _ S3 ⟨fun δ' σ' H' Z' s' S' k => ⟨Z', δ', s.trans s', S', k⟩, fun t v H' Z' δ' σ' s' S' k => M.rt t v H' Z' δ' σ' (z1.trans (s.trans s')) S' k, fun δ' σ' H' Z' s' S' k => M.nx δ' σ' H' Z' (z1.trans (s.trans s')) S' k, fun δ' σ' H' Z' s' S' k => ⟨Z', δ', s.trans s', S', k⟩⟩
 . have e : j = ds.length := by omega
   subst e
   exact .inl ⟨st H2 (s.trans S2.zh), M.nx δ2 σ H2 Z2 (z1.trans s) S2 (hd δ2 p2)⟩
def Block (X : Cx) (CL : Str -> Addr) (scope : Scope) (Nc : List Str) (ifs : List Expr) (elt : Expr) (δc : List (Option T)) (ds : List D) (p : D -> Bool) (g : D -> T) : Prop :=
 ∀ C s0 H0 f0 b' d, d ∈ ds -> TIv y0.ao CL b' ifs (some (.sh d) :: δc) (p d) /\ (p d = true -> cW y0.ao CL b' elt (some (.sh d) :: δc) (g d) (some (.sh d) :: δc))
variable {p : D -> Bool} {g : D -> T} {δc : List (Option T)}
end
section
variable {X : Cx} {CL : Str -> Addr} {b : Bx} {δ δ1 : List (Option T)} {scope : Scope} {x : Str} {Nc : List Str} {ix : List Nat} {elt iter : Expr} {ifs : List Expr} {px pos : Pos} {ds : List D} {p : D -> Bool} {g : D -> T} {δc : List (Option T)}
def isD : L3.D -> String -> Option Bool
 | .non, n => if n = "int" \/ n = "str" \/ n = "list" \/ n = "tuple" \/ n = "bool" \/ n = "dict" then some false else none
 | .bl _, n => if n = "int" \/ n = "bool" then some true else if n = "str" \/ n = "list" \/ n = "tuple" \/ n = "dict" then some false else none
 | .int _, n => if n = "int" then some true else if n = "str" \/ n = "list" \/ n = "tuple" \/ n = "bool" \/ n = "dict" then some false else none
 | .str _, n => if n = "str" then some true else if n = "int" \/ n = "list" \/ n = "tuple" \/ n = "bool" \/ n = "dict" then some false else none
 | .lst _, n => if n = "list" then some true else if n = "int" \/ n = "str" \/ n = "tuple" \/ n = "bool" \/ n = "dict" then some false else none
 | .tup _, n => if n = "tuple" then some true else if n = "int" \/ n = "str" \/ n = "list" \/ n = "bool" \/ n = "dict" then some false else none
 | _, _ => none
def abZ (t n : String) : Option Bool := if (Value.type t == Value.type n) = true then some true else if PySem.W.kitMeta n = true then (fastBuiltinMro t).map (·.contains (.type n)) else none
theorem om {K : PySem.W.Frag} {t n : String} : PySem.W.kitOne K (.type t) (.type n) = abZ t n := rfl
theorem Td : (["NoneType", "bool", "int", "str", "list", "tuple"].all fun t => ["int", "str", "list", "tuple", "bool", "dict"].all fun n => abZ t n == some (t == n || (t == "bool" && n == "int"))) = true := by decide +kernel
theorem rQ {t n : String} (ht : t ∈ ["NoneType", "bool", "int", "str", "list", "tuple"]) (hn : n ∈ ["int", "str", "list", "tuple", "bool", "dict"]) : abZ t n = some (t == n || (t == "bool" && n == "int")) := by
 have := Td
 rw [ano] at this
 have h := this t ht
 rw [ano] at h
 simpa using h n hn
def tyD : L3.D -> Option String
 | .non => some "NoneType"
 | .bl _ => some "bool"
 | .int _ => some "int"
 | .str _ => some "str"
 | .lst _ => some "list"
 | .tup _ => some "tuple"
 | _ => none
theorem PV : kU X (.builtin "isinstance") (fun xs H Q => ∃ y n d t, xs = [y, .ty n] /\ cy X.K CL H d y /\ tyD d = some t /\ n ∈ ["int", "str", "list", "tuple", "bool", "dict"] /\ Q (.bl (t == n || (t == "bool" && n == "int"))) H) := by
 intro pins s σ H xs us Q I r h
 obtain ⟨y, n, d, t, rfl, rd, ht, hn, q⟩ := h
 obtain ⟨u, u2, rfl, ru, ru2⟩ := r.two
 cases (show u2 = Value.type n from ru2)
 have fin : ∀ tk, EP X pins σ Q (.bool (t == n || (t == "bool" && n == "int"))) { s with toks := tk } := fun tk => ⟨.bl _, H, I.tok tk, rfl, q⟩
 cases rd with
 | non => cases ht; cases (show u = Value.none from ru); exact anZ PySem.W.kitx_none I.wB True.intro (om.trans (rQ (by decide) hn)) (fun z => nomatch z) fin
 | bl c => cases ht; cases (show u = Value.bool c from ru); exact anZ PySem.W.kitx_bool I.wB True.intro (om.trans (rQ (by decide) hn)) (fun z => nomatch z) fin
 | int c => cases ht; obtain ⟨tt, e⟩ := (show ∃ t, u = Value.int c t from ru); cases e; exact anZ PySem.W.kitx_int I.wB True.intro (om.trans (rQ y0.g hn)) y0.bo fin
 | str c => cases ht; obtain ⟨tt, e⟩ := (show ∃ t, u = Value.str c t from ru); cases e; exact anZ PySem.W.kitx_str I.wB True.intro (om.trans (rQ y0.g hn)) y0.bo fin
 | @lst a ws _ hq rr =>
   cases ht
   cases (show u = Value.ref a from ru)
   obtain ⟨its, _, pl, _⟩ := I.list hq
   obtain ⟨o, n', e, c, _⟩ := pl
   exact anZ PySem.W.kitx_list I.wB ⟨o, e, c⟩ (om.trans (rQ y0.g hn)) y0.bo fin
 | @tup a ws _ hq rr =>
   cases ht
   cases (show u = Value.ref a from ru)
   obtain ⟨its, _, pl, _⟩ := I.tuple hq
   obtain ⟨o, e, c, _⟩ := pl
   exact anZ PySem.W.kitx_tuple I.wB ⟨o, e, c⟩ (om.trans (rQ y0.g hn)) y0.bo fin
 | ins _ _ => cases ht
 | any _ => cases ht
 | val _ => cases ht
 | kZ _ _ => cases ht
 | dct _ _ => cases ht
theorem uU {e : Expr} {d : L3.D} {t n : String} {nm : Str} {pp pq : Pos} (hm : X.mg "isinstance" = none) (Te : X.mg nm = none) (hg : Gl X "isinstance") (Tf : Gl X nm) (hbn : bootBuiltins nm = some (.type n)) (hnm : nm ≠ "__name__") (hnd : (nm == ("__debug__" : Str)) = false) (h : d9 X CL b e δ d δ1) (ht : tyD d = some t) (hn : n ∈ ["int", "str", "list", "tuple", "bool", "dict"])
   (hs : starEach [e, .Name nm pq] X.env = (false, eval e X.env) :: starEach [.Name nm pq] X.env := by exact bR rfl) :
   cW X CL b (.Call y0.aJ [e, .Name nm pq] [] pos) δ (.sh (.bl (t == n || (t == "bool" && n == "int")))) δ1 := fun H Z σ ts vs Q S k =>
 dG (kX (PV (CL := CL)) hg hm boot_isinstance (dc eS (dc (Nz Tf Te hbn (v := .ty n) rfl hnm hnd) fC) hs) (he := hs)) (h H Z σ ts vs _ S fun v H1 Z1 z1 k1 S1 r =>
   ⟨v, n, d, t, rfl, r, ht, hn, k _ H1 Z1 z1 k1 (S1.push (.bl _))⟩)
end
theorem aM {n : Nat} (h : Nat.ble n 1000 = true) : n <= sizeLine := anf (cQ (amm h))
structure Vn (X : Cx) (i : Nat) (x : Str) : Prop where
 hi : X.N[i]? = some x
 hv : Vis X.env.scope x
 hd : y0.i = false
 ko : y0.q = false
structure Ln (X : Cx) (i : Nat) (x : Str) : Prop extends Vn X i x where
 loc : Loc X.env.scope x
 hf : X.fn x = true \/ X.env.scope.names.lookup x = some .local
structure Gx (X : Cx) : Prop where
 nd : X.N.Nodup
 calm : X.calm = true
 xe : PassesOwn y0.d X.A X.env X.xe
structure Fc (X : Cx) (CL : Str -> Addr) (x : Str) (k n : Nat) {A : Type} (arg : A -> List D) (Pre : A -> Prop) (res : A -> T) : Prop where
 ex : ∃ f fd ps, cV X.prog X.w X.K X.mg X.base iT k f fd ps (n8 X.K CL n arg Pre res) /\ X.mg x = some (.ref f) /\ PySem.W.keepIn X.K (.ref f) = true /\ Binds X.K fd ps []
 room : gb k X.A
section
variable {X : Cx} {CL : Str -> Addr} {b : Bx} {δ δ1 δ2 : List (Option T)} {e e1 e2 : Expr} {es : List Expr} {d : L3.D} {t : T} {i : Nat} {x : Str} {pos pp : Pos} {D : dN} {fJ : List Stmt} {ds : List L3.D}
theorem v_ (n : Vn X i x) (h : δ[i]? = some (some (.sh d)) := by rfl) : cW X CL b y0.am δ (.sh d) δ := abO i n.hi n.hv n.hd n.ko h
theorem vF (n : Vn X i x) (h : δ[i]? = some (some t) := by rfl) : cW X CL b y0.am δ (.sh t.eF) (δ.set i (some (.sh t.eF))) := W4 i n.hi n.hv n.hd n.ko h
theorem vM (n : Vn X i x) (h : δ[i]? = some (some t) := by rfl) : cW X CL b y0.am δ t (δ.set i none) := W5 i n.hi n.hv n.hd n.ko h
theorem vB (n : Vn X i x) (h : δ[i]? = some (some t) := by rfl) : d9 X CL b y0.am δ t.eF δ := abP i n.hi n.hv n.hd n.ko h
theorem k9 {k : Int} (h : d9 X CL b e δ (.int k) δ1) : cW X CL b (.UnaryOp .USub e pos) δ (.sh (.int (-k))) δ1 := fun H Z σ ts vs Q S kk =>
 dG (aeX abq eS) (h H Z σ ts vs _ S fun v H1 Z1 z1 k1 S1 r => ⟨k, r.sc rfl, kk _ H1 Z1 z1 k1 (S1.push (.int _))⟩)
theorem vL (n : Vn X i x) (h : δ[i]? = some (some (.lst (ds.map T.sh))) := by rfl) : d9 X CL b y0.am δ (.lst ds) δ := by
 have := vB (CL := CL) (b := b) (pos := pos) n h
 rwa [T.eF, kL] at this
theorem c_ {k n : Nat} {A : Type} {arg : A -> List L3.D} {Pre : A -> Prop} {res : A -> T} (a : A) (F : Fc X CL x k n arg Pre res) (hg : Gl X x) (h : RT X CL b (e :: es) δ (arg a) δ1) (hp : Pre a) (hc : (res a).clean = true) (hn : (arg a).length = n := by rfl)
   (wH : y0.i = false := by decide) (he : starEach y0.ag X.env = (false, eval e X.env) :: starEach es X.env := by exact bR rfl) (hpl : (backTo pos y0.M).any (·.1) = false := by rfl) :
   cW X CL b y0.bO δ (res a) δ1 := by
 obtain ⟨f, fd, ps, F1, m, k, b⟩ := F.ex
 exact Xa a F1 F.room m k b h hn hp hc hg wH he hpl
theorem cF {k n : Nat} {A : Type} {arg : A -> List L3.D} {Pre : A -> Prop} {res : A -> T} (a : A) (F : Fc X CL x k n arg Pre res) (hg : Gl X x) (h : PN X CL b (e :: es) δ ((arg a).map T.sh) δ1) (hp : Pre a) (hn : (arg a).length = n := by rfl)
   (wH : y0.i = false := by decide) (he : starEach y0.ag X.env = (false, eval e X.env) :: starEach es X.env := by exact bR rfl) (hpl : (backTo pos y0.M).any (·.1) = false := by rfl) :
   cW X CL b y0.bO δ (res a) δ1 := by
 obtain ⟨f, fd, ps, F1, m, k, b⟩ := F.ex
 exact S8 a F1 F.room m k b h hn hp hg wH he hpl
theorem bq {pos' : Pos} (g : Gx X) (n : Ln X i x) (h : cW X CL b e δ t δ1) (k : fD X CL b fJ (δ1.set i (some t)) D) (hl : i < δ1.length := by exact amm rfl) (hs : swapsWith e y0.aw pos.line X.env = pure false := by rfl) :
   fD X CL b (.Assign [.Name x pos'] e pos :: fJ) δ D := dZ (K1 i h k hl g.nd n.hi n.loc hs n.hf)
theorem cg (h : cW X CL b e δ t δ1) (k : D.rt t δ1) : fD X CL b (.Return (some e) pos :: fJ) δ D := dZ (abT h k)
theorem dU {p : Bool} {a c : List Stmt} (h : yf X CL b e δ p δ1) (h1 : p = true -> fD X CL b a δ1 { D with nx := fun δ2 => fD X CL b fJ δ2 D }) (h2 : p = false -> fD X CL b c δ1 { D with nx := fun δ2 => fD X CL b fJ δ2 D }) : fD X CL b (.If e a c pos :: fJ) δ D := dZ (afo h h1 h2)
theorem fD.to {D' : dN} (h : fD X CL b fJ δ D') (h1 : ∀ δ, D'.nx δ -> D.nx δ) (h2 : ∀ t δ, D'.rt t δ -> D.rt t δ) (h3 : ∀ δ, D'.bk δ -> D.bk δ) (h4 : ∀ δ, D'.ct δ -> D.ct δ) : fD X CL b fJ δ D := fun H Z σ ts vs E S M => h H Z σ ts vs E S (M.to h1 h2 h3 h4)
theorem zR {p : Bool} {a c : List Stmt} (J : List (Option T) -> Prop) (h : yf X CL b e δ p δ1) (h1 : p = true -> fD X CL b a δ1 { D with nx := J }) (h2 : p = false -> fD X CL b c δ1 { D with nx := J }) (k : ∀ δ2, J δ2 -> fD X CL b fJ δ2 D) : fD X CL b (.If e a c pos :: fJ) δ D :=
 dU h (fun hp => fD.to (h1 hp) k (fun _ _ q => q) (fun _ q => q) (fun _ q => q)) (fun hp => fD.to (h2 hp) k (fun _ _ q => q) (fun _ q => q) (fun _ q => q))
theorem kF {body : List Stmt} {pos' : Pos} (g : Gx X) (n : Ln X i x) (P : Nat -> List (Option T) -> Prop) (h : Xb X CL b (.Name x pos') e δ ds δ1) (h0 : P 0 δ1) (hl : ∀ j δ, P j δ -> i < δ.length)
   (hs : ∀ j d δ, ds[j]? = some d -> P j δ -> fD X CL b body (δ.set i (some (.sh d))) { nx := P (j + 1), rt := D.rt, bk := fun δ2 => fD X CL b fJ δ2 D, ct := P (j + 1) }) (hd : ∀ δ, P ds.length δ -> fD X CL b fJ δ D) (hq : ∀ x, foldedSetIterable e X.env x = pure x := by intro _; rfl) :
   fD X CL b (.For (.Name x pos') e body [] pos :: fJ) δ D :=
 dZ (abY (D := { D with nx := fun δ1 => fD X CL b fJ δ1 D }) i P h h0 hl hs hd g.xe g.calm g.nd n.hi n.loc n.hf hq)
theorem iV {e : Expr} {o : Option Expr} {l : Nat} {env : Env} (h : ∃ c, swapsWith e o l env = pure c) : swapsWith e o l env = pure true \/ swapsWith e o l env = pure false := by
 obtain ⟨c, h⟩ := h
 cases c
 . exact .inr h
 . exact .inl h
theorem eN {scope : Scope} {Nc : List Str} {C : Addr} {s : Shared} {H : Hp} {fp : List Addr} (h1 : Nc[i]? = some x) (h2 : scope.names.lookup x = some .local) (hd : (x == ("__debug__" : Str)) = false := by decide) (ko : y0.q = false := by decide) : Vn (eL X scope Nc C s H fp) i x :=
 ⟨h1, .inl (lookup_relabel_local h2), hd, ko⟩
theorem gT {scope : Scope} {Nc : List Str} {C : Addr} {s : Shared} {H : Hp} {fp : List Addr} (h1 : Nc[i]? = some x) (h2 : scope.names.lookup x = some .free) (hd : (x == ("__debug__" : Str)) = false := by decide) (ko : y0.q = false := by decide) : Vn (eL X scope Nc C s H fp) i x := by
 refine ⟨h1, ?_, hd, ko⟩
 have q := gw (env := X.env) h2
 show (relabel scope X.env).names.lookup x = some .local \/ (relabel scope X.env).names.lookup x = some .cell \/ (relabel scope X.env).names.lookup x = some .free
 rw [show (relabel scope X.env).names.lookup x = _ from q]
 split
 . exact .inr y0.az
 . exact .inr y0.bn
theorem g6 {scope : Scope} {Nc : List Str} {C : Addr} {s : Shared} {H : Hp} {fp : List Addr} (h2 : scope.names.lookup x = some .globalImplicit) : Gl (eL X scope Nc C s H fp) x := by
 have q := gw (env := X.env) h2
 show (relabel scope X.env).names.lookup x = some .globalImplicit
 rw [show (relabel scope X.env).names.lookup x = _ from q]
 rfl
theorem pe {scope : Scope} {Nc : List Str} {C : Addr} {s : Shared} {H : Hp} {fp : List Addr} {k n : Nat} {A : Type} {arg : A -> List L3.D} {Pre : A -> Prop} {res : A -> T} (F : Fc X CL x k n arg Pre res) : Fc (eL X scope Nc C s H fp) CL x k n arg Pre res := ⟨F.ex, F.room⟩
end
section
variable {X : Cx} {CL : Str -> Addr} {b : Bx} {δ δ1 δ2 : List (Option T)} {e e1 e2 : Expr} {es : List Expr} {ds : List L3.D} {pos : Pos}
theorem EA {i j : Bool} (h1 : d9 X CL b e1 δ (.bl i) δ1) (h2 : d9 X CL b e2 δ1 (.bl j) δ2) : yf X CL b (.Compare e1 [.NotEq] [e2] pos) δ (!decide (i = j)) δ2 /\ cW X CL b (.Compare e1 [.NotEq] [e2] pos) δ (.sh (.bl (!decide (i = j)))) δ2 :=
 Dy aan h1 h2 rfl rfl (fun _ _ q => ⟨rfl, by rw [show decide (V.bl i = V.bl j) = decide (i = j) by simp]; exact q⟩) (wC _)
end
section
variable {X : Cx} {CL : Str -> Addr} {b : Bx} {δ δ1 : List (Option T)} {e : Expr} {d : L3.D} {t : String} {pos pp pq : Pos}
theorem DB : bootBuiltins "int" = some (.type "int") := by decide +kernel
theorem isI (hm : X.mg "isinstance" = none) (Te : X.mg "int" = none) (hg : Gl X "isinstance") (Tf : Gl X "int") (h : d9 X CL b e δ d δ1) (ht : tyD d = some t := by rfl) (hs : starEach [e, .Name "int" pq] X.env = (false, eval e X.env) :: starEach [.Name "int" pq] X.env := by exact bR rfl) :
   cW X CL b (.Call y0.aJ [e, .Name "int" pq] [] pos) δ (.sh (.bl (t == "int" || (t == "bool" && "int" == "int")))) δ1 := uU hm Te hg Tf DB y0.g y0.g h ht y0.g hs
theorem K3 : bootBuiltins "bool" = some (.type "bool") := by decide +kernel
theorem isB (hm : X.mg "isinstance" = none) (Te : X.mg "bool" = none) (hg : Gl X "isinstance") (Tf : Gl X "bool") (h : d9 X CL b e δ d δ1) (ht : tyD d = some t := by rfl) (hs : starEach [e, .Name "bool" pq] X.env = (false, eval e X.env) :: starEach [.Name "bool" pq] X.env := by exact bR rfl) :
   cW X CL b (.Call y0.aJ [e, .Name "bool" pq] [] pos) δ (.sh (.bl (t == "bool" || (t == "bool" && "bool" == "int")))) δ1 := uU hm Te hg Tf K3 y0.g y0.g h ht y0.g hs
theorem PX : bootBuiltins "str" = some (.type "str") := by decide +kernel
theorem isS (hm : X.mg "isinstance" = none) (Te : X.mg "str" = none) (hg : Gl X "isinstance") (Tf : Gl X "str") (h : d9 X CL b e δ d δ1) (ht : tyD d = some t := by rfl) (hs : starEach [e, .Name "str" pq] X.env = (false, eval e X.env) :: starEach [.Name "str" pq] X.env := by exact bR rfl) :
   cW X CL b (.Call y0.aJ [e, .Name "str" pq] [] pos) δ (.sh (.bl (t == "str" || (t == "bool" && "str" == "int")))) δ1 := uU hm Te hg Tf PX y0.g y0.g h ht y0.g hs
theorem cC : bootBuiltins "list" = some (.type "list") := by decide +kernel
theorem isL (hm : X.mg "isinstance" = none) (Te : X.mg "list" = none) (hg : Gl X "isinstance") (Tf : Gl X "list") (h : d9 X CL b e δ d δ1) (ht : tyD d = some t := by rfl) (hs : starEach [e, .Name "list" pq] X.env = (false, eval e X.env) :: starEach [.Name "list" pq] X.env := by exact bR rfl) :
   cW X CL b (.Call y0.aJ [e, .Name "list" pq] [] pos) δ (.sh (.bl (t == "list" || (t == "bool" && "list" == "int")))) δ1 := uU hm Te hg Tf cC y0.g y0.g h ht y0.g hs
theorem yh : bootBuiltins "tuple" = some (.type "tuple") := by decide +kernel
theorem isT (hm : X.mg "isinstance" = none) (Te : X.mg "tuple" = none) (hg : Gl X "isinstance") (Tf : Gl X "tuple") (h : d9 X CL b e δ d δ1) (ht : tyD d = some t := by rfl) (hs : starEach [e, .Name "tuple" pq] X.env = (false, eval e X.env) :: starEach [.Name "tuple" pq] X.env := by exact bR rfl) :
   cW X CL b (.Call y0.aJ [e, .Name "tuple" pq] [] pos) δ (.sh (.bl (t == "tuple" || (t == "bool" && "tuple" == "int")))) δ1 := uU hm Te hg Tf yh y0.g y0.g h ht y0.g hs
end
def n9 (sc : Scope) (l : List (Str × NameKind)) : Bool := l.all fun p => sc.names.lookup p.1 == some p.2
theorem eu {sc : Scope} {l : List (Str × NameKind)} (h : n9 sc l = true) (i : Nat) {x : Str} {k : NameKind} (hi : l[i]? = some (x, k)) : sc.names.lookup x = some k := by
 unfold n9 at h
 rw [ano] at h
 exact aos.mp (h _ (anb hi))
inductive Xc (X : Cx) : List Nat -> List Str -> Prop where
 | nil : Xc X [] []
 | cons {i : Nat} {y : Str} {ix : List Nat} {ys : List Str} (n : Vn X i y) (k : X.env.kindOf y = some .cell \/ X.env.kindOf y = some .free) (r : Xc X ix ys) : Xc X (i :: ix) (y :: ys)
def Tg (scope : Scope) (x : Str) (HP : List Str) : Bool :=
 scope.kind == .function && scope.names.lookup x == some .local && HP.all (fun y => scope.names.lookup y == some .free) && decide ((x :: HP).Nodup) &&
   scope.names.all fun y => y.2 != .cell && (y.2 != .local || scope.names.lookup y.1 == some .local) && (y.2 != .free || (HP.contains y.1 && scope.names.lookup y.1 == some .free))
theorem c6 {X : Cx} {scope : Scope} {x : Str} {ix : List Nat} {HP : List Str} (c : Xc X ix HP) (ok : Tg scope x HP = true) : iN X scope x (x :: HP) ix := by
 unfold Tg at ok
 simp only [am1, ano, anE, aos] at ok
 obtain ⟨⟨⟨⟨h1, h2⟩, h3⟩, h4⟩, h5⟩ := ok
 have kc : ∀ y ∈ HP, X.env.kindOf y = some .cell \/ X.env.kindOf y = some .free := by
   clear h3 h4 h5
   induction c with
   | nil => intro y hy; cases hy
   | cons n k r ih =>
     intro y hy
     rcases amt.mp hy with e | hy
     . subst e; exact k
     . exact ih y hy
 refine ⟨h1, fun y hy e => ?_, h4, fun y hy e => ?_, h2, fun y hy e => ?_, ?_, fun i hi => ?_⟩
 . have := (h5 y hy).1.1
   rw [e] at this
   simp at this
 . have := (h5 y hy).1.2
   rw [e] at this
   simpa using this
 . have := (h5 y hy).2
   rw [e] at this
   simp at this
   exact ⟨this.2, kc _ this.1⟩
 . congr 1
   clear h3 h4 h5 kc
   induction c with
   | nil => rfl
   | cons n k r ih => rw [anq, n.hi, ← ih]
 . clear h4 h5 kc
   induction c with
   | nil => cases hi
   | @cons i' y ix ys n k r ih =>
     rcases amt.mp hi with e | hi
     . subst e; exact ⟨y, n.hi, h3 y amj⟩
     . exact ih (fun z hz => h3 z (amn _ hz)) hi
def D.sV : D -> Int
 | .int i => i
 | _ => 0
def D.toS : D -> Str
 | .str x => x
 | _ => Str.empty
theorem gy {bs : List Int} {k : Int} (h0 : 0 <= k) (h1 : k < bs.length) : uN (bs.map D.int) k = some (.int (bs.getD k.toNat 0)) := by
 obtain ⟨j, rfl⟩ : ∃ j : Nat, k = j := ⟨k.toNat, by omega⟩
 refine aY ?_
 have hl : j < bs.length := by omega
 rw [amT, amq hl]
 simp [List.getD, hl]
theorem fP : ∀ (bs : List Int), D.cI (bs.map D.int) = true
 | [] => rfl
 | i :: r => by rw [amD, D.cI, fP r]; rfl
theorem gA {lo : Int} {n j : Nat} {d : D} (h : (bM lo n)[j]? = some d) : d = .int (lo + j) /\ j < n := by
 have hl : j < n := by
   have := (amU.mp h).1
   simpa [bM] using this
 refine ⟨?_, hl⟩
 unfold bM at h
 rw [amT, anr hl] at h
 exact (amK h).symm
theorem e7 {α : Type} (l : List α) : l.filter (fun _ => true) = l := by simp
theorem HQ {K : PySem.W.Frag} {CL : Str -> Addr} {Z : Hp} : ∀ (ns : List Int), aX K CL Z (ns.map D.int) (ns.map V.int)
 | [] => .nil
 | n :: r => .cons (.int n) (HQ r)
section
variable {X : Cx} {CL : Str -> Addr} {pins : List (Addr × Obj)} {σ : L2.St} {H : Hp} {s : Shared}
end
section
variable {X : Cx} {CL : Str -> Addr} {b : Bx} {δ δ1 δ2 δ3 : List (Option T)} {e e1 e2 e3 : Expr} {d1 d2 : D} {ds : List D} {pos p2 pp : Pos} {n m : Nat} {i : Nat} {x : Str} {t : T} {fJ : List Stmt} {DD : dN}
def cutD {α : Type} (xs : List α) (lo hi : Option Int) : List α := (xs.drop (HT.B4 xs.length 0 lo)).take y0.ba
theorem aX.drop {K : PySem.W.Frag} {Z : Hp} : ∀ {ds : List L3.D} {vs : List V} (n : Nat), aX K CL Z ds vs -> aX K CL Z (ds.drop n) (vs.drop n)
 | _, _, 0, r => r
 | _, _, _ + 1, .nil => .nil
 | _, _, n + 1, .cons _ t => aX.drop n t
theorem aX.take {K : PySem.W.Frag} {Z : Hp} : ∀ {ds : List L3.D} {vs : List V} (n : Nat), aX K CL Z ds vs -> aX K CL Z (ds.take n) (vs.take n)
 | _, _, 0, _ => .nil
 | _, _, _ + 1, .nil => .nil
 | _, _, n + 1, .cons r t => .cons r (aX.take n t)
theorem aX.cut {K : PySem.W.Frag} {Z : Hp} {ds : List L3.D} {vs : List V} (r : aX K CL Z ds vs) (lo hi : Option Int) : aX K CL Z (cutD ds lo hi) (Pu vs lo hi) := by
 unfold cutD Pu
 rw [r.length]
 exact (r.drop _).take _
theorem zS : ∀ {ds : List L3.D}, D.cI ds = true -> ∀ d ∈ ds, d.oW = true
 | [], _, _, h => by cases h
 | d :: ds, k, e, h => by
   rw [D.cI, am1] at k
   rcases amt.mp h with h | h
   . subst h; exact k.1
   . exact zS k.2 e h
theorem pA : ∀ {ds : List L3.D}, (∀ d ∈ ds, d.oW = true) -> D.cI ds = true
 | [], _ => rfl
 | d :: ds, h => by rw [D.cI, h d amj, pA fun e he => h e (amn _ he)]; rfl
theorem Xd {α : Type} {xs : List α} {lo hi : Option Int} {x : α} (h : x ∈ cutD xs lo hi) : x ∈ xs := List.mem_of_mem_drop (List.mem_of_mem_take h)
def TOv (X : Cx) (CL : Str -> Addr) (b : Bx) (e : Option Expr) (δ : List (Option T)) (k : Option Int) (δ' : List (Option T)) : Prop :=
 ∃ t, PO X e t /\ ∀ (H Z : Hp) (σ : L2.St) (ts : List T) (vs : List V) (Q : Option Int -> Hp -> Prop), cj X.K CL b H Z δ σ ts vs -> (∀ H' Z', aQ Z Z' -> aQ H H' -> cj X.K CL b H' Z' δ' σ ts vs -> Q k H') -> t σ H Q
theorem Xe : TOv X CL b none δ none δ := ⟨_, WO, fun H Z σ ts vs Q S k => k H Z y0.B y0.B S⟩
theorem Xf {k : Int} (h : d9 X CL b e δ (.int k) δ1) : TOv X CL b (some e) δ (some k) δ1 := ⟨_, WQ eS, fun H Z σ ts vs Q S kk => h H Z σ ts vs _ S fun v H1 Z1 z1 k1 S1 r => ⟨k, r.sc rfl, kk H1 Z1 z1 k1 S1⟩⟩
theorem Ti {lo hi : Option Expr} {l h : Option Int} (h1 : d9 X CL b e δ (.lst ds) δ1) (hi1 : D.cI ds = true) (h2 : TOv X CL b lo δ1 l δ2) (h3 : TOv X CL b hi δ2 h δ3) : cW X CL b (.Subscript e (.Slice lo hi none p2) pos) δ (.lst ((cutD ds l h).map T.sh)) δ3 := fun H Z σ ts vs Q S k => by
 obtain ⟨t2, po2, w2⟩ := h2
 obtain ⟨t3, po3, w3⟩ := h3
 refine dG (Sn WR eS po2 po3) (h1 H Z σ ts vs _ S fun v H1 Z1 z1 k1 S1 r => w2 H1 Z1 σ ts vs _ S1 fun H2 Z2 z2 k2 S2 => w3 H2 Z2 σ ts vs _ S2 fun H3 Z3 z3 k3 S3 => ?_)
 have r' := r.mono (k2.trans k3)
 cases r' with
 | lst hq rr =>
   refine ⟨_, _, rfl, hq, fun p hp => ?_⟩
   have rc := aX.oW S3.tp (pA fun d hd => zS hi1 d (Xd hd)) (rr.cut l h)
   obtain ⟨c, S4⟩ := (cj.sZ rc S3).qA (g0 := []) (by simp [rc.length]) hp
   exact k _ _ _ (z1.trans (z2.trans z3)) (k1.trans (k2.trans (k3.trans c))) S4
theorem rR (hm : X.mg "tuple" = none) (h : d9 X CL b e δ (.lst ds) δ1) (hi : D.cI ds = true) (hg : Gl X "tuple") (hs : starEach [e] X.env = (false, eval e X.env) :: starEach [] X.env := by exact bR rfl) : cW X CL b (.Call (.Name "tuple" pp) [e] [] pos) δ (.sh (.tup ds)) δ1 := fun H Z σ ts vs Q S k =>
 dG (jt B6 hg hm yh y0.bb (he := hs)) (h H Z σ ts vs _ S fun v H1 Z1 z1 k1 S1 r => by
   cases r with
   | lst hq rr =>
     refine ⟨_, _, rfl, .inl ⟨hq, fun l hl => ?_⟩⟩
     obtain ⟨a, c, S2⟩ := (cj.sZ (aX.oW S1.tp hi rr) S1).KY (by simp [rr.length]) hl
     obtain ⟨Z3, z3, S3⟩ := S2.KR
     rw [T.eF, kL] at S3
     exact k _ _ Z3 (z1.trans (a.trans z3)) (k1.trans c) S3)
theorem jq {tl Tc : List T} {pa pb : Pos} (n : Vn X i x) (h0 : δ[i]? = some (some (.lst Tc))) (h : cW X CL b e δ t δ1) (h1 : δ1[i]? = some (some (.lst tl))) (hl : tl.length <= 1000000) (k : fD X CL b fJ (δ1.set i (some (.lst (tl ++ [t])))) DD)
   (oh : attributeBase y0.J "append" X.env (eval y0.J X.env) = eval y0.J X.env := by rfl)
   (Es : ((backTo pb (starEach [e] X.env)).all (fun x => !x.1) && (backToKw pb y0.bv).all y0.bE && decide ([e].length + ([] : List Keyword).length + y0.U < 30)) = true := by rfl)
   (hline : (pa.endLine == pb.line) = true := by rfl) (hs : starEach [e] X.env = (false, eval e X.env) :: starEach [] X.env := by exact bR rfl) (K2 : swapsWith y0.bU none pos.line X.env = pure false := by rfl) :
   fD X CL b (.Expr y0.bU pos :: fJ) δ DD :=
 dZ (abW i h0 h h1 (aoc hl (by rw [amV]; decide)) k n.hi n.hv n.hd n.ko oh Es hline hs K2)
theorem afu {tl : List T} {k : Int} {j : Nat} {ps : Pos} (n : Vn X i x) (h : cW X CL b e δ t δ1) (h2 : d9 X CL b e2 δ1 (.int k) δ1) (h1 : δ1[i]? = some (some (.lst tl))) (hk : Sq tl.length k = some j) (kk : fD X CL b fJ (δ1.set i (some (.lst (tl.set j t)))) DD)
   (ha : ∀ v, assign (.Subscript y0.J e2 ps) X.env v = (do
     let ov ← holding [v] (eval y0.J X.env)
     let iv ← holding [v, ov] (eval e2 X.env)
     standAt ps
     holding [v, ov, iv] (setItem ov iv v)
     release [v, ov, iv] []) := by intro _; rfl)
   (hs : swapsWithSole [.Subscript y0.J e2 ps] e pos.line X.env = pure false := by rfl) (hw : swappedStores [.Subscript y0.J e2 ps] e X.env = pure none := by rfl) (ha1 : (assignEach [.Subscript y0.J e2 ps] X.env).map (·.2) = [assign (.Subscript y0.J e2 ps) X.env] := by rfl) :
   fD X CL b (.Assign [.Subscript y0.J e2 ps] e pos :: fJ) δ DD := by
 refine dZ fun H Z σ ts vs E S M => wM (abh eS (abg (m7 n.hi n.hv n.hd n.ko) eS set_list ha) hs hw ha1) (h H Z σ ts vs _ S fun v H1 Z1 z1 k1 S1 => ?_)
 have hj : j < tl.length := (En hk).2.1
 obtain ⟨v0, e0, _⟩ := S1.look h1
 refine ⟨v0, e0, ?_⟩
 refine h2 H1 Z1 σ _ _ _ S1 fun v2 H2 Z2 z2 k2 S2 r2 => ?_
 obtain ⟨a, us, ea, SW, hu, S3⟩ := S2.setAt h1 hj
 rw [e0] at ea
 cases ea
 exact ⟨a, us, k, j, rfl, r2.sc rfl, SW, by rw [hu]; exact hk, M.nx _ σ _ Z2 y0.F S3 kk⟩
theorem dg {n : Nat} (hn : ds.length = n) (hm : X.mg "len" = none) (h : d9 X CL b e δ (.lst ds) δ1) (hg : Gl X "len") (hs : starEach [e] X.env = (false, eval e X.env) :: starEach [] X.env := by exact bR rfl) : cW X CL b (.Call (.Name "len" pp) [e] [] pos) δ (.sh (.int n)) δ1 := by
 subst hn
 exact yV hm h hg hs
theorem bY (h : cW X CL b e δ (.lst (ds.map T.sh)) δ1) : d9 X CL b e δ (.lst ds) δ1 := by
 have := SX h
 rwa [T.eF, kL] at this
theorem Xg {ds' : List L3.D} (h : cW X CL b e δ (.lst (ds.map T.sh)) δ1) (e' : ds = ds') : d9 X CL b e δ (.lst ds') δ1 := e' ▸ bY h
end
theorem iW {α : Type} {f : α -> D} {l : List α} {k : Int} (z : α) (h0 : 0 <= k) (h1 : k < l.length) : uN (l.map f) k = some (f (l.getD k.toNat z)) := by
 obtain ⟨j, rfl⟩ : ∃ j : Nat, k = j := ⟨k.toNat, by omega⟩
 refine aY ?_
 have hl : j < l.length := by omega
 rw [amT, amq hl]
 simp [List.getD, hl]
theorem dm {α : Type} {f : α -> D} (h : ∀ a, (f a).oW = true) : ∀ (l : List α), D.cI (l.map f) = true
 | [] => rfl
 | a :: l => by rw [amD, D.cI, h a, dm h l]; rfl
section
variable {X : Cx} {CL : Str -> Addr} {b : Bx} {δ δ1 δ2 δ3 : List (Option T)} {e e1 e2 e3 : Expr} {es : List Expr} {d d1 d2 : D} {ds : List D} {pos p2 pp : Pos} {n m : Nat} {i : Nat} {x : Str} {t : T} {fJ : List Stmt} {DD : dN}
theorem Xh {k : Int} {u : Tok} (hm : X.mg x = some (.int k u)) (hg : Gl X x) (hd : (x == ("__debug__" : Str)) = false := by decide) : cW X CL b y0.am δ (.sh (.int k)) δ := fun H Z σ ts vs Q S kk =>
 dG (Ny (v := .int k) hg hm ⟨u, rfl⟩ hd) (kk _ H Z y0.B y0.B (S.push (.int k)))
theorem bD {k : Int} (hm : ∃ u, X.mg x = some (.int k u)) (hg : Gl X x) (hd : (x == ("__debug__" : Str)) = false := by decide) : cW X CL b y0.am δ (.sh (.int k)) δ := by
 obtain ⟨u, hm⟩ := hm
 exact Xh hm hg hd
theorem EB (x : Str) : ∀ l : List Str, inV (.str x) (l.map V.str) = decide (x ∈ l)
 | [] => by simp [inV]
 | y :: l => by
   have ih := EB x l
   unfold inV at ih ⊢
   rw [amD, anS, ih]
   have e : ∀ a c : Str, Sv (.str a) (.str c) = (a == c) := fun _ _ => rfl
   rw [e]
   by_cases h : y = x
   . subst h; simp
   . have h' : ¬ x = y := fun e => h e.symm
     simp [h, h']
theorem aX.strs {K : PySem.W.Frag} {Z : Hp} : ∀ {l : List Str} {vs : List V}, aX K CL Z (l.map D.str) vs -> vs = l.map V.str
 | [], _, r => by
   have r' : aX K CL Z [] _ := r
   cases r'; rfl
 | y :: l, _, r => by
   have r' : aX K CL Z (D.str y :: l.map D.str) _ := r
   cases r' with
   | cons r1 r2 => rw [r1.sc rfl, aX.strs r2]; rfl
theorem pB : ∀ l : List Str, (l.map V.str).all sX = true
 | [] => rfl
 | y :: l => by rw [amD, aox, pB l]; rfl
theorem Xi {p : Bool} (hm : X.mg "int" = none) (h : d9 X CL b e δ (.bl p) δ1) (hg : Gl X "int") (hs : starEach [e] X.env = (false, eval e X.env) :: starEach [] X.env := by exact bR rfl) : cW X CL b (.Call (.Name "int" pp) [e] [] pos) δ (.sh (.int (if p then 1 else 0))) δ1 := fun H Z σ ts vs Q S k =>
 dG (jt Pj hg hm DB y0.bb (he := hs)) (h H Z σ ts vs _ S fun v H1 Z1 z1 k1 S1 r => .inr ⟨p, by rw [r.sc rfl], k _ H1 Z1 z1 k1 (S1.push (.int _))⟩)
end
theorem Tj {α : Type} {l : List α} {k : Int} (z : α) (h0 : 0 <= k) (h1 : k < l.length) : uN l k = some (l.getD k.toNat z) := by
 obtain ⟨j, rfl⟩ : ∃ j : Nat, k = j := ⟨k.toNat, by omega⟩
 refine aY ?_
 have hl : j < l.length := by omega
 rw [amq hl]
 simp [List.getD, hl]
theorem ab1 {n : Nat} {k : Int} (h0 : 0 <= k) (h1 : k < n) : Sq n k = some k.toNat := by
 unfold Sq
 rw [aml h0, aml h1]
theorem str_len (x y : Str) : (x ++ y).length = x.length + y.length := by
 show (x.cps ++ y.cps).size = _
 rw [Array.size_append]; rfl
theorem wU (x y : Str) (h1 : PyData.strOk x = true) (h2 : PyData.strOk y = true) : PyData.strOk (x ++ y) = true := by
 unfold PyData.strOk at *
 show (x.cps ++ y.cps).all _ = true
 rw [Array.all_append, h1, h2]; rfl
theorem HR (l : List Int) : T.ju ((l.map D.int).map T.sh) = true := by
 rw [amO]
 induction l with
 | nil => rfl
 | cons i r ih => rw [amD, T.ju, ih]; rfl
section
variable {X : Cx} {tg : Expr}
end
section
variable {X : Cx} {CL : Str -> Addr} {b : Bx} {δ δ1 : List (Option T)} {e : Expr} {ds : List D} {tg : Expr} {pr pc : Pos}
end
section
variable {K : PySem.W.Frag} {CL : Str -> Addr} {b : Bx} {H Z : Hp} {δ : List (Option T)} {σ : L2.St} {ts tt : List T} {vs : List V} {t : T}
end
section
variable {X : Cx} {CL : Str -> Addr} {b : Bx} {δ : List (Option T)} {tt : List T} {t : T} {i : Nat} {x : Str} {pp pc ps : Pos} {kj : Nat}
end
section
variable {X : Cx} {CL : Str -> Addr} {b : Bx} {δ δ1 : List (Option T)} {e : Expr} {ds : List D} {t : T} {i : Nat} {x : Str} {pos pp p2 : Pos} {kj : Nat}
theorem vFL (n : Vn X i x) (h : δ[i]? = some (some (.lst (ds.map T.sh)))) : cW X CL b (.Name x pos) δ (.sh (.lst ds)) (δ.set i (some (.sh (.lst ds)))) := by
 have := vF (CL := CL) (b := b) (pos := pos) n h
 rwa [T.eF, kL] at this
end
section
variable {K : PySem.W.Frag} {CL : Str -> Addr} {b : Bx} {H H' Z Z' : Hp} {δ δ' : List (Option T)} {σ σ' : L2.St} {ts tl : List T} {vs us : List V} {t : T} {v : V}
theorem qx.get : ∀ {fs : List (Str × D)} {gs : List (Str × V)} {f : Str} {d : D}, qx K CL Z fs gs -> fs.lookup f = some d -> ∃ v, gs.lookup f = some v /\ cy K CL Z d v
 | _, _, _, _, .nil, e => by simp at e
 | _, _, f, d, .cons (x := x) r t, e => by
   rw [am4] at e ⊢
   cases h : f == x with
   | true => rw [h] at e; cases e; exact ⟨_, rfl, r⟩
   | false => rw [h] at e; exact qx.get t e
def B8 (f : Str) (t : T) : List (Str × T) -> List (Str × T)
 | [] => [(f, t)]
 | (g, x) :: r => if g = f then (g, t) :: r else (g, x) :: B8 f t r
theorem eZ.length {fs : List (Str × T)} {gs : List (Str × V)} {fp : List Addr} (h : eZ K CL H Z fs gs fp) : fs.length = gs.length :=
 eZ.ind (P := fun d v _ => d.length = v.length) rfl (fun _ _ i => congrArg (· + 1) i) h
theorem eZ.put {f : Str} {g : List Addr} (q : dR K CL H Z t v g) : ∀ {fs : List (Str × T)} {gs : List (Str × V)} {fp : List Addr}, eZ K CL H Z fs gs fp →
   ∃ N4 f', eZ K CL H Z (B8 f t fs) (kW f v gs) N4 /\ f'.Sublist fp /\ N4.Perm (g ++ f')
 | _, _, _, .nil => ⟨g ++ [], [], .cons q .nil, am3 _, aot _⟩
 | _, _, _, .cons (x := x) (fp := fp) (gp := gp) r rs => by
   rw [B8, kW]
   by_cases h : x = f
   . rw [aml h, aml h]
     exact ⟨g ++ gp, gp, .cons q rs, anH _ _, aot _⟩
   . rw [amg h, amg h]
     obtain ⟨p, p', h1, h2, h3⟩ := eZ.put (f := f) q rs
     refine ⟨fp ++ p, fp ++ p', .cons r h1, am5 (am3 _) h2, (am2 fp h3).trans ?_⟩
     rw [← amr, ← amr]
     exact am6.append_right p'
theorem cj.Tp {a : Addr} {o : HO} {N4 gp fp gp' : List Addr} {δ2 : List (Option T)} (hm : jY o = false) (S : cj K CL b H Z δ σ ts vs) (own : ∀ c ∈ fp ++ gp, Z c = none /\ b.B c = none) (ha : a ∈ fp ++ gp)
   (e' : gf K CL (upd H a o) Z δ2 σ N4) (r' : bI K CL (upd H a o) Z tl us gp') (pm : (N4 ++ gp').Nodup) (sub : ∀ c ∈ N4 ++ gp', c ∈ fp ++ gp) :
   cj K CL b (upd H a o) Z δ2 σ tl us := by
 have oa := own a ha
 refine ⟨⟨_, _, e', r', pm, fun c hc => own c (sub c hc)⟩, fun c u q => ?_, S.zz, fun c u q => ?_, S.new, fun c u q i => ?_, S.tab⟩
 . rw [aO (aZ q oa.2)]; exact S.bh c u q
 . rw [aO (aZ q oa.1)]; exact S.zh c u q
 . by_cases hc : c = a
   . subst hc; rw [bw] at q; cases q; rw [hm] at i; cases i
   . rw [aO hc] at q; exact S.tp c u q i
theorem cj.setField {i : Nat} {x : Addr} {c f : Str} {fs : List (Str × T)} (S : cj K CL b H Z δ σ (t :: ts) (v :: vs)) (hi : δ[i]? = some (some (.pin x (.ins c fs)))) :
   ∃ dx gs, σ[i]? = some (some (.ref x)) /\ H x = some (.ins (CL c) dx gs) /\ gs.length = fs.length /\ cj K CL b (upd H x y0.bi) Z (δ.set i (some (.pin x (.ins c (B8 f t fs))))) σ ts vs := by
 obtain ⟨fp, gp, e, r, nd, k⟩ := S.rep
 obtain ⟨v0, f1, f2, f3, hv, uO, rt, put, _⟩ := e.get hi
 subst uO
 cases rt with
 | pin rt =>
 cases rt with
 | @ins a dx _ gs _ g ha rs =>
   cases r with
   | @cons _ _ _ _ ft gr q1 q2 =>
     have ne : ∀ c ∈ y0.ar ++ (ft ++ gr), c ≠ x := fun c hc e => by
       subst e
       have hp : ((f1 ++ ((c :: g) ++ f3)) ++ (ft ++ gr)).Perm (c :: (y0.ar ++ (ft ++ gr))) := by
         rw [amL, ← amL]
         exact (ant.append_right _)
       exact (ank.mp y0.bp).1 hc
     refine ⟨dx, gs, hv, ha, rs.length.symm, ?_⟩
     have q1' := q1.mono (H' := upd H x y0.bi) y0.B fun c hc => aO y0.N
     have rs' := rs.mono (H' := upd H x y0.bi) y0.B fun c hc => aO y0.N
     obtain ⟨p, p', h1, h2, h3⟩ := eZ.put (f := f) q1' rs'
     have r1 : dR K CL (upd H x y0.bi) Z (.pin x (.ins c (B8 f t fs))) (.ref x) (x :: p) := .pin (.ins bw h1)
     have e2 := put (H' := upd H x y0.bi) y0.B (fun c hc => aO (ne c (by
       rcases amx.mp hc with h | h
       . simp [h]
       . simp [h]))) r1
     rw [oj hv] at e2
     have hp : ((f1 ++ ((x :: p) ++ f3)) ++ gr).Perm ((f1 ++ ((x :: p') ++ f3)) ++ (ft ++ gr)) := by
       have h4 : ((f1 ++ ((x :: p) ++ f3)) ++ gr).Perm ((f1 ++ ((x :: (ft ++ p')) ++ f3)) ++ gr) := ((h3.cons x).append_right f3).append_left f1 |>.append_right gr
       refine h4.trans ?_
       simp only [amL, amr]
       refine am2 f1 (List.Perm.cons x ?_)
       have := (am6 (l₁ := ft) (l₂ := p' ++ f3)).append_right gr
       simp only [amr] at this
       exact this
     have sb : ((f1 ++ ((x :: p') ++ f3)) ++ (ft ++ gr)).Sublist ((f1 ++ ((x :: g) ++ f3)) ++ (ft ++ gr)) :=
       am5 (am5 (am3 _) (am5 (List.Sublist.cons₂ x h2) (am3 _))) (am3 _)
     exact S.Tp rfl k y0.C e2 y0.bY (hp.nodup_iff.mpr (nd.sublist sb)) fun c hc => sb.subset (hp.mem_iff.mp hc)
end
section
variable {X : Cx} {CL : Str -> Addr} {b : Bx} {δ δ1 δ2 : List (Option T)} {e : Expr} {es : List Expr} {t : T} {d : D} {c f x : Str} {fs : List (Str × D)} {pos pp : Pos} {DD : dN} {i : Nat}
theorem wV (hc : Dn X.K (CL c)) (n : cS X.K (CL c) f) (h : d9 X CL b e δ (.ins c fs) δ1) (hl : fs.lookup f = some d) (hb : attributeBase e f X.env (eval e X.env) = eval e X.env := by rfl) :
   d9 X CL b (.Attribute e f pos) δ d δ1 := fun H Z σ ts vs Q S k =>
 dG (Sf eS hb) (h H Z σ ts vs _ S fun v H' Z' z s S' r => by
   cases r with
   | @ins a dx _ gs _ ha rf =>
     obtain ⟨w, hw, Pw⟩ := rf.get hl
     exact ⟨a, CL c, dx, gs, w, rfl, ha, hc, n, hw, k w H' Z' z s S' Pw⟩)
theorem Tq (hc : Dn X.K (CL c)) (n : cS X.K (CL c) f) (h : cW X CL b e δ (.sh (.ins c fs)) δ1) (hl : fs.lookup f = some d) (hb : attributeBase e f X.env (eval e X.env) = eval e X.env := by rfl) :
   cW X CL b (.Attribute e f pos) δ (.sh d) δ1 := fun H Z σ ts vs Q S k =>
 dG (Sf eS hb) (h H Z σ ts vs _ S fun v H' Z' z s S' => by
   obtain ⟨fp, gp, _, r, _, _⟩ := S'.rep
   cases r with
   | cons r _ =>
     cases r with
     | sh r =>
       cases r with
       | @ins a dx _ gs _ ha rf =>
         obtain ⟨w, hw, Pw⟩ := rf.get hl
         exact ⟨a, CL c, dx, gs, w, rfl, S'.zh _ _ ha, hc, n, hw, k w H' Z' z s (S'.pop.push Pw)⟩)
theorem uV {fJ : List Stmt} {a : Addr} {gs : List (Str × T)} {pa pb pc : Pos} (hc : Dn X.K (CL c)) (n : cS X.K (CL c) f) (nm : Vn X i x) (h : cW X CL b e δ t δ1) (h1 : δ1[i]? = some (some (.pin a (.ins c gs)))) (hl : gs.length < 1000)
   (k : fD X CL b fJ (δ1.set i (some (.pin a (.ins c (B8 f t gs))))) DD) (hs : swapsWith e (some (.Attribute (.Name x pa) f pb)) pc.line X.env = pure false := by rfl) :
   fD X CL b (.Assign [.Attribute (.Name x pa) f pb] e pc :: fJ) δ DD := dZ fun H Z σ ts vs E S M =>
 wM (abt (m7 nm.hi nm.hv nm.hd nm.ko) eS hs) (h H Z σ ts vs _ S fun v H' Z' z s S' => by
   obtain ⟨dx, ws, hv, hx, hlen, S2⟩ := S'.setField (f := f) h1
   exact ⟨.ref a, hv, a, CL c, dx, ws, rfl, hx, hc, n, by rw [hlen]; exact hl, M.nx _ σ _ Z' z S2 k⟩)
end
def spI (K : PySem.W.Frag) (CL : Str -> Addr) {A : Type} (c : Str) (n : Nat) (arg : A -> List D) (Pre : A -> Prop) (res : A -> List (Str × T)) : Sp := fun vs H Q _ =>
 ∃ (W H0 : Hp) (a : A) (x dx : Addr) (us : List V), vs = .ref x :: us /\ H0 x = none /\ H0 dx = none /\ dx ≠ x /\ H = upd (upd H0 dx (.own x)) x (.ins (CL c) dx []) ∧
   aQ W H0 /\ (∀ c o, H0 c = some o -> jY o = true -> W c = some o) /\ aX K CL W (arg a) us /\ (arg a).length + 1 = n /\ Pre a /\ k6 CL W ∧
   ∀ H' W' fp, aQ H0 H' -> aQ W W' -> aQ W' H' -> (∀ c o, W' c = some o -> W c = none -> H0 c = none) -> (∀ c o, H' c = some o -> jY o = true -> W' c = some o) →
     dR K CL H' W' (.ins c (res a)) (.ref x) fp -> fp.Nodup -> (∀ c ∈ fp, W' c = none /\ H0 c = none) -> Q .non H'
section
variable {X : Cx} {CL : Str -> Addr} {b : Bx} {δ δ1 δ2 : List (Option T)} {e o : Expr} {es : List Expr} {pos pp apos : Pos}
variable {A : Type} {k n : Nat} {f : Addr} {fd : FuncData} {ps : List Str} {arg : A -> List D} {Pre : A -> Prop} {x c m : Str}
theorem Xj {res : A -> List (Str × T)} (a : A) (M : Mk X.K (CL c) f) (F : cV X.prog X.w X.K X.mg X.base iT k f fd ps (spI X.K CL c n arg Pre res)) (hr : gb (k + 1) X.A) (hm : X.mg x = some (.ref (CL c))) (hb : Binds X.K fd ps [])
   (h : RT X CL b y0.ag δ (arg a) δ1) (hn : (arg a).length + 1 = n) (hp : Pre a) (hc : T.cz (res a) = true) (hg : Gl X x)
   (wH : y0.i = false := by decide) (he : starEach y0.ag X.env = (false, eval e X.env) :: starEach es X.env := by exact bR rfl) (hpl : (backTo pos y0.M).any (·.1) = false := by rfl) :
   cW X CL b y0.bO δ (.ins c (res a)) δ1 := fun H Z σ ts vs Q S kk =>
 dG (NR M F hr hg hm hb .nil Hy PF wH he hpl) (h H Z σ ts vs _ S fun us H1 Z1 z1 k1 S1 r x dx hx hdx ne => by
   rw [amH]
   refine ⟨H1, H1, a, x, dx, us, rfl, hx, hdx, ne, rfl, .refl _, fun _ _ q _ => q, r, hn, hp, S1.KQ, fun H' W' fp hh ww wh nw tp rt nd own => ⟨rfl, ?_⟩⟩
   obtain ⟨Z', z', S'⟩ := S1.back hh S1.zh ww wh nw tp rt nd own (.inr (by rw [T.clean]; exact hc))
   exact kk _ H' Z' (z1.trans z') (k1.trans hh) S')
end
theorem N5 {P : Program} {w : World} {K : PySem.W.Frag} {mg : Str -> Option Value} {base : Heap} {CL : Str -> Addr} {x qual c : Str} {st : Stmt} {f : Addr} {fd : FuncData} {N ps : List Str} {k : Nat} {A : Type} {arg : A -> List D} {Pre : A -> Prop} {res : A -> List (Str × T)} (F : kY K x qual st f fd) (S : bC N ps (aF st))
   (hb : ∀ (eo : Value) (Ar : Around) (outer : List Env) (s : Shared) (H : Hp) (E : XK) (b : Bx) (a : A) (y : Addr), gb k (Ar.deeper y0.Z) -> Pre a →
     fD (wI iT P w K mg base N qual (aF st) f eo Ar outer s H E).Wn CL b (fK st) (some (.pin y (.ins c [])) :: ((arg a).map (fun d => some (T.sh d)) ++ List.replicate (N.length - ((arg a).length + 1)) none))
       { nx := fun δ => δ[0]? = some (some (.pin y (.ins c (res a)))), rt := fun _ _ => False }) :
   cV P w K mg base iT (k + 1) f fd ps (spI K CL c ps.length arg Pre res) := by
 refine F.ok S (fun vs H Q E h => ?_) (fun eo Ar outer s H vs Q E hr h => ?_)
 . obtain ⟨W, H0, a, y, dx, us, rfl, _, _, _, _, _, _, r, hl, _⟩ := h
   rw [amB, ← r.length]; exact hl
 . obtain ⟨W, H0, a, y, dx, us, rfl, hy, hdx, ne, rfl, wh, tp, r, hl, hp, tb, kk⟩ := h
   have old : ∀ {d : Addr} {o : HO}, H0 d = some o -> upd (upd H0 dx (.own y)) y (.ins (CL c) dx []) d = some o := fun {d o} q => by
     rw [aO (aZ q hy), aO (aZ q hdx)]; exact q
   refine ⟨_, RQ, hb eo Ar outer s _ E ⟨H0, W⟩ a y hr hp _ W _ [] [] _ ⟨⟨[y] ++ [], [], ?_, .nil, by simp, fun d hd => ?_⟩, fun d o q => old q, .refl _, fun d o q => old (wh d o q), fun d o q z => ?_, fun d o q i => ?_, tb⟩ ⟨fun δ' σ' H' Z' s' S' e => ?_, fun t v H' Z' δ' σ' s' S' e => e.elim, fun _ _ _ _ _ _ e => e.elim, fun _ _ _ _ _ _ e => e.elim⟩⟩
   . unfold L2.start
     rw [amD, amB, amL, ← r.length]
     exact .cons (.pin (.ins bw .nil)) (jv _ r)
   . have : d = y := by simpa using hd
     subst this
     exact ⟨abL wh hy, hy⟩
   . have q' : W d = some o := q
     have z' : W d = none := z
     rw [q'] at z'; cases z'
   . by_cases h1 : d = y
     . subst h1; rw [bw] at q; cases q; cases i
     . rw [aO h1] at q
       by_cases h2 : d = dx
       . subst h2; rw [bw] at q; cases q; cases i
       . rw [aO h2] at q; exact tp d o q i
   . obtain ⟨fp, gp, eE, _, nd, own⟩ := S'.rep
     obtain ⟨v, f1, f2, f3, hv, uO, rt, _, _⟩ := eE.get e
     subst uO
     cases rt with
     | pin rt =>
       refine kk H' Z' f2 S'.bh S'.zz S'.zh S'.new S'.tp rt ?_ fun d hd => own d (by simp [hd])
       have h1 := (anh.mp nd).1
       exact (anh.mp (anh.mp h1).2.1).1
section
variable {X : Cx} {CL : Str -> Addr} {b : Bx} {δ δ1 δ2 : List (Option T)} {e e1 e2 : Expr} {es : List Expr} {t : T} {d : D} {ds uP : List D} {x : Str} {pos pp : Pos} {DD : dN} {i : Nat} {fJ body : List Stmt}
theorem yW (g : Gx X) (P : Nat -> List (Option T) -> Prop) (m : Nat) (h0 : P m δ)
   (hs : ∀ m δ, P m δ -> ∃ p δ1, yf X CL b e δ p δ1 ∧
     (p = true -> fD X CL b body δ1 { nx := fun δ2 => ∃ m', m' < m /\ P m' δ2, rt := DD.rt, bk := fun δ2 => fD X CL b fJ δ2 DD, ct := fun δ2 => ∃ m', m' < m /\ P m' δ2 }) /\ (p = false -> fD X CL b fJ δ1 DD)) :
   fD X CL b (.While e body [] pos :: fJ) δ DD := dZ fun H Z σ ts vs E S M =>
 wM (R7 g.xe ptS RQ) (by
   refine ⟨fun m σ H => ∃ Z2 δ2, aQ Z Z2 /\ cj X.K CL b H Z2 δ2 σ ts vs /\ P m δ2, ⟨m, Z, δ, .refl _, S, h0⟩, ?_⟩
   rintro m σ H ⟨Z2, δ2, z2, S2, p2⟩
   obtain ⟨p, δ3, ht, h1, h2⟩ := hs m δ2 p2
   refine ht H Z2 σ ts vs _ S2 fun H3 Z3 z3 k3 S3 => ?_
   cases p with
   | true =>
     rw [aml rfl]
     refine ⟨fun σ' H' => ∃ m', m' < m /\ ∃ Z2 δ2, aQ Z Z2 /\ cj X.K CL b H' Z2 δ2 σ' ts vs /\ P m' δ2, fun σ' H' q => q, ?_⟩
     refine h1 rfl H3 Z3 σ ts vs _ S3 ⟨fun δ' σ' H' Z' s' S' ⟨m', l, q⟩ => ⟨m', l, Z', δ', z2.trans (z3.trans s'), S', q⟩, fun t v H' Z' δ' σ' s' S' q => M.rt t v H' Z' δ' σ' (z2.trans (z3.trans s')) S' q,
       fun δ' σ' H' Z' s' S' q => M.nx δ' σ' H' Z' (z2.trans (z3.trans s')) S' q, fun δ' σ' H' Z' s' S' ⟨m', l, q⟩ => ⟨m', l, Z', δ', z2.trans (z3.trans s'), S', q⟩⟩
   | false =>
     rw [amg y0.g]
     exact M.nx δ3 σ H3 Z3 (z2.trans z3) S3 (h2 rfl))
def afx (K : PySem.W.Frag) : R2 := fun x y H Q => ∃ l b xs zs, x = .ref l /\ y = .ref b /\ qk K H l xs /\ qk K H b zs /\ xs.length + zs.length <= sizeLine /\ ∀ p, H p = none -> Q (.ref p) (upd H p (.lst (xs ++ zs)))
theorem Xk : yJ X (binaryOp .Add) (afx X.K) := by
 intro pins s σ H x y v u Q I rx ry h
 obtain ⟨l, b, xs, zs, rfl, rfl, hH, hB, hz, q⟩ := h
 cases rx
 cases ry
 obtain ⟨its, r, pl, _⟩ := I.list hH
 obtain ⟨zM, r2, pl2, _⟩ := I.list hB
 have e1 := r.length
 have e2 := r2.length
 obtain ⟨⟨c1, dd, da1, sl⟩, ho, hc, n, hd⟩ := pl.isList
 obtain ⟨⟨c2, dd2, da2, Wo⟩, Wq, wJ, n2, hd2⟩ := pl2.isList
 cases hc; cases wJ; cases hd; cases hd2
 refine concat_meets ⟨_, ho, rfl⟩ ⟨_, Wq, rfl⟩ noFill_list_add seq_list_add PySem.F.slot_list_add PySem.F.entry_list_add (PySem.F.args_list_add_2 (Value.ref l) (Value.ref b))
   (list_addW l b its.toArray zM.toArray n n2 dd dd2 sl Wo (by rw [amF, amF]; omega)) ⟨ho, Wq, ?_⟩
 have ea : its.toArray ++ zM.toArray = (its ++ zM).toArray := by simp
 rw [ea]
 exact ⟨.ref _, _, I.afc (t' := s.toks) (r.append r2) (by rw [amv]; omega), rfl, q _ I.fresh⟩
theorem aX.app {K : PySem.W.Frag} {Z : Hp} {ds uP : List L3.D} {vs vs2 : List V} (h : aX K CL Z ds vs) (r2 : aX K CL Z uP vs2) : aX K CL Z (ds ++ uP) (vs ++ vs2) :=
 aX.ind (P := fun ds vs => aX K CL Z (ds ++ uP) (vs ++ vs2)) r2 (fun r _ i => .cons r i) h
theorem rS (h1 : d9 X CL b e1 δ (.lst ds) δ1) (h2 : d9 X CL b e2 δ1 (.lst uP) δ2) (i1 : D.cI ds = true) (i2 : D.cI uP = true) (hz : ds.length + uP.length <= sizeLine) :
   cW X CL b (.BinOp e1 .Add e2 pos) δ (.lst ((ds ++ uP).map T.sh)) δ2 := fun H Z σ ts vs Q S k =>
 dG (zJ Xk eS eS) (h1 H Z σ ts vs _ S fun v1 H1 Z1 z1 k1 S1 r1 => h2 H1 Z1 σ ts vs _ S1 fun v2 H2 Z2 z2 k2 S2 r2 => by
   have W8 := r1.mono k2
   cases W8 with
   | lst G7 K4 =>
     cases r2 with
     | lst Xl Wr =>
       refine ⟨_, _, _, _, rfl, rfl, G7, Xl, by rw [← K4.length, ← Wr.length]; exact hz, fun p hp => ?_⟩
       have rc := aX.app (aX.oW S2.tp i1 K4) (aX.oW S2.tp i2 Wr)
       obtain ⟨c, S4⟩ := (cj.sZ rc S2).qA (g0 := []) (by simp [rc.length, K4.length, Wr.length]) hp
       exact k _ _ _ y0.F (k1.trans (k2.trans c)) S4)
theorem boot_min : bootBuiltins "min" = some (.builtin "min") := by decide +kernel
theorem boot_max : bootBuiltins "max" = some (.builtin "max") := by decide +kernel
theorem boot_str : bootBuiltins "str" = some (.type "str") := by decide +kernel
theorem Xm {i j : Int} (g : Gx X) (hm : X.mg "min" = none) (hg : Gl X "min") (h : RT X CL b [e1, e2] δ [.int i, .int j] δ1) (hs : starEach [e1, e2] X.env = (false, eval e1 X.env) :: starEach [e2] X.env := by exact bR rfl) (hpl : (backTo pos (starEach [e2] X.env)).any (·.1) = false := by rfl) :
   cW X CL b (.Call (.Name "min" pp) [e1, e2] [] pos) δ (.sh (.int (if j < i then j else i))) δ1 := fun H Z σ ts vs Q S k =>
 dG (kX (Ph g.calm) hg hm boot_min PF (he := hs) (hpl := hpl)) (h H Z σ ts vs _ S fun us H1 Z1 z1 k1 S1 r => by
   cases r with
   | cons r1 r =>
     cases r with
     | cons r2 r =>
       cases r
       rw [r1.sc rfl, r2.sc rfl]
       exact ⟨i, j, rfl, k _ H1 Z1 z1 k1 (S1.push (.int _))⟩)
theorem Xn {i j : Int} (g : Gx X) (hm : X.mg "max" = none) (hg : Gl X "max") (h : RT X CL b [e1, e2] δ [.int i, .int j] δ1) (hs : starEach [e1, e2] X.env = (false, eval e1 X.env) :: starEach [e2] X.env := by exact bR rfl) (hpl : (backTo pos (starEach [e2] X.env)).any (·.1) = false := by rfl) :
   cW X CL b (.Call (.Name "max" pp) [e1, e2] [] pos) δ (.sh (.int (if j > i then j else i))) δ1 := fun H Z σ ts vs Q S k =>
 dG (kX (Pg g.calm) hg hm boot_max PF (he := hs) (hpl := hpl)) (h H Z σ ts vs _ S fun us H1 Z1 z1 k1 S1 r => by
   cases r with
   | cons r1 r =>
     cases r with
     | cons r2 r =>
       cases r
       rw [r1.sc rfl, r2.sc rfl]
       exact ⟨i, j, rfl, k _ H1 Z1 z1 k1 (S1.push (.int _))⟩)
theorem rT {i : Int} (hm : X.mg "str" = none) (hg : Gl X "str") (h : d9 X CL b e δ (.int i) δ1) (hi : i.natAbs.log2 < 1920) (hs : starEach [e] X.env = (false, eval e X.env) :: starEach [] X.env := by exact bR rfl) :
   cW X CL b (.Call (.Name "str" pp) [e] [] pos) δ (.sh (.str (toString i))) δ1 := fun H Z σ ts vs Q S k =>
 dG (jt Em hg hm boot_str y0.bb (he := hs)) (h H Z σ ts vs _ S fun v H1 Z1 z1 k1 S1 r => by
   rw [r.sc rfl]
   exact ⟨i, rfl, hi, k _ H1 Z1 z1 k1 (S1.push (.str _))⟩)
end
structure Fm (X : Cx) (CL : Str -> Addr) (x : Str) (k n : Nat) {A : Type} (arg : A -> List D) (Pre : A -> Prop) (res : A -> List (Str × T)) : Prop where
 ex : ∃ f fd ps, Mk X.K (CL x) f /\ cV X.prog X.w X.K X.mg X.base iT k f fd ps (spI X.K CL x n arg Pre res) /\ X.mg x = some (.ref (CL x)) /\ Binds X.K fd ps []
 room : gb (k + 1) X.A
def Tr (N : List Str) (y : Addr) (c : Str) (ds : List D) : List (Option T) := some (.pin y (.ins c [])) :: (ds.map (fun d => some (T.sh d)) ++ List.replicate (N.length - (ds.length + 1)) none)
section
variable {X : Cx} {CL : Str -> Addr} {b : Bx} {δ δ1 δ2 : List (Option T)} {e e1 e2 o : Expr} {es : List Expr} {d : L3.D} {t : T} {i : Nat} {x c m : Str} {pos pp apos : Pos} {D : dN} {fJ : List Stmt} {ds : List L3.D}
theorem mk_ {k n : Nat} {A : Type} {arg : A -> List L3.D} {Pre : A -> Prop} {res : A -> List (Str × T)} (a : A) (F : Fm X CL x k n arg Pre res) (hg : Gl X x) (h : RT X CL b (e :: es) δ (arg a) δ1) (hp : Pre a) (hc : T.cz (res a) = true) (hn : (arg a).length + 1 = n := by rfl)
   (wH : y0.i = false := by decide) (he : starEach y0.ag X.env = (false, eval e X.env) :: starEach es X.env := by exact bR rfl) (hpl : (backTo pos y0.M).any (·.1) = false := by rfl) :
   cW X CL b y0.bO δ (.ins x (res a)) δ1 := by
 obtain ⟨f, fd, ps, M, F1, m, b⟩ := F.ex
 exact Xj a M F1 F.room m b h hn hp hc hg wH he hpl
end
theorem yX {α : Type} {f : Str} {d : α} {fs : List (Str × α)} : ((f, d) :: fs).lookup f = some d := by
 rw [am4, an9]
theorem lZ {α : Type} {f g : Str} {d : α} {fs : List (Str × α)} (h : (f == g) = false) : ((g, d) :: fs).lookup f = fs.lookup f := by
 rw [am4, h]
theorem iX {f : Str} {t : T} : B8 f t [] = [(f, t)] := rfl
theorem cX {f g : Str} {t u : T} {fs : List (Str × T)} (h : ¬ g = f) : B8 f t ((g, u) :: fs) = (g, u) :: B8 f t fs := by
 rw [B8, amg h]
section
variable {X : Cx} {CL : Str -> Addr} {b : Bx} {δ δ1 δ2 : List (Option T)} {e1 e2 : Expr} {x : Str} {pos : Pos} {d : L3.D}
theorem uW (x : Int) : ∀ l : List Int, inV (.int x) (l.map V.int) = decide (x ∈ l)
 | [] => by simp [inV]
 | y :: l => by
   have ih := uW x l
   unfold inV at ih ⊢
   rw [amD, anS, ih]
   by_cases h : y = x
   . subst h; simp [Sv]
   . have h' : ¬ x = y := fun e => h e.symm
     simp [Sv, h, h']
theorem aX.ints {K : PySem.W.Frag} {Z : Hp} : ∀ {l : List Int} {vs : List V}, aX K CL Z (l.map D.int) vs -> vs = l.map V.int
 | [], _, r => by
   have r' : aX K CL Z [] _ := r
   cases r'; rfl
 | y :: l, _, r => by
   have r' : aX K CL Z (D.int y :: l.map D.int) _ := r
   cases r' with
   | cons r1 r2 => rw [r1.sc rfl, aX.ints r2]; rfl
theorem iY : ∀ l : List Int, (l.map V.int).all sX = true
 | [] => rfl
 | y :: l => by rw [amD, aox, iY l]; rfl
def zT (d : L3.D) : Option (List L3.D) := match d with
 | .lst ds => some ds
 | .tup ds => some ds
 | _ => none
theorem cy.zT {K : PySem.W.Frag} {Z : Hp} {v : V} {ds : List L3.D} (r : cy K CL Z d v) (h : L3.zT d = some ds) : ∃ p us, v = .ref p /\ (qk K Z p us \/ uM K Z p us) /\ aX K CL Z ds us := by
 cases r with
 | tup hq rr => cases h; exact ⟨_, _, rfl, .inr hq, rr⟩
 | lst hq rr => cases h; exact ⟨_, _, rfl, .inl hq, rr⟩
 | non => cases h
 | bl => cases h
 | int => cases h
 | str => cases h
 | any => cases h
 | val => cases h
 | kZ => cases h
 | dct => cases h
 | ins => cases h
theorem rV {l : List Int} {i : Int} (h1 : d9 X CL b e1 δ (.int i) δ1) (h2 : d9 X CL b e2 δ1 d δ2) (hd : L3.zT d = some (l.map .int)) (hm : behindInMarks .In e2 = false) :
   yf X CL b (.Compare e1 [.In] [e2] pos) δ (decide (i ∈ l)) δ2 /\ cW X CL b (.Compare e1 [.In] [e2] pos) δ (.sh (.bl (decide (i ∈ l)))) δ2 := by
 constructor
 . intro H Z σ ts vs Q S k
   refine HG (yR Dt eS eS hm) (h1 H Z σ ts vs _ S fun v1 H1 Z1 z1 k1 S1 r1 => h2 H1 Z1 σ ts vs _ S1 fun v2 H2 Z2 z2 k2 S2 r2 => ?_)
   obtain ⟨p, us, rfl, hq, rr⟩ := cy.zT r2 hd
   have e := rr.ints
   subst e
   refine ⟨_, _, rfl, hq, by rw [r1.sc rfl]; rfl, iY l, _, rfl, ?_⟩
   rw [amg amE, r1.sc rfl, uW]
   exact k H2 Z2 y0.F y0.S S2
 . intro H Z σ ts vs Q S k
   refine dG (yQ Dt eS eS hm) (h1 H Z σ ts vs _ S fun v1 H1 Z1 z1 k1 S1 r1 => h2 H1 Z1 σ ts vs _ S1 fun v2 H2 Z2 z2 k2 S2 r2 => ?_)
   obtain ⟨p, us, rfl, hq, rr⟩ := cy.zT r2 hd
   have e := rr.ints
   subst e
   refine ⟨_, _, rfl, hq, by rw [r1.sc rfl]; rfl, iY l, ?_⟩
   rw [amg amE, r1.sc rfl, uW]
   exact k _ H2 Z2 y0.F y0.S (S2.push (.bl _))
theorem yZ {l : List Int} {i : Int} (h1 : d9 X CL b e1 δ (.int i) δ1) (h2 : d9 X CL b e2 δ1 d δ2) (hd : L3.zT d = some (l.map .int)) (hm : behindInMarks .NotIn e2 = false) :
   yf X CL b (.Compare e1 [.NotIn] [e2] pos) δ (!decide (i ∈ l)) δ2 /\ cW X CL b (.Compare e1 [.NotIn] [e2] pos) δ (.sh (.bl (!decide (i ∈ l)))) δ2 := by
 constructor
 . intro H Z σ ts vs Q S k
   refine HG (yR kK eS eS hm) (h1 H Z σ ts vs _ S fun v1 H1 Z1 z1 k1 S1 r1 => h2 H1 Z1 σ ts vs _ S1 fun v2 H2 Z2 z2 k2 S2 r2 => ?_)
   obtain ⟨p, us, rfl, hq, rr⟩ := cy.zT r2 hd
   have e := rr.ints
   subst e
   refine ⟨_, _, rfl, hq, by rw [r1.sc rfl]; rfl, iY l, _, rfl, ?_⟩
   rw [aml rfl, r1.sc rfl, uW]
   exact k H2 Z2 y0.F y0.S S2
 . intro H Z σ ts vs Q S k
   refine dG (yQ kK eS eS hm) (h1 H Z σ ts vs _ S fun v1 H1 Z1 z1 k1 S1 r1 => h2 H1 Z1 σ ts vs _ S1 fun v2 H2 Z2 z2 k2 S2 r2 => ?_)
   obtain ⟨p, us, rfl, hq, rr⟩ := cy.zT r2 hd
   have e := rr.ints
   subst e
   refine ⟨_, _, rfl, hq, by rw [r1.sc rfl]; rfl, iY l, ?_⟩
   rw [aml rfl, r1.sc rfl, uW]
   exact k _ H2 Z2 y0.F y0.S (S2.push (.bl _))
theorem Xo {l : List Str} (h1 : d9 X CL b e1 δ (.str x) δ1) (h2 : d9 X CL b e2 δ1 d δ2) (hd : L3.zT d = some (l.map .str)) (hm : behindInMarks .NotIn e2 = false) :
   yf X CL b (.Compare e1 [.NotIn] [e2] pos) δ (!decide (x ∈ l)) δ2 /\ cW X CL b (.Compare e1 [.NotIn] [e2] pos) δ (.sh (.bl (!decide (x ∈ l)))) δ2 := by
 constructor
 . intro H Z σ ts vs Q S k
   refine HG (yR kK eS eS hm) (h1 H Z σ ts vs _ S fun v1 H1 Z1 z1 k1 S1 r1 => h2 H1 Z1 σ ts vs _ S1 fun v2 H2 Z2 z2 k2 S2 r2 => ?_)
   obtain ⟨p, us, rfl, hq, rr⟩ := cy.zT r2 hd
   have e := rr.strs
   subst e
   refine ⟨_, _, rfl, hq, by rw [r1.sc rfl]; rfl, pB l, _, rfl, ?_⟩
   rw [aml rfl, r1.sc rfl, EB]
   exact k H2 Z2 y0.F y0.S S2
 . intro H Z σ ts vs Q S k
   refine dG (yQ kK eS eS hm) (h1 H Z σ ts vs _ S fun v1 H1 Z1 z1 k1 S1 r1 => h2 H1 Z1 σ ts vs _ S1 fun v2 H2 Z2 z2 k2 S2 r2 => ?_)
   obtain ⟨p, us, rfl, hq, rr⟩ := cy.zT r2 hd
   have e := rr.strs
   subst e
   refine ⟨_, _, rfl, hq, by rw [r1.sc rfl]; rfl, pB l, ?_⟩
   rw [aml rfl, r1.sc rfl, EB]
   exact k _ H2 Z2 y0.F y0.S (S2.push (.bl _))
end
section
variable {X : Cx} {CL : Str -> Addr} {b : Bx} {δ δ1 δ2 : List (Option T)} {e : Expr} {es : List Expr} {d : L3.D} {ds : List L3.D} {t : T} {i : Nat} {x : Str} {pos pp : Pos} {DD : dN} {fJ : List Stmt}
theorem bE : PN X CL b [] δ (([] : List L3.D).map T.sh) δ := b9
theorem aG (h1 : cW X CL b e δ (.sh d) δ1) (h2 : PN X CL b es δ1 (ds.map T.sh) δ2) (hs : starEach (e :: es) X.env = (false, eval e X.env) :: starEach es X.env := by exact bR rfl) : PN X CL b y0.ag δ ((d :: ds).map T.sh) δ2 := bu h1 h2 hs
theorem kM (h : PN X CL b es δ (ds.map T.sh) δ1) (hl : ds.length <= sizeLine) : cW X CL b (.List es pos) δ (.lst (ds.map T.sh)) δ1 := cL h (by simpa using hl)
theorem lg (l : List Str) : D.cI (l.map L3.D.str) = true := dm y0.bC _
theorem y9 (h : cW X CL b e δ (.lst (ds.map T.sh)) δ1) : cW X CL b e δ (.sh (.lst ds)) δ1 := by
 have := KS h
 rwa [T.eF, kL] at this
theorem mh (h : cW X CL b e δ t δ1) (q : t.eF = d) : cW X CL b e δ (.sh d) δ1 := q ▸ KS h
theorem gU {d2 : L3.D} (h : d9 X CL b e δ d δ1) (q : d = d2) : d9 X CL b e δ d2 δ1 := q ▸ h
theorem bz {t2 : T} (h : cW X CL b e δ t δ1) (q : t = t2) : cW X CL b e δ t2 δ1 := q ▸ h
end
structure EC (Z H Z' H' : Hp) : Prop where
 z : aQ Z Z'
 h : aQ H H'
 zh : aQ Z' H'
 new : ∀ a o, Z' a = some o -> Z a = none -> H a = none
 tp : ∀ a o, H' a = some o -> jY o = true -> Z' a = some o
theorem EC.refl {Z H : Hp} (zh : aQ Z H) (tp : ∀ a o, H a = some o -> jY o = true -> Z a = some o) : EC Z H Z H := ⟨.refl _, .refl _, zh, fun a o q z => (by rw [q] at z; cases z), tp⟩
theorem EC.tup {Z H : Hp} {p : Addr} {xs : List V} (zh : aQ Z H) (tp : ∀ a o, H a = some o -> jY o = true -> Z a = some o) (hp : H p = none) : EC Z H (upd Z p (.tup xs)) (upd H p (.tup xs)) := by
 have zp : Z p = none := zh.free hp
 refine ⟨aQ.upd zp, aQ.upd hp, fun a o q => ?_, fun a o q z => ?_, fun a o q i => ?_⟩
 . by_cases e : a = p
   . subst e; rw [bw] at q ⊢; exact q
   . rw [aO e] at q ⊢; exact zh a o q
 . by_cases e : a = p
   . subst e; exact hp
   . rw [aO e, z] at q; cases q
 . by_cases e : a = p
   . subst e; rw [bw] at q ⊢; exact q
   . rw [aO e] at q ⊢; exact tp a o q i
section
variable {K : PySem.W.Frag} {CL : Str -> Addr} {b : Bx} {H H' Z Z' : Hp} {δ : List (Option T)} {σ : L2.St} {ts : List T} {vs : List V}
theorem cj.grow (S : cj K CL b H Z δ σ ts vs) (g : EC Z H Z' H') : cj K CL b H' Z' δ σ ts vs := by
 obtain ⟨fp, gp, e, r, nd, k⟩ := S.rep
 have old : ∀ a ∈ fp ++ gp, ∃ o, H a = some o := fun a ha => (amx.mp ha).elim (e.there a) (r.there a)
 have keep : ∀ a ∈ fp ++ gp, H' a = H a := fun a ha => by
   obtain ⟨o, q⟩ := old a ha
   rw [q]; exact g.h a o q
 refine ⟨⟨fp, gp, e.mono g.z (fun a ha => keep a (amw _ ha)), r.mono g.z (fun a ha => keep a (ami _ ha)), nd, fun a ha => ⟨?_, (k a ha).2⟩⟩, S.bh.trans g.h, S.zz.trans g.z, g.zh, fun a o q z => ?_, g.tp, S.tab⟩
 . cases q : Z' a with
   | none => rfl
   | some o =>
     obtain ⟨u, hu⟩ := old a ha
     rw [g.new a o q (k a ha).1] at hu; cases hu
 . cases e2 : Z a with
   | none => exact S.bh.free (g.new a o q e2)
   | some u =>
     have := g.z a u e2
     rw [q] at this; cases this
     exact S.new a o e2 z
def N6 (δ : List (Option T)) : List Nat -> List D -> List (Option T)
 | i :: is, d :: ds => N6 (δ.set i (some (.sh d))) is ds
 | _, _ => δ
def zU (σ : L2.St) : List Nat -> List V -> L2.St
 | i :: is, v :: vs => zU (σ.set i (some v)) is vs
 | _, _ => σ
theorem cj.sets {ps : List D} {ys : List V} : ∀ {is : List Nat} {δ : List (Option T)} {σ : L2.St}, cj K CL b H Z δ σ ts vs -> aX K CL Z ps ys -> (∀ i ∈ is, i < δ.length) -> cj K CL b H Z (N6 δ is ps) (zU σ is ys) ts vs := by
 intro is
 induction is generalizing ps ys with
 | nil =>
   intro δ σ S r _
   cases ps <;> cases ys <;> exact S
 | cons i is ih =>
   intro δ σ S r hl
   cases r with
   | nil => exact S
   | cons r rr => exact ih ((S.push r).set (hl i amj)) rr (fun j hj => by rw [List.length_set]; exact hl j (amn _ hj))
end
section
variable {X : Cx} {CL : Str -> Addr} {b : Bx} {δ δ1 : List (Option T)} {ds : List D} {iter tg : Expr} {pos : Pos}
structure ED (X : Cx) (CL : Str -> Addr) (b : Bx) (δ1 : List (Option T)) (σ : L2.St) (ts : List T) (vs : List V) (Z H : Hp) (ds : List D) (J : It) (H1 : Hp) : Prop where
 ex : ∃ Z1, aQ Z Z1 /\ aQ H H1 /\ cj X.K CL b H1 Z1 δ1 σ ts vs /\ (∀ i H2, aQ Z1 H2 -> i < ds.length -> J.go i H2) ∧
   (∀ i Z2 H2 x H', aQ Z1 Z2 -> aQ Z2 H2 -> (∀ a o, H2 a = some o -> jY o = true -> Z2 a = some o) -> i < ds.length -> J.yld i H2 x H' -> ∃ Z3 d, ds[i]? = some d /\ EC Z2 H2 Z3 H' /\ cy X.K CL Z3 d x) /\ (∀ H2, aQ Z1 H2 -> J.stop ds.length H2)
def GIt (X : Cx) (CL : Str -> Addr) (b : Bx) (tg e : Expr) (δ : List (Option T)) (ds : List D) (δ1 : List (Option T)) : Prop :=
 ∃ wi, PI X tg e wi /\ ∀ (H Z : Hp) (σ : L2.St) (ts : List T) (vs : List V) (R : It -> Hp -> Prop), cj X.K CL b H Z δ σ ts vs -> (∀ J H1, ED X CL b δ1 σ ts vs Z H ds J H1 -> R J H1) -> wi σ H R
theorem aax (h : Xb X CL b tg iter δ ds δ1) : GIt X CL b tg iter δ ds δ1 := by
 obtain ⟨wi, pi, hw⟩ := h
 refine ⟨wi, pi, fun H Z σ ts vs R S k => hw H Z σ ts vs R S fun J H1 zz => ?_⟩
 obtain ⟨Z1, us, z1, k1, S1, rr, go, yl, st⟩ := zz
 refine k J H1 ⟨Z1, z1, k1, S1, go, fun i Z2 H2 x H' s1 s2 tp hi hy => ?_, st⟩
 obtain ⟨e, hu⟩ := yl i H2 x H' (s1.trans s2) hi hy
 subst e
 obtain ⟨d, hd, rd⟩ := rr.SV hu
 exact ⟨Z2, d, hd, .refl s2 tp, rd.mono s1⟩
def Tgt (X : Cx) (CL : Str -> Addr) (tg : Expr) (is : List Nat) (parts : D -> Option (List D)) : Prop :=
 ∃ t : TG, PG X tg t /\ ∀ (Z H : Hp) (d : D) (ps : List D) (x : V) (σ : L2.St) (Q : L2.St -> Hp -> Prop), aQ Z H -> cy X.K CL Z d x -> parts d = some ps -> (∀ ys, aX X.K CL Z ps ys -> Q (zU σ is ys) H) -> t x σ H Q
def part1 (d : D) : Option (List D) := some [d]
def part2 : D -> Option (List D)
 | .tup [a, c] => some [a, c]
 | _ => none
theorem PY {d : D} {ps : List D} (h : part2 d = some ps) : ∃ d1 d2, d = .tup [d1, d2] /\ ps = [d1, d2] := by
 unfold part2 at h
 split at h
 . cases h; exact ⟨_, _, rfl, rfl⟩
 . cases h
theorem K5 {K : PySem.W.Frag} {i j : Nat} {Z H : Hp} {d : D} {ps : List D} {x : V} {σ : L2.St} {Q : L2.St -> Hp -> Prop} (zh : aQ Z H) (r : cy K CL Z d x) (e : part2 d = some ps) (k : ∀ ys, aX K CL Z ps ys -> Q (zU σ [i, j] ys) H) : abe K 2 (Hl (x8 i) (Hl (x8 j) abd)) x σ H Q := by
 obtain ⟨d1, d2, rfl, rfl⟩ := PY e
 cases r with
 | tup hq rr =>
   cases rr with
   | cons r1 rr =>
     cases rr with
     | cons r2 rr =>
       cases rr
       exact ⟨_, _, rfl, aQ.HD zh hq, rfl, _, _, rfl, _, _, rfl, rfl, k _ (.cons r1 (.cons r2 .nil))⟩
theorem Tt {i : Nat} {x : Str} {px : Pos} (hN : X.N.Nodup) (n : Ln X i x) : Tgt X CL (.Name x px) [i] part1 :=
 ⟨x8 i, uQ hN n.hi n.loc n.hf, fun Z H d ps x σ Q zh r e k => by
   cases e
   exact k [x] (.cons r .nil)⟩
theorem Xp {i j k : Nat} {x y : Str} {px py pt : Pos} (hN : X.N.Nodup) (hc : X.calm = true) (n : Ln X i x) (m : Ln X j y) (hs : (assignEach [.Name x px, .Name y py] X.env).map (·.2) = assign (.Name x px) X.env :: (assignEach [.Name y py] X.env).map (·.2) := by rfl) (Pa : (assignEach [.Name y py] X.env).map (·.2) = assign (.Name y py) X.env :: (assignEach [] X.env).map (·.2) := by rfl)
   (hn : (assignEach [.Name x px, .Name y py] X.env).length = 2 := by rfl) (qq : (assignEach [.Name x px, .Name y py] X.env).findIdx? (·.1) = none := by rfl) : Tgt X CL (.Tuple [.Name x px, .Name y py] k pt) [i, j] part2 :=
 ⟨abe X.K 2 (Hl (x8 i) (Hl (x8 j) abd)), abf hc (Ho (uQ hN n.hi n.loc n.hf) (Ho (uQ hN m.hi m.loc m.hf) Wz Pa) hs) hn qq, fun Z H d ps x σ Q zh r e k => K5 zh r e k⟩
theorem Xq {D : dN} {fJ : List Stmt} (is : List Nat) (parts : L3.D -> Option (List L3.D)) (P : Nat -> List (Option T) -> Prop) (h : GIt X CL b tg iter δ ds δ1) (ht : Tgt X CL tg is parts) (h0 : P 0 δ1) (hl : ∀ j δ, P j δ -> ∀ i ∈ is, i < δ.length)
   (hs : ∀ j d δ, ds[j]? = some d -> P j δ -> ∃ ps, parts d = some ps /\ fD X CL b fJ (N6 δ is ps) { nx := P (j + 1), rt := D.rt, bk := D.nx, ct := P (j + 1) }) (hd : ∀ δ, P ds.length δ -> D.nx δ)
   (hp : PassesOwn y0.d X.A X.env X.xe) (hc : X.calm = true) (hq : ∀ x, foldedSetIterable iter X.env x = pure x := by intro _; rfl) :
   W3 X CL b (.For tg iter fJ [] pos) δ D := fun H Z σ ts vs E S M => by
 obtain ⟨wi, pi, hw⟩ := h
 obtain ⟨t, pg, ht⟩ := ht
 refine wM (R9 hp hc pi pg RQ hq) (hw H Z σ ts vs _ S fun J H1 zz => ?_)
 obtain ⟨Z1, z1, k1, S1, go, yl, st⟩ := zz
 refine ⟨fun j m σ H2 => m = ds.length - j /\ j <= ds.length /\ ∃ Z2 δ2, aQ Z1 Z2 /\ cj X.K CL b H2 Z2 δ2 σ ts vs /\ P j δ2, ⟨_, rfl, amM _, Z1, δ1, .refl _, S1, h0⟩, ?_⟩
 rintro j m σ H2 ⟨rfl, hj, Z2, δ2, s, S2, p2⟩
 by_cases tV : j < ds.length
 . refine .inr ⟨go j H2 (s.trans S2.zh) tV, fun σ' H' => ∃ Z2 δ2, aQ Z1 Z2 /\ cj X.K CL b H' Z2 δ2 σ' ts vs /\ P (j + 1) δ2, fun σ' H' h => ⟨ds.length - (j + 1), by omega, rfl, tV, h⟩, fun y H' hy => ?_⟩
   obtain ⟨Z3, d, Ww, gr, rd⟩ := yl j Z2 H2 y H' s S2.zh S2.tp tV hy
   obtain ⟨ps, hps, hb⟩ := hs j d δ2 Ww p2
   have S3 := S2.grow gr
   refine ht Z3 H' d ps y σ _ S3.zh rd hps fun ys rys => ?_
   have S4 := S3.sets (is := is) rys (hl j δ2 p2)
   have s3 := s.trans gr.z
   exact hb _ Z3 _ ts vs _ S4 ⟨fun δ' σ' H' Z' s' S' k => ⟨Z', δ', s3.trans s', S', k⟩, fun t v H' Z' δ' σ' s' S' k => M.rt t v H' Z' δ' σ' (z1.trans (s3.trans s')) S' k, fun δ' σ' H' Z' s' S' k => M.nx δ' σ' H' Z' (z1.trans (s3.trans s')) S' k, fun δ' σ' H' Z' s' S' k => ⟨Z', δ', s3.trans s', S', k⟩⟩
 . have e : j = ds.length := by omega
   subst e
   exact .inl ⟨st H2 (s.trans S2.zh), M.nx δ2 σ H2 Z2 (z1.trans s) S2 (hd δ2 p2)⟩
theorem ab2 {D : dN} {body fJ : List Stmt} {is : List Nat} {parts : L3.D -> Option (List L3.D)} (g : Gx X) (ht : Tgt X CL tg is parts) (P : Nat -> List (Option T) -> Prop) (h : GIt X CL b tg iter δ ds δ1) (h0 : P 0 δ1) (hl : ∀ j δ, P j δ -> ∀ i ∈ is, i < δ.length)
   (hs : ∀ j d δ, ds[j]? = some d -> P j δ -> ∃ ps, parts d = some ps /\ fD X CL b body (N6 δ is ps) { nx := P (j + 1), rt := D.rt, bk := fun δ2 => fD X CL b fJ δ2 D, ct := P (j + 1) }) (hd : ∀ δ, P ds.length δ -> fD X CL b fJ δ D) (hq : ∀ x, foldedSetIterable iter X.env x = pure x := by intro _; rfl) :
   fD X CL b (.For tg iter body [] pos :: fJ) δ D :=
 dZ (Xq (D := { D with nx := fun δ1 => fD X CL b fJ δ1 D }) is parts P h ht h0 hl hs hd g.xe g.calm hq)
end
structure qC (X : Cx) (scope : Scope) (xs : List Str) (Nc : List Str) (ix : List Nat) : Prop where
 kind : scope.kind = .function
 wO : ∀ y ∈ scope.names, y.2 ≠ .cell
 nd : Nc.Nodup
 names : ∀ y ∈ scope.names, y.2 = .local -> scope.names.lookup y.1 = some .local
 own : ∀ x ∈ xs, scope.names.lookup x = some .local
 frees : ∀ y ∈ scope.names, y.2 = .free -> scope.names.lookup y.1 = some .free /\ (X.env.kindOf y.1 = some .cell \/ X.env.kindOf y.1 = some .free)
 hd : Nc = xs ++ ix.filterMap (X.N[·]?)
 ixs : ∀ i ∈ ix, ∃ y, X.N[i]? = some y /\ scope.names.lookup y = some .free
def PZ (σ : L2.St) (ix : List Nat) (os : List (Option V)) : L2.St := os ++ ix.map fun i => (σ[i]?).getD none
section
variable {X : Cx} {scope : Scope} {xs : List Str} {Nc : List Str} {ix : List Nat} {pins : List (Addr × Obj)} {σ : L2.St} {H : Hp} {s : Shared}
theorem HS {fp : List Addr} (sc : qC X scope xs Nc ix) (I : Inv X pins σ H s) (uO : ∀ b ∈ fp, kJ X pins H b /\ b < s.heap.objs.size) {h' : Heap} {m : Str -> Option Value} {tk : Nat}
   (hn : h'.Ns s.heap.objs.size m) (hk : ∀ b o, s.heap.get? b = some o -> h'.get? b = some o) :
   Inv (eL X scope Nc s.heap.objs.size s H fp) [] (PZ σ ix (List.replicate xs.length none)) H { s with heap := h', toks := tk } := by
 have frees : ∀ y ∈ scope.names, y.2 = .free -> ∃ c, X.env.cells.lookup y.1 = some c := fun y hy e => I.ok.has y.1 (sc.frees y hy e).2
 have sub : ∀ {y : Str} {c : Addr}, (dO X.env scope.names []).lookup y = some c -> X.env.cells.lookup y = some c := fun {y c} e => oZ frees (fun _ _ z => by cases z) e
 have hlen : (PZ σ ix (List.replicate xs.length none)).length = Nc.length := by
   have all : ∀ l : List Nat, (∀ i ∈ l, ∃ y, X.N[i]? = some y /\ scope.names.lookup y = some .free) -> (l.filterMap (X.N[·]?)).length = l.length := by
     intro l
     induction l with
     | nil => intro _; rfl
     | cons i r ih =>
       intro h
       obtain ⟨y, e, _⟩ := h i amj
       rw [anq, e]
       show _ + 1 = _ + 1
       rw [ih fun j hj => h j (amn _ hj)]
   unfold PZ
   rw [sc.hd, amv, amv, amh, ane, all ix sc.ixs]
 have C0 : s.heap.get? s.heap.objs.size = none := Heap.get?_none_of_le (amo _)
 refine ⟨⟨I.ok.mod, sc.kind, I.ok.glob, I.ok.blt, amo _, fun y z c h1 h2 => I.ok.inj y z c (sub h1) (sub h2), fun y hy => ?_, fun y c hf _ => (by cases (show false = true from hf)), I.ok.hd, I.ok.frames, .inl rfl, fun b hb => ⟨amX (uO b hb).2, fun y c e => (uO b hb).1.2.2.2.2.1 y c (sub e)⟩, I.bs, anB I.ok.RN I.sz, fun b o e hb => ?_, fun b hb hf => ?_, I.stack, I.yO⟩,
   rfl, I.bare, Un.kept hk, ⟨m, hn, fun i y v h1 h2 h3 => ?_⟩, fun y c e => ?_, I.dM.fresh (amo _), fun y c e => I.jX y c (sub e), fun p hp => absurd y0.cd y0.C, I.dM.kept hk, hlen⟩
 . 
   have hy' : (relabel scope X.env).names.lookup y = some .cell \/ (relabel scope X.env).names.lookup y = some .free := hy
   cases e : scope.names.lookup y with
   | none => 
     have := kD (env := X.env) e
     rcases hy' with q | q <;> (rw [show (relabel scope X.env).names.lookup y = none from this] at q; cases q)
   | some k =>
     have q := gw (env := X.env) e
     have hk : k = .free := by
       by_cases hk : k = .free
       . exact hk
       . have hb : (k == NameKind.free) = false := by simpa using hk
         rw [amg (by rw [hb]; simp)] at q
         have nc : k ≠ .cell := fun z => by
           subst z
           exact sc.wO _ (anv e) rfl
         rcases hy' with z | z
         . rw [show (relabel scope X.env).names.lookup y = some k from q] at z
           exact absurd (amK z) nc
         . rw [show (relabel scope X.env).names.lookup y = some k from q] at z
           exact absurd (amK z) hk
     subst hk
     exact k8 e
 . 
   rcases (uO b hb).1.2.2.2.1 with z | z
   . exact I.ok.Kq b o e z
   . exact absurd (am0 (amG e) (anB I.ok.RN z)) (aoj _)
 . rcases amt.mp (I.Ej b hf) with z | z
   . exact (uO b hb).1.2.1 z
   . exact (uO b hb).1.2.2.1 z
 . 
   unfold PZ at h2
   by_cases hi : i < xs.length
   . rw [aol (by rw [ane]; exact hi), aob, aml hi] at h2
     cases h2
   . obtain ⟨n, rfl⟩ : ∃ n, i = xs.length + n := ⟨i - xs.length, by omega⟩
     rw [anM (by rw [ane]; omega), ane, Nat.add_sub_cancel_left, amT] at h2
     cases ei : ix[n]? with
     | none => rw [ei] at h2; cases h2
     | some j =>
       rw [ei] at h2
       have Tv : (σ[j]?).getD none = some v := amK h2
       have hj : σ[j]? = some (some v) := by
         cases q : σ[j]? with
         | none => rw [q] at Tv; cases Tv
         | some o => rw [q] at Tv; exact congrArg some Tv
       obtain ⟨y', hy1, hy2⟩ := sc.ixs j (anb ei)
       have hNc : Nc[xs.length + n]? = some y' := by
         have all : ∀ (l : List Nat) (i : Nat), (∀ j ∈ l, ∃ y, X.N[j]? = some y /\ scope.names.lookup y = some .free) -> l[i]? = some j -> (l.filterMap (X.N[·]?))[i]? = some y' := by
           intro l
           induction l with
           | nil => intro i _ h; simp at h
           | cons a r ih =>
             intro i h hi
             obtain ⟨ya, ea, _⟩ := h a amj
             rw [anq, ea]
             cases i with
             | zero =>
               simp at hi
               subst hi
               rw [hy1] at ea
               cases ea
               rfl
             | succ i => exact ih i (fun j hj => h j (List.mem_cons_of_mem _ hj)) y0.aC
         rw [sc.hd, anM y0.b, Nat.add_sub_cancel_left]
         exact all ix n sc.ixs ei
       have ey : y' = y := by
         have h1' : Nc[xs.length + n]? = some y := h1
         rw [hNc] at h1'
         exact amK h1'
       subst ey
       have zL := (sc.frees (y', .free) (anv hy2) rfl).2
       have ab4 : Vis X.env.scope y' := zL.elim (fun z => .inr (.inl z)) (fun z => .inr (.inr z))
       obtain ⟨m0, hn0, hl0⟩ := I.loc
       obtain ⟨u, ru, lk⟩ := hl0 j y' v hy1 hj ab4
       refine ⟨u, ru, ?_⟩
       rcases lk with ⟨kk, _⟩ | ⟨_, c, hc, x6⟩
       . rcases zL with z | z
         . rw [kk] at z; cases z
         . rw [kk] at z; cases z
       . obtain ⟨c', R4⟩ := k8 (env := X.env) (cs := []) hy2
         have : c' = c := by
           have := sub R4
           rw [hc] at this
           exact (amK this).symm
         subst this
         obtain ⟨o, ho, hd⟩ := x6
         refine .inr ⟨?_, c', R4, o, hk _ _ ho, hd⟩
         have q := gw (env := X.env) hy2
         show (relabel scope X.env).names.lookup y' = some .cell \/ (relabel scope X.env).names.lookup y' = some .free
         rw [show (relabel scope X.env).names.lookup y' = _ from q]
         split
         . exact .inl rfl
         . exact .inr rfl
 . obtain ⟨v, o, ho, hd⟩ := I.cell y c (sub e)
   exact ⟨v, o, hk _ _ ho, hd⟩
def Tw (X : Cx) (tg elt : Expr) (ifs : List Expr) (n : Nat) (σ : L2.St) (ix : List Nat) (D : Addr) (N : Hp -> Prop) (xv : V) (os : List (Option V)) (H3 : Hp) : Prop :=
 ∃ t : TG, PG X tg t /\ t xv (PZ σ ix os) H3 fun σ8 H4 => ∃ os', os'.length = n /\ σ8 = PZ σ ix os' /\ abU X ifs σ8 H4 fun ok H5 =>
   if ok = true then zN X elt σ8 H5 fun y H6 => ∃ acc, H6 D = some (.lst acc) /\ acc.length < sizeLine /\ N (upd H6 D (.lst (acc ++ [y]))) else N H5
theorem K6 {elt iter tg : Expr} {pos : Pos} {ifs : List Expr} {J : It} {fp : List Addr} {it : Addr} {tn : Nat -> Heap -> Prop} {G : Addr -> Hp -> Prop} {RR : Value -> Addr -> Result -> Shared -> Prop} {E : Value -> Shared -> Prop}
   (sc : qC X scope xs Nc ix) (hc : X.calm = true) (I : Inv X pins σ H s) (Tn : Turn X.prog X.w X.K tg J fp it tn) (st : tn 0 s.heap) (hf : ∀ b ∈ fp, kJ X pins H b)
   (loop : ∀ D, H D = none -> ∃ W : Nat -> Nat -> Hp -> Prop, (∃ m, W 0 m (upd H D (.lst []))) /\ ∀ i m H2, W i m H2 -> (J.stop i H2 /\ G D H2) ∨
     (J.go i H2 /\ ∃ N : Hp -> Prop, (∀ H', N H' -> ∃ m', m' < m /\ W (i + 1) m' H') /\ ∀ xv H3, J.yld i H2 xv H3 -> ∀ C s0 H0 f0 os, os.length = xs.length -> Tw y0.ao tg elt ifs xs.length σ ix D N xv os H3))
   (hRR : ∀ D C s' H', (∃ m, s'.heap.Ns C m) -> (∃ o, s'.heap.get? C = some o /\ ∀ v, o.data ≠ .cell v) -> H' C = none -> (C ≠ X.env.locals /\ C ∉ X.fs /\ X.s₀.heap.objs.size <= C /\ (∀ y c, X.env.cells.lookup y = some c -> c ≠ C) /\ ∀ q ∈ X.pn ++ pins, q.1 ≠ C) -> (∀ h', Heap.SameBut C s'.heap h' -> Inv X pins σ H' { s' with heap := h' }) -> G D H' -> RR (.ref D) C (.ok .next) s') :
   wpAny y0.d X.A (newList []) (fun acc s₃ => wpAny y0.d X.A (newFunctionEnv scope X.env.globals y0.v [] X.env.qual none .none (some X.env)) (fun Tz s₄ =>
     codeAny y0.d X.A (.compStart y0.A 0 (.ref it) acc { Tz with scope := relabel scope X.env }) (RR acc Tz.locals) s₄) E s₃) E s := by
 refine wpAny_newObj_type ?_
 have I3 : Inv X pins σ (upd H s.heap.objs.size (.lst [])) { s with heap := s.heap.push { cls := .type "list", dict := none, data := .seq ([] : List Value).toArray } } :=
   I.laid (t' := s.toks) (fun b u e => amy _ e) (amo _) ⟨by show 0 <= sizeLine; exact amM _, [], 0, .nil, amY _ rfl⟩
 have hD : H s.heap.objs.size = none := I.dM.fresh (amo _)
 obtain ⟨W, ⟨m0, w0⟩, turn⟩ := loop _ hD
 have TF : ∀ b ∈ fp, kJ X pins (upd H s.heap.objs.size (.lst [])) b /\ b < (s.heap.push { cls := .type "list", dict := none, data := .seq ([] : List Value).toArray }).objs.size := fun b hb => by
   obtain ⟨f0, f1⟩ := hf b hb
   obtain ⟨o, ho, _⟩ := Tn.obj 0 _ st b hb
   have tV := amG ho
   refine ⟨⟨by rw [aO (amX tV)]; exact f0, f1⟩, ?_⟩
   rw [Heap.size_push]; exact Nat.lt_succ_of_lt tV
 have st3 : tn 0 (s.heap.push { cls := .type "list", dict := none, data := .seq ([] : List Value).toArray }) := Tn.keep 0 _ _ st fun b _ o e => amy _ e
 generalize hs3 : ({ s with heap := s.heap.push { cls := .type "list", dict := none, data := .seq ([] : List Value).toArray } } : Shared) = s3 at I3 ⊢
 have hh3 : s3.heap = s.heap.push { cls := .type "list", dict := none, data := .seq ([] : List Value).toArray } := by rw [← hs3]
 rw [← hh3] at TF st3
 refine wpAny_newFunctionEnv sc.wO (by intro y hy; simp at hy) (fun h₁ ab6 ab7 => ?_) sc.kind
 have old : ∀ b o, s3.heap.get? b = some o -> h₁.get? b = some o := fun b o e => (ab7.2 b (amX (amG e))).trans (amy _ e)
 have J0 := HS (tk := s3.toks + ([] : List (Str × Value)).length) sc I3 TF ab6 old
 have st4 : tn 0 h₁ := Tn.keep 0 _ _ st3 fun b _ o e => old b o e
 have aaz : ∀ s4 : Shared, s4 = { s3 with heap := h₁, toks := s3.toks + ([] : List (Str × Value)).length } -> codeAny y0.d X.A (.compLoop y0.A 0 (.ref it) y0.aI (compEnvC scope y0.v s3.heap.objs.size X.env)) (RR y0.aI s3.heap.objs.size) s4 := by
   rintro s4 rfl
   have stat : ∀ {H' : Hp}, (∀ b ∈ fp, H' b = none) -> ∀ b ∈ fp, kJ y0.l [] H' b := fun {H'} hn b hb => by
     obtain ⟨⟨f0, f1, f2, f3, f4, f5⟩, tV⟩ := TF b hb
     refine ⟨hn b hb, amX tV, fun z => ?_, .inl hb, fun y c e => f4 y c (oZ (fun y hy e => I.ok.has y.1 (sc.frees y hy e).2) (fun _ _ z => by cases z) e), fun p hp => absurd y0.cd y0.C⟩
     rcases amt.mp (I3.Ej b z) with q | q
     . exact f1 q
     . exact f2 q
   refine Ey (fun n s' => ∃ i o H', o.length = xs.length /\ Inv y0.l [] (PZ σ ix o) H' s' /\ tn i s'.heap /\ (∀ b ∈ fp, H' b = none) /\ W i n H') ?_ m0 ⟨0, _, _, ane, J0, st4, fun b hb => (TF b hb).1.1, w0⟩
   rintro n s5 ⟨i, o5, H5, ol5, I5, st5, fr5, w5⟩
   rcases turn i n H5 w5 with ⟨stop, g⟩ | ⟨go, N, hN, step⟩
   . refine fu (Tn.done y0.l rfl rfl rfl hc i [] s5 _ H5 _ I5 (stat fr5) st5 stop) fun r s6 zz => ?_
     obtain ⟨hr, I6⟩ := zz
     subst hr
     obtain ⟨m6, hn6, _⟩ := I6.loc
     obtain ⟨oc, esc, epc, Wm, Xr, _⟩ := id hn6
     have fpC := I3.El (amo s3.heap.objs.size) (H' := fun _ => none) rfl
     refine hRR _ _ s6 H5 ⟨m6, hn6⟩ ⟨oc, Wm, fun v z => by rw [Xr] at z; cases z⟩ I6.free ⟨fpC.2.1, fpC.2.2.1, ?_, fpC.2.2.2.2.1, fpC.2.2.2.2.2⟩ (fun h' hs' => PR I3 (fun b hb => (TF b hb).1) I6 hs') g
     exact I3.sz
   . refine fu (Tn.item y0.l rfl rfl rfl hc i [] s5 _ H5 _ I5 (stat fr5) st5 go) fun r s6 zz => ?_
     obtain ⟨u, hr, h6⟩ := zz
     subst hr
     refine fu h6 fun _ s7 zz => ?_
     obtain ⟨xv, H7, I7, r7, y7, st7, fr7⟩ := zz
     have I7' := I7.pinned (stat fr7) (Tn.obj _ _ st7)
     obtain ⟨t, hg, ht⟩ := step xv _ y7 s3.heap.objs.size s3 (upd H s.heap.objs.size (.lst [])) fp o5 ol5
     refine fu (hg _ s7 _ H7 xv u _ I7' r7 ht) fun _ s8 zz => ?_
     obtain ⟨σ8, H8, I8, os8, ol8, e8, h8⟩ := zz
     subst e8
     refine fu (S9 I8 h8 rfl) fun ok s9 zz => ?_
     obtain ⟨H9, I9, q9⟩ := zz
     have again : ∀ {Ha : Hp} {sa : Shared}, Inv y0.l ([] ++ zI fp s7.heap) (PZ σ ix os8) Ha sa -> N Ha -> ∃ m, m < n /\ ∃ i o H', o.length = xs.length /\ Inv y0.l [] (PZ σ ix o) H' sa /\ tn i sa.heap /\ (∀ b ∈ fp, H' b = none) /\ W i m H' := fun {Ha sa} Ia na => by
       obtain ⟨m', hm, wa⟩ := hN Ha na
       refine ⟨m', hm, i + 1, os8, Ha, ol8, Ia.qu, Tn.keep _ _ _ st7 fun b hb o e => (Ia.pin (b, o) (ami _ (ami _ (jr hb e)))).1, fun b hb => ?_, wa⟩
       obtain ⟨o, e, d⟩ := Tn.obj _ _ st7 b hb
       exact (Ia.pin (b, o) (ami _ (ami _ (jr hb e)))).2.1
     cases ok with
     | false =>
       rw [amg amE] at q9 ⊢
       exact again I9 q9
     | true =>
       rw [aml rfl] at q9 ⊢
       refine fu (q9 _ s9 I9) fun v sa zz => ?_
       obtain ⟨y, Ha, Ia, ra, acc, ah5, hlen, na⟩ := zz
       refine fu (Du (X := eL X scope Nc s3.heap.objs.size s3 (upd H s.heap.objs.size (.lst [])) fp) _ sa _ Ha y0.aI [y] y0.aI [v] (fun _ Hb => Hb = upd Ha s.heap.objs.size (.lst (acc ++ [y]))) Ia rfl (.cons ra .nil) ⟨_, acc, y, rfl, rfl, ah5, hlen, rfl⟩) fun _ sb zz => ?_
       obtain ⟨_, Hb, Ib, _, eb⟩ := zz
       subst eb
       exact again Ib na
 exact codeAny_compStart_list (aaz _ rfl) (Tn.self _ 0 _ _ _ st4 (aaz _ rfl))
end
def P0 (ps : List D) : List (Option T) := ps.map fun p => some (.sh p)
theorem DC : ∀ {ys : List V} {os : List (Option V)} {pre r : L2.St}, os.length = ys.length -> zU (pre ++ (os ++ r)) (List.range' pre.length ys.length) ys = pre ++ (ys.map some ++ r)
 | [], os, pre, r, h => by
   have : os = [] := List.length_eq_zero_iff.mp h
   subst this
   rfl
 | y :: ys, os, pre, r, h => by
   match os, h with
   | o :: os, h =>
     show zU ((pre ++ (o :: (os ++ r))).set pre.length (some y)) (List.range' (pre.length + 1) ys.length) ys = _
     rw [List.set_append_right _ _ (amo _), Nat.sub_self, List.set_cons_zero]
     have := DC (ys := ys) (os := os) (pre := pre ++ [some y]) (r := r) (by simpa using h)
     simp only [amv, amB, anP, amr, List.singleton_append] at this
     rw [this]
     simp
theorem Xs {K : PySem.W.Frag} {CL : Str -> Addr} {H Z : Hp} : ∀ {ps : List D} {ys : List V} {δc : List (Option T)} {σc : L2.St}, aX K CL Z ps ys -> gf K CL H Z δc σc [] -> gf K CL H Z (P0 ps ++ δc) (ys.map some ++ σc) [] := fun {ps ys δc σc} h e =>
 aX.ind (P := fun ps ys => gf K CL H Z (P0 ps ++ δc) (ys.map some ++ σc) []) e (fun r _ i => .cons (fp := []) (gp := []) (.sh r) i) h
section
variable {X : Cx} {CL : Str -> Addr} {b : Bx} {H Z W1 : Hp} {δ δc : List (Option T)} {σ : L2.St} {ts : List T} {vs : List V} {ds : List D} {scope : Scope} {Nc : List Str} {n : Nat} {ix : List Nat} {elt tg : Expr} {ifs : List Expr} {p : D -> Bool} {g : D -> T} {J : It} {parts : D -> Option (List D)}
def wW (X : Cx) (CL : Str -> Addr) (scope : Scope) (Nc : List Str) (n : Nat) (tg : Expr) (parts : D -> Option (List D)) (ifs : List Expr) (elt : Expr) (δc : List (Option T)) (ds : List D) (p : D -> Bool) (g : D -> T) : Prop :=
 ∀ C s0 H0 f0 b', Tgt y0.ao CL tg (List.range' 0 n) parts /\ ∀ d, d ∈ ds -> ∃ ps, parts d = some ps /\ ps.length = n /\ TIv y0.ao CL b' ifs (P0 ps ++ δc) (p d) /\ (p d = true -> cW y0.ao CL b' elt (P0 ps ++ δc) (g d) (P0 ps ++ δc))
structure GW (K : PySem.W.Frag) (CL : Str -> Addr) (H W1 : Hp) (D : Addr) (l : List T) (k : Nat) (H2 Z2 : Hp) (Kl : List V) (fp : List Addr) : Prop where
 a1 : aQ H H2
 a2 : aQ W1 Z2
 a3 : aQ Z2 H2
 a4 : Z2 D = none
 a5 : ∀ a o, Z2 a = some o -> W1 a = none -> H a = none
 a6 : ∀ a o, H2 a = some o -> jY o = true -> Z2 a = some o
 a7 : H2 D = some (.lst Kl)
 a8 : bI K CL H2 Z2 l Kl fp
 a9 : fp.Nodup
 b1 : D ∉ fp
 b2 : ∀ a ∈ fp, Z2 a = none /\ H a = none
 b3 : Kl.length <= k
theorem zV (S : cj X.K CL b H Z δ σ ts vs) (zw : aQ Z W1) (wh : aQ W1 H) (tp : ∀ a o, H a = some o -> jY o = true -> W1 a = some o)
   (cap : ∀ H', gf X.K CL H' W1 δc (ix.map fun i => (σ[i]?).getD none) []) (inner : wW X CL scope Nc n tg parts ifs elt δc ds p g)
   (hgo : ∀ i H2, aQ W1 H2 -> i < ds.length -> J.go i H2)
   (hy : ∀ i Z2 H2 x H', aQ W1 Z2 -> aQ Z2 H2 -> (∀ a o, H2 a = some o -> jY o = true -> Z2 a = some o) -> i < ds.length -> J.yld i H2 x H' -> ∃ Z3 d, ds[i]? = some d /\ EC Z2 H2 Z3 H' /\ cy X.K CL Z3 d x)
   (qq : ∀ H2, aQ W1 H2 -> J.stop ds.length H2) (hlen : ds.length <= sizeLine) (c : W1 = Z \/ ∀ d ∈ ds, (g d).clean = true) :
   ∀ D, H D = none -> ∃ W : Nat -> Nat -> Hp -> Prop, (∃ m, W 0 m (upd H D (.lst []))) /\ ∀ i m H2, W i m H2 -> (J.stop i H2 /\ ∃ Z2, aQ Z Z2 /\ aQ H H2 /\ cj X.K CL b H2 Z2 δ σ (.lst ((ds.filter p).map g) :: ts) (.ref D :: vs)) ∨
     (J.go i H2 /\ ∃ N : Hp -> Prop, (∀ H', N H' -> ∃ m', m' < m /\ W (i + 1) m' H') /\ ∀ xv H3, J.yld i H2 xv H3 -> ∀ C s0 H0 f0 os, os.length = n -> Tw y0.ao tg elt ifs n σ ix D N xv os H3) := by
 intro D hD
 have wD : W1 D = none := wh.free hD
 refine ⟨fun i m H2 => m = ds.length - i /\ i <= ds.length /\ ∃ Z2 Kl fp, GW X.K CL H W1 D (((ds.take i).filter p).map g) i H2 Z2 Kl fp, ⟨ds.length, rfl, amM _, W1, [], [], aQ.upd hD, .refl _, wh.trans (aQ.upd hD), wD, fun a o q z => ?_, fun a o q i => ?_, bw, .nil, anD, by simp, by simp, by simp⟩, ?_⟩
 . rw [q] at z; cases z
 . by_cases ha : a = D
   . subst ha; rw [bw] at q; cases q; cases i
   . rw [aO ha] at q; exact tp a o q i
 . rintro i m H2 ⟨rfl, hi, Z2, Kl, fp, hh, wz, zh, zD, nw, tp2, hD2, ra, nd, nD, own, hav⟩
   by_cases tV : i < ds.length
   . refine .inr ⟨hgo i H2 (wz.trans zh) tV, fun H' => ∃ Z2 Kl fp, GW X.K CL H W1 D (((ds.take (i + 1)).filter p).map g) (i + 1) H' Z2 Kl fp, fun H' h => ⟨ds.length - (i + 1), by omega, rfl, tV, h⟩, fun xv H3 y C s0 H0 f0 os hos => ?_⟩
     obtain ⟨Z3, d, hd, gr, rd⟩ := hy i Z2 H2 xv H3 wz zh tp2 tV y
     have ab8 : ∀ a, Z2 a = none -> (∃ o, H2 a = some o) -> Z3 a = none := fun a e ⟨o, e2⟩ => by
       cases q : Z3 a with
       | none => rfl
       | some u => rw [gr.new a u q e] at e2; cases e2
     have nw3 : ∀ a o, Z3 a = some o -> W1 a = none -> H a = none := fun a o q z => by
       cases e : Z2 a with
       | none => exact hh.free (gr.new a o q e)
       | some u =>
         have := gr.z a u e
         rw [q] at this; cases this
         exact nw a o e z
     have ra3 : bI X.K CL H3 Z3 (((ds.take i).filter p).map g) Kl fp := ra.mono gr.z fun a ha => by
       obtain ⟨o, e⟩ := ra.there a ha
       rw [e]; exact gr.h a o e
     have ow3 : ∀ a ∈ fp, Z3 a = none /\ H a = none := fun a ha => ⟨ab8 a (own a ha).1 (ra.there a ha), (own a ha).2⟩
     have zD3 : Z3 D = none := ab8 D zD ⟨_, hD2⟩
     have hD3 : H3 D = some (.lst Kl) := gr.h D _ hD2
     have hh3 := hh.trans gr.h
     have wz3 := wz.trans gr.z
     have zh3 := gr.zh
     have tp3 := gr.tp
     clear own nw ra zD hD2 hh wz zh tp2 gr ab8
     have TH : d ∈ ds := anb hd
     have htk : ds.take (i + 1) = ds.take i ++ [d] := by rw [aoh, hd]; rfl
     obtain ⟨tgt, inn⟩ := inner C s0 H0 f0 ⟨H3, Z3⟩
     obtain ⟨ps, hps, hpl, it, ie⟩ := inn d TH
     obtain ⟨t, pg, ht⟩ := tgt
     refine ⟨t, pg, ht Z3 H3 d ps xv _ _ zh3 rd hps fun ys rys => ?_⟩
     have hyl : ys.length = n := by rw [← rys.length]; exact hpl
     have es : zU (PZ σ ix os) (List.range' 0 n) ys = PZ σ ix (ys.map some) := by
       have := DC (ys := ys) (os := os) (pre := []) (r := ix.map fun i => (σ[i]?).getD none) (by rw [hos, hyl])
       rw [hyl] at this
       exact this
     refine ⟨ys.map some, by rw [amh]; exact hyl, es, ?_⟩
     rw [es]
     have S0 : cj X.K CL ⟨H3, Z3⟩ H3 Z3 (P0 ps ++ δc) (PZ σ ix (ys.map some)) [] [] :=
       ⟨⟨[], [], Xs rys ((cap H3).mono wz3 fun a ha => by cases ha), .nil, anD, fun a ha => by cases ha⟩, .refl _, .refl _, zh3, fun a o q z => (by have z' : Z3 a = none := z; rw [show Z3 a = some o from q] at z'; cases z'), tp3, (S.abK.mono zw).mono wz3⟩
     refine it.sem S0 fun H4 Z4 z4 k4 S4 => ?_
     have ah9 : ∀ a ∈ fp, H4 a = H3 a := fun a ha => by
       obtain ⟨o, e⟩ := ra3.there a ha
       rw [e]; exact k4 a o e
     have TJ : ∀ a, Z3 a = none -> (∃ o, H3 a = some o) -> Z4 a = none := fun a e ⟨o, e2⟩ => by
       cases q : Z4 a with
       | none => rfl
       | some u =>
         have := S4.new a u q e
         rw [show H3 a = none from this] at e2; cases e2
     cases hp : p d with
     | false =>
       refine SD ⟨Z4, Kl, fp, hh3.trans k4, wz3.trans z4, S4.zh, TJ D zD3 ⟨_, hD3⟩, fun a o q z => ?_, S4.tp, k4 D _ hD3, ?_, nd, nD, fun a ha => ⟨TJ a (ow3 a ha).1 (ra3.there a ha), (ow3 a ha).2⟩, by omega⟩
       . cases e : Z3 a with
         | none => exact hh3.free (S4.new a o q e)
         | some u => 
           have := z4 a u e
           rw [q] at this; cases this
           exact nw3 a o e z
       . rw [htk, aod, anT (by simp [hp]), aom, amH]
         exact ra3.mono z4 ah9
     | true =>
       refine SG ((ie hp) H4 Z4 (PZ σ ix (ys.map some)) [] [] _ S4 fun yv H5 Z5 z5 k5 S5 => ⟨Kl, k5 D _ (k4 D _ hD3), by omega, ?_⟩)
       obtain ⟨f1, g1, e1, r1, nd1, afB⟩ := S5.rep
       cases r1 with
       | @cons _ _ _ _ fy fn ry rn =>
         cases rn
         rw [amH] at nd1 afB
         have ndy : fy.Nodup := (anh.mp nd1).2.1
         have Xu : ∀ a ∈ fy, Z5 a = none /\ H3 a = none := fun a ha => afB a (ami _ ha)
         have K7 : ∀ a, Z3 a = none -> (∃ o, H3 a = some o) -> Z5 a = none := fun a e ⟨o, e2⟩ => by
           cases q : Z5 a with
           | none => rfl
           | some u =>
             have := S5.new a u q e
             rw [show H3 a = none from this] at e2; cases e2
         have yD : ∀ a ∈ fy, a ≠ D := fun a ha e => by
           subst e
           rw [(Xu a ha).2] at hD3; cases hD3
         have h5D : H5 D = some (.lst Kl) := k5 D _ (k4 D _ hD3)
         have sD : aQ H (upd H5 D (.lst (Kl ++ [yv]))) := fun a o q => by
           rw [aO (aZ q hD)]
           exact k5 a o (k4 a o (hh3 a o q))
         refine ⟨Z5, Kl ++ [yv], fp ++ fy, sD, wz3.trans (z4.trans z5), fun a o q => ?_, K7 D zD3 ⟨_, hD3⟩, fun a o q z => ?_, fun a o q im => ?_, bw, ?_, ?_, ?_, fun a ha => ?_, ?_⟩
         . rw [aO (aZ q (K7 D zD3 ⟨_, hD3⟩))]; exact S5.zh a o q
         . cases e : Z3 a with
           | none => exact hh3.free (S5.new a o q e)
           | some u =>
             have := z5 a u (z4 a u e)
             rw [q] at this; cases this
             exact nw3 a o e z
         . by_cases ha : a = D
           . subst ha; rw [bw] at q; cases q; cases im
           . rw [aO ha] at q; exact S5.tp a o q im
         . rw [htk, aod, aow hp, aom, amP]
           refine bI.app (ra3.mono (z4.trans z5) fun a ha => ?_) (by
             have := bI.cons (fp := fy) (gp := []) (ry.mono y0.B fun a ha => aO (yD a ha)) (bI.nil (H := upd H5 D (.lst (Kl ++ [yv]))) (Z := Z5))
             rwa [amH] at this)
           have : a ≠ D := fun e => nD (e ▸ ha)
           rw [aO this]
           obtain ⟨o, e⟩ := ra3.there a ha
           rw [e]; exact k5 a o (k4 a o e)
         . refine anh.mpr ⟨nd, ndy, fun a ha a' SW e => ?_⟩
           subst e
           obtain ⟨o, e⟩ := ra3.there a ha
           rw [(Xu a SW).2] at e; cases e
         . intro h
           rcases amx.mp h with h | h
           . exact nD h
           . exact yD D h rfl
         . rcases amx.mp ha with h | h
           . exact ⟨K7 a (ow3 a h).1 (ra3.there a h), (ow3 a h).2⟩
           . exact ⟨(Xu a h).1, hh3.free (Xu a h).2⟩
         . rw [amv, anx]; omega
   . have e : i = ds.length := by omega
     subst e
     refine .inl ⟨qq H2 (wz.trans zh), ?_⟩
     rw [List.take_length] at ra
     obtain ⟨Z', z', S'⟩ := S.back (H' := H2) (W := W1) (W' := Z2) (t := .lst ((ds.filter p).map g)) (v := .ref D) (fp := D :: fp) hh zw wz zh nw tp2 (.lst hD2 ra) (ank.mpr ⟨nD, nd⟩) (fun a ha => by
       rcases amt.mp ha with h | h
       . subst h; exact ⟨zD, hD⟩
       . exact own a h) (c.imp id fun c => by
         rw [oi]
         exact zP fun d hd => c d (anm.mp hd).1)
     exact ⟨Z', z', hh, S'⟩
end
section
variable {X : Cx} {CL : Str -> Addr} {b : Bx} {δ δ1 : List (Option T)} {scope : Scope} {xs : List Str} {Nc : List Str} {ix : List Nat} {elt iter tg : Expr} {ifs : List Expr} {pos : Pos} {ds : List D} {p : D -> Bool} {g : D -> T} {δc : List (Option T)} {parts : D -> Option (List D)}
theorem DE {J : It} {fp : List Addr} {it : Addr} {tn : Nat -> Heap -> Prop} {pins : List (Addr × Obj)} {σ : L2.St} {H H1 Z : Hp} {s : Shared} {ts : List T} {vs : List V} {RR : Value -> Addr -> Result -> Shared -> Prop} {E : Value -> Shared -> Prop}
   (sc : qC X scope xs Nc ix) (hc : X.calm = true) (C : ED X CL b δ1 σ ts vs Z H ds J H1) (I : L2.Inv X pins σ H1 s) (Tn : Turn X.prog X.w X.K tg J fp it tn) (st : tn 0 s.heap) (hf : ∀ b ∈ fp, kJ X pins H1 b)
   (hb : (δc = B7 δ1 ix /\ ∀ d ∈ ds, (g d).clean = true) \/ δc = HL δ1 ix) (inner : wW X CL scope Nc xs.length tg parts ifs elt δc ds p g) (hlen : ds.length <= sizeLine)
   (hRR : ∀ D C s' H' Z', (∃ m, s'.heap.Ns C m) -> (∃ o, s'.heap.get? C = some o /\ ∀ v, o.data ≠ .cell v) -> H' C = none -> (C ≠ X.env.locals /\ C ∉ X.fs /\ X.s₀.heap.objs.size <= C /\ (∀ y c, X.env.cells.lookup y = some c -> c ≠ C) /\ ∀ q ∈ X.pn ++ pins, q.1 ≠ C) -> (∀ h', Heap.SameBut C s'.heap h' -> L2.Inv X pins σ H' { s' with heap := h' }) -> aQ Z Z' -> aQ H H' -> cj X.K CL b H' Z' δ1 σ (.lst ((ds.filter p).map g) :: ts) (.ref D :: vs) -> RR (.ref D) C (.ok .next) s') :
   wpAny y0.d X.A (newList []) (fun acc s₃ => wpAny y0.d X.A (newFunctionEnv scope X.env.globals y0.v [] X.env.qual none .none (some X.env)) (fun Tz s₄ =>
     codeAny y0.d X.A (.compStart y0.A 0 (.ref it) acc { Tz with scope := relabel scope X.env }) (RR acc Tz.locals) s₄) E s₃) E s := by
 obtain ⟨Z1, z1, k1, S1, go, yl, stp⟩ := C.ex
 have lp : ∀ D, H1 D = none -> ∃ W : Nat -> Nat -> Hp -> Prop, (∃ m, W 0 m (upd H1 D (.lst []))) /\ ∀ i m H2, W i m H2 -> (J.stop i H2 /\ ∃ Z2, aQ Z1 Z2 /\ aQ H1 H2 /\ cj X.K CL b H2 Z2 δ1 σ (.lst ((ds.filter p).map g) :: ts) (.ref D :: vs)) ∨
     (J.go i H2 /\ ∃ N : Hp -> Prop, (∀ H', N H' -> ∃ m', m' < m /\ W (i + 1) m' H') /\ ∀ xv H3, J.yld i H2 xv H3 -> ∀ C s0 H0 f0 os, os.length = xs.length -> Tw y0.ao tg elt ifs xs.length σ ix D N xv os H3) := by
   rcases hb with ⟨e, cl⟩ | e
   . subst e
     exact zV (W1 := H1) S1 S1.zh y0.B (fun _ _ q _ => q) (zQ S1 ix) inner (fun i H2 s => go i H2 (S1.zh.trans s)) (fun i Z2 H2 y H' s => yl i Z2 H2 y H' (S1.zh.trans s)) (fun H2 s => stp H2 (S1.zh.trans s)) hlen (.inr cl)
   . subst e
     exact zV (W1 := Z1) S1 y0.B S1.zh S1.tp (HM S1 ix) inner go yl stp hlen y0.az
 exact K6 sc hc I Tn st hf lp fun D C s' H' m io nC ch ci ⟨Z', z', k', S'⟩ => hRR D C s' H' Z' m io nC ch ci (z1.trans z') (k1.trans k') S'
theorem yi (sc : qC X scope xs Nc ix) {pins : List (Addr × Obj)} {σ : L2.St} {H : Hp} {s : Shared} (I : L2.Inv X pins σ H s) : closureFor scope X.env = pure (dO X.env scope.names []) :=
 ng fun y hy e => I.ok.has y.1 (sc.frees y hy e).2
theorem HV (sc : qC X scope xs Nc ix) (hc : X.calm = true) (h : GIt X CL b tg iter δ ds δ1) (hb : (δc = B7 δ1 ix /\ ∀ d ∈ ds, (g d).clean = true) \/ δc = HL δ1 ix) (inner : wW X CL scope Nc xs.length tg parts ifs elt δc ds p g) (hlen : ds.length <= sizeLine)
   (hs : ∀ x, foldedSetIterable iter X.env x = pure x := by intro _; rfl) : cW X CL b y0.A δ (.lst ((ds.filter p).map g)) δ1 := fun H Z σ ts vs Q S k pins s I => by
 obtain ⟨wi, pi, hw⟩ := h
 rw [eval_ListComp]
 refine wpAny_comprehension_free (use := none) rfl hs (yi sc I) sc.kind sc.names ?_
 refine fu y0.aS fun v s1 h1 => fu h1 fun itv s2 zz => ?_
 obtain ⟨it, fp, tn, J, H1, e, I1, Tn, st, hf, C⟩ := zz
 subst e
 refine DE (RR := fun acc C => compPost y0.d X.A X.xe none y0.af acc C) sc hc C I1 Tn st hf hb inner hlen fun D C' s' H' Z' m io nC ch ci z' k' S' => ?_
 obtain ⟨m, hn⟩ := m
 exact ⟨m, hn, fun h' hs' => ⟨.ref D, H', ci h' hs', rfl, k _ H' Z' z' k' S'⟩⟩
theorem Xv {D : dN} {y : Str} {py afC : Pos} (i : Nat) (sc : qC X scope xs Nc ix) (hc : X.calm = true) (h : GIt X CL b tg iter δ ds δ1) (hb : (δc = B7 δ1 ix /\ ∀ d ∈ ds, (g d).clean = true) \/ δc = HL δ1 ix) (inner : wW X CL scope Nc xs.length tg parts ifs elt δc ds p g) (hlen : ds.length <= sizeLine)
   (k : D.nx (δ1.set i (some (.lst ((ds.filter p).map g))))) (hl : i < δ1.length) (hN : X.N.Nodup) (hi : X.N[i]? = some y) (hx : Loc X.env.scope y) (hf' : X.fn y = true \/ X.env.scope.names.lookup y = some .local)
   (K2 : swapsWith y0.A (some (.Name y py)) afC.line X.env = pure true)
   (hs : ∀ x, foldedSetIterable iter X.env x = pure x := by intro _; rfl) : W3 X CL b (.Assign [.Name y py] y0.A afC) δ D := fun H Z σ ts vs E S M pins s I => by
 obtain ⟨wi, pi, hw⟩ := h
 rw [exec_Assign_Name_used _ _ _ _ K2]
 refine ams (wpAny_standAt (ams ?_))
 show wpAny _ X.A (do let _ ← comprehension y0.A scope X.env _ (newList []) false (eval iter X.env) (some (assign (.Name y py) X.env))) _ _ s
 refine ams (ani (wpAny_comprehension_free (use := some (assign (.Name y py) X.env)) (Q := fun _ s' => SP X pins E .next s') rfl hs (yi sc I) sc.kind sc.names ?_) (fun _ s' hq => amW (amW hq)) fun _ _ e => e)
 refine fu y0.aS fun v s1 h1 => fu h1 fun itv s2 zz => ?_
 obtain ⟨it, fp, tn, J, H1, e, I1, Tn, st, hf, C⟩ := zz
 subst e
 refine DE (RR := fun acc C => compPost y0.d X.A X.xe (some (assign (.Name y py) X.env)) (fun _ s' => SP X pins E .next s') acc C) sc hc C I1 Tn st hf hb inner hlen fun D' C' s' H' Z' m io nC ch ci z' k' S' => ?_
 obtain ⟨m, hn⟩ := m
 obtain ⟨o, ho, x6⟩ := io
 have I' : L2.Inv X pins σ H' s' := ci s'.heap (.refl ..)
 have I2 : L2.Inv X (pins ++ [(C', o)]) σ H' s' := I'.yP fun q hq => by
   rcases amx.mp hq with z | z
   . exact I'.pin q (ami _ z)
   . have e : q = (C', o) := by simpa using z
     subst e
     exact ⟨ho, nC, ch.1, ch.2.1, x6⟩
 show wpAny _ X.A (assign (.Name y py) X.env (.ref D')) _ _ s'
 have hg : PG X (.Name y py) (x8 i) := uQ hN hi hx hf'
 refine fu (hg _ s' σ H' (.ref D') (.ref D') (fun σ8 H8 => σ8 = σ.set i (some (.ref D')) /\ H8 = H') I2 rfl ⟨rfl, rfl⟩) fun _ s8 zz => ?_
 obtain ⟨σ8, H8, I8, e8, e8'⟩ := zz
 subst e8
 subst e8'
 obtain ⟨hC8, nC8, _⟩ := I8.pin (C', o) (ami _ (ami _ y0.C))
 refine ⟨m, hn.at' fun o' e' => by rw [ho] at e'; cases e'; exact hC8, fun h' hs' => ?_⟩
 have I9 : L2.Inv X pins (σ.set i (some (.ref D'))) _ s8 := I8.yP fun q hq => I8.pin q (ami _ (amw _ hq))
 have I10 := I9.turned (it := C') (h' := h') (t' := s8.toks) (fun b o hb e => (hs'.2 b hb).trans e) nC8 ch.1.symm.symm (.inr ch.2.2.1) ch.2.2.2.1 ch.2.2.2.2
 exact ⟨_, _, I10, M.nx _ _ _ Z' z' (S'.set hl) k⟩
theorem acd {D : dN} {fJ : List Stmt} {i : Nat} {x : Str} {pos' pc : Pos} (gx : Gx X) (n : Ln X i x) (sc : qC X scope xs Nc ix) (h : GIt X CL b tg iter δ ds δ1)
   (hb : (δc = B7 δ1 ix /\ ∀ d ∈ ds, (g d).clean = true) \/ δc = HL δ1 ix) (inner : wW X CL scope Nc xs.length tg parts ifs elt δc ds p g) (hlen : ds.length <= sizeLine) (k : fD X CL b fJ (δ1.set i (some (.lst ((ds.filter p).map g)))) D) (hl : i < δ1.length)
   (K2 : swapsWith y0.bq y0.aw pos.line X.env = pure true \/ swapsWith y0.bq y0.aw pos.line X.env = pure false) (hs : ∀ x, foldedSetIterable iter X.env x = pure x := by intro _; rfl) :
   fD X CL b (.Assign [.Name x pos'] y0.bq pos :: fJ) δ D := by
 rcases K2 with K2 | K2
 . exact dZ (Xv i sc gx.calm h hb inner hlen k hl gx.nd n.hi n.loc n.hf K2 hs)
 . exact dZ (K1 i (HV sc gx.calm h hb inner hlen hs) k hl gx.nd n.hi n.loc K2 n.hf)
theorem ace {i : Nat} {x : Str} {C : Addr} {s : Shared} {H : Hp} {fp : List Addr} (h1 : Nc[i]? = some x) (h2 : scope.names.lookup x = some .local) (hd : (x == ("__debug__" : Str)) = false := by decide) (ko : y0.q = false := by decide) : Ln (eL X scope Nc C s H fp) i x :=
 ⟨eN h1 h2 hd ko, .inl (lookup_relabel_local h2), .inr (lookup_relabel_local h2)⟩
end
def Ite (K : PySem.W.Frag) (a : Addr) : It :=
 ⟨fun i H => ∃ xs x, qk K H a xs /\ xs[i]? = some x, fun i H x H' => ∃ T y, H T = none /\ x = .ref T /\ (∀ xs, qk K H a xs -> xs[i]? = some y) /\ H' = upd H T (.tup [.int i, y]), fun i H => ∃ xs, qk K H a xs /\ xs.length <= i⟩
theorem P1 {P : Program} {w : World} {K : PySem.W.Frag} {elts : List Expr} {kk : Nat} {pt : Pos} (a e it : Addr) (qD : e ≠ it) : Turn P w K (.Tuple elts kk pt) (Ite K a) [e, it] e (fun i h => (∃ old, PySem.IsEnum h e it i old) /\ h.IsListIter it a i) where
 mem := by simp
 obj := fun i h st b hb => by
   obtain ⟨⟨old, he⟩, hit⟩ := st
   rcases amt.mp hb with z | z
   . subst z
     exact ⟨_, he, fun v z => by
       have z' : Data.fields _ = Data.cell v := z
       cases z'⟩
   . have z : b = it := by simpa using z
     subst z
     obtain ⟨o, e, c, d⟩ := hit
     exact ⟨o, e, fun v z => by rw [d] at z; cases z⟩
 keep := fun i h h' st k => by
   obtain ⟨⟨old, he⟩, hit⟩ := st
   exact ⟨⟨old, k e y0.C _ he⟩, hit.at fun o q => k it y0.C o q⟩
 item := by
   intro X hP hw hK hc i pins s σ H E I hf st hg
   subst hP hw hK
   obtain ⟨xs, x, hq, hx⟩ := hg
   obtain ⟨its, rv, p, hz⟩ := I.list hq
   obtain ⟨u, hu, ru⟩ := rv.get hx
   obtain ⟨⟨old, he⟩, hit⟩ := st
   have fe := hf e y0.C
   have fi := hf it y0.C
   have hT0 : H s.heap.objs.size = none := I.dM.fresh (amo _)
   have fT := I.El (amo s.heap.objs.size) hT0
   refine PySem.wpAny_pyNext_enum_item he hit p.isList (x := u) (by simpa using hu) qD fun h' ho aib hT hsz hk => ⟨_, rfl, ?_⟩
   refine PySem.wpAny_letOwnedTupleGo_enum ho fun h2 he2 Pa => ?_
   replace Pa : Heap.SameBut e h' h2 := Pa
   have eT : e < s.heap.objs.size := amG he
   have keep : ∀ b o, b ≠ e -> b ≠ it -> s.heap.get? b = some o -> h2.get? b = some o := fun b o h1 h3 q => (Pa.2 b h1).trans (hk b o h1 h3 q)
   have hT2 : h2.get? s.heap.objs.size = some { cls := .type "tuple", data := .seq #[.int i s.toks, u] } := (Pa.2 _ (Nat.ne_of_gt eT)).trans hT
   have nH : ∀ b o, H b = some o -> b ≠ e /\ b ≠ it /\ b ≠ s.heap.objs.size := fun b o q => ⟨fun z => (by rw [z, fe.1] at q; cases q), fun z => (by rw [z, fi.1] at q; cases q), fun z => (by rw [z, hT0] at q; cases q)⟩
   have I' : L2.Inv X pins σ (upd H s.heap.objs.size (.tup [.int i, x])) { s with heap := h2, toks := s.toks + 1 } := by
     refine I.step (g' := s.gens) (d' := s.drawn) (ch := [e, it, s.heap.objs.size]) (fun b hb => ?_) (fun b o _ _ hc q _ => ?_) (fun b o _ _ hc q _ => ⟨o.slots, ?_⟩) (fun b o hc q n => ?_) (fun b o hc q => ⟨o, ?_⟩) (fun b ys q => ?_) (fun b o u q => ?_) (fun b ps q => ⟨#[], ?_⟩) (fun m hm => ?_) (fun b o q => ?_) I.bare
     . rcases amt.mp hb with z | hb
       . subst z; exact ⟨fe.2.2.2.1, fe.2.1, fe.2.2.2.2.1, fe.2.2.2.2.2⟩
       . rcases amt.mp hb with z | hb
         . subst z; exact ⟨fi.2.2.2.1, fi.2.1, fi.2.2.2.2.1, fi.2.2.2.2.2⟩
         . have z : b = s.heap.objs.size := by simpa using hb
           subst z; exact ⟨fT.2.2.2.1, fT.2.1, fT.2.2.2.2.1, fT.2.2.2.2.2⟩
     . exact keep b o y0.W y0.W q
     . exact keep b o y0.W y0.W q
     . rw [aO y0.W]; exact n
     . exact keep b o y0.W y0.W q
     . rw [aO (nH b _ q).2.2]; exact q
     . rw [aO (nH b _ q).2.2]; exact q
     . rw [aO (nH b _ q).2.2, q]; simp
     . obtain ⟨o, es, ep, ho, r⟩ := hm
       exact ⟨o, es, ep, keep _ o (an8 fe.2.1) (an8 fi.2.1) ho, r⟩
     . by_cases hb : b = s.heap.objs.size
       . subst hb
         rw [bw] at q
         cases q
         exact ⟨anf (cQ (amm rfl)), [.int i s.toks, u], .cons ⟨s.toks, rfl⟩ (.cons ru .nil), ⟨_, hT2, rfl, _, rfl⟩⟩
       . rw [aO hb] at q
         refine (I.dM b o q).yG (fun c v hc z => keep c v ?_ ?_ z) (fun c z => by rw [aO (nH c _ z).2.2]; exact z) (fun c ys z => by rw [aO (nH c _ z).2.2]; exact z) fun c ys z => by rw [aO (nH c _ z).2.2]; exact z
         . rcases hc with z | z
           . rw [z]; exact (nH b _ q).1
           . exact (nH c _ z).1
         . rcases hc with z | z
           . rw [z]; exact (nH b _ q).2.1
           . exact (nH c _ z).2.1
   have ei : ((i + 1 : Nat) : Int) = (i : Int) + 1 := by omega
   refine ⟨.ref s.heap.objs.size, _, I', rfl, ⟨_, x, hT0, rfl, fun ys hy => by rw [I.Hj hy hq]; exact hx, rfl⟩, ⟨⟨u, by rw [ei]; exact he2⟩, aib.at fun o q => (Pa.2 it (an8 qD)).trans q⟩, fun b hb => ?_⟩
   have hb' := hf b hb
   obtain ⟨o, Nx, _⟩ : ∃ o, s.heap.get? b = some o /\ True := by
     rcases amt.mp hb with z | z
     . subst z; exact ⟨_, he, trivial⟩
     . have z : b = it := by simpa using z
       subst z
       obtain ⟨o, q, _⟩ := hit
       exact ⟨o, q, trivial⟩
   rw [aO (amX (amG Nx))]
   exact hb'.1
 done := by
   intro X hP hw hK hc i pins s σ H E I hf st hg
   subst hP hw hK
   obtain ⟨xs, hq, hx⟩ := hg
   obtain ⟨its, rv, p, hz⟩ := I.list hq
   obtain ⟨⟨old, he⟩, hit⟩ := st
   obtain ⟨f0, f1, f2, f3, f4, f5⟩ := hf it y0.C
   have hl := rv.length
   exact PySem.wpAny_pyNext_enum_end (I.ok.hd hc) he hit p.isList y0.O fun h' eb => ⟨rfl, I.turned (t' := s.toks) (fun b o hb e => eb b o hb e) f0 f1 f3 f4 f5⟩
 self := fun _ _ _ _ _ st h => by
   obtain ⟨⟨old, he⟩, _⟩ := st
   exact PySem.wpAny_pyIter_enum he h
section
variable {X : Cx} {elts : List Expr} {kk : Nat} {pt : Pos}
def afD (K : PySem.W.Frag) (ta : TA) : TI := fun σ H R => ta σ H fun vs H1 => ∃ a xs, vs = [.ref a] /\ qk K H1 a xs /\ R (Ite K a) H1
theorem Xw {a : Expr} {ta : TA} {p pos : Pos} (hg : Gl X "enumerate") (hm : X.mg "enumerate" = none) (ha : PA X [a] ta) (hs : starEach [a] X.env = (false, eval a X.env) :: starEach [] X.env) : PI X (.Tuple elts kk pt) (.Call (.Name "enumerate" p) [a] [] pos) (afD X.K ta) := by
 intro pins s σ H R I h
 refine Call_ (tS I hg hm boot_enumerate (anV (fu y0.ax fun us s1 zz => ?_) hs rfl))
 obtain ⟨vs, H1, I1, r1, q1⟩ := zz
 obtain ⟨l, xs, e, hq, q⟩ := q1
 subst e
 cases r1 with
 | cons r rr =>
   cases rr
   cases r
   obtain ⟨its, rv, p, hz⟩ := I1.list hq
   refine PySem.call_enumerate_list p.isList fun h' he hit hsz hk => ?_
   have I2 : L2.Inv X pins σ H1 { s1 with heap := h' } := I1.kept (t' := s1.toks) fun b o e => hk b o e
   refine PySem.wpAny_pyIter_enum he ?_
   refine ⟨s1.heap.objs.size + 1, [s1.heap.objs.size + 1, s1.heap.objs.size], _, _, H1, rfl, I2, P1 l _ _ (Nat.succ_ne_self _), ⟨⟨_, he⟩, hit⟩, fun b hb => ?_, q⟩
   rcases amt.mp hb with z | z
   . subst z
     exact I1.El (an7 _) (I1.dM.fresh (an7 _))
   . have z : b = s1.heap.objs.size := by simpa using z
     subst z
     exact I1.El (amo _) (I1.dM.fresh (amo _))
end
def zW (ds : List D) : List D := (List.range ds.length).map fun (i : Nat) => .tup [.int i, ds.getD i .non]
theorem wX (ds : List D) : (zW ds).length = ds.length := by simp [zW]
theorem P4 {ds : List D} {i : Nat} {d : D} (h : ds[i]? = some d) : (zW ds)[i]? = some (.tup [.int i, d]) := by
 have hi : i < ds.length := (amU.mp h).1
 unfold zW
 rw [amT, anr hi]
 show some (D.tup [.int i, ds.getD i .non]) = _
 rw [amk, h]
 rfl
section
variable {X : Cx} {CL : Str -> Addr} {b : Bx} {δ δ1 : List (Option T)} {e : Expr} {ds : List D} {elts : List Expr} {kk : Nat} {pt pr pc : Pos}
theorem Xx (hm : X.mg "enumerate" = none) (h : cW X CL b e δ (.sh (.lst ds)) δ1) (hg : Gl X "enumerate") (hs : starEach [e] X.env = (false, eval e X.env) :: starEach [] X.env := by exact bR rfl) : GIt X CL b (.Tuple elts kk pt) (.Call (.Name "enumerate" pr) [e] [] pc) δ (zW ds) δ1 := by
 refine ⟨_, Xw hg hm y0.bb hs, fun H Z σ ts vs R S k => h H Z σ ts vs _ S fun v H1 Z1 z1 k1 S1 => ?_⟩
 obtain ⟨fp, gp, _, r, _, _⟩ := S1.rep
 cases r with
 | cons r _ =>
   cases r with
   | sh r =>
     cases r with
     | @lst a us _ hq rr =>
       have hl := rr.length
       refine ⟨a, us, rfl, S1.zh.seq hq, k _ _ ⟨Z1, z1, k1, S1.pop, fun i H2 s hi => ?_, fun i Z2 H2 x H' s1 s2 tp hi hy => ?_, fun H2 s => ?_⟩⟩
       . rw [wX] at hi
         have Kh : i < us.length := by rw [← hl]; exact hi
         exact ⟨us, us[i], s.seq hq, amq Kh⟩
       . rw [wX] at hi
         obtain ⟨T, y, hT, rfl, hx, rfl⟩ := hy
         obtain ⟨d, hd, rd⟩ := rr.SV (hx us ((s1.trans s2).seq hq))
         have gr : EC Z2 H2 _ _ := EC.tup (xs := [.int i, y]) s2 tp hT
         exact ⟨_, _, P4 hd, gr, .tup (uM.of bw) (.cons (.int _) (.cons ((rd.mono s1).mono gr.z) .nil))⟩
       . rw [wX]
         exact ⟨us, s.seq hq, by rw [← hl]; exact amo _⟩
end
def insI (x : Int) : List Int -> List Int
 | [] => [x]
 | y :: l => if x <= y then x :: y :: l else y :: insI x l
def sortI : List Int -> List Int
 | [] => []
 | x :: l => insI x (sortI l)
theorem insI_perm (x : Int) : ∀ l, (insI x l).Perm (x :: l)
 | [] => .refl _
 | y :: l => by
   rw [insI]
   split
   . exact .refl _
   . exact ((insI_perm x l).cons y).trans (.swap x y l)
theorem sortI_perm : ∀ l, (sortI l).Perm l
 | [] => .refl _
 | x :: l => (insI_perm x (sortI l)).trans ((sortI_perm l).cons x)
theorem P5 {l : List Int} {x : Int} : x ∈ sortI l ↔ x ∈ l := (sortI_perm l).mem_iff
theorem DF (l : List Int) : (sortI l).length = l.length := (sortI_perm l).length_eq
theorem yj (x : Int) : ∀ {l : List Int}, l.Pairwise (· <= ·) -> (insI x l).Pairwise (· <= ·)
 | [], _ => anA _ _
 | y :: l, h => by
   rw [insI]
   obtain ⟨h1, h2⟩ := am9.mp h
   split
   . rename_i e
     refine am9.mpr ⟨fun z hz => ?_, h⟩
     rcases amt.mp hz with rfl | hz
     . exact e
     . exact Int.le_trans e (h1 z hz)
   . rename_i e
     refine am9.mpr ⟨fun z hz => ?_, yj x h2⟩
     rcases amt.mp ((insI_perm x l).mem_iff.mp hz) with rfl | hz
     . omega
     . exact h1 z hz
theorem uX : ∀ l, (sortI l).Pairwise (· <= ·)
 | [] => .nil
 | x :: l => yj x (uX l)
theorem yk : ∀ {a b : List Int}, a.Perm b -> a.Pairwise (· <= ·) -> b.Pairwise (· <= ·) -> a = b
 | [], b, p, _, _ => (List.nil_perm.mp p).symm
 | x :: a, [], p, _, _ => absurd p.length_eq y0.C
 | x :: a, y :: b, p, ha, hb => by
   obtain ⟨a1, a2⟩ := am9.mp ha
   obtain ⟨b1, b2⟩ := am9.mp hb
   have e : x = y := by
     have h1 : x ∈ y :: b := p.mem_iff.mp amj
     have h2 : y ∈ x :: a := p.mem_iff.mpr amj
     rcases amt.mp h1 with e | h1
     . exact e
     . rcases amt.mp h2 with e | h2
       . exact e.symm
       . exact Int.le_antisymm (a1 y h2) (b1 x h1)
   subst e
   rw [yk (List.Perm.cons_inv p) a2 b2]
theorem TL {l z : List Int} (p : z.Perm l) (s : z.Pairwise (· <= ·)) : z = sortI l := yk (p.trans (sortI_perm l).symm) s (uX l)
theorem uY : ∀ {us : List Value} {ns : List Int}, IntsAre us ns -> Vals (ns.map V.int) us
 | _, _, .nil => .nil
 | _, _, .cons n t r => .cons ⟨t, rfl⟩ (uY r)
section
variable {X : Cx}
theorem EF : kU X (.builtin "sorted") (fun xs H Q => ∃ p ns, xs = [.ref p] /\ qk X.K H p (ns.map .int) /\ ns.length < 64 /\ ∀ l, H l = none -> Q (.ref l) (upd H l (.lst ((sortI ns).map .int)))) := by
 intro pins s σ H xs us Q I r h
 obtain ⟨p, ns, rfl, hq, hl, q⟩ := h
 obtain ⟨u, rfl, rx⟩ := vals1 r
 cases rx
 obtain ⟨its, r', pl, hz⟩ := I.list hq
 have hlen := r'.length
 rw [amh] at hlen
 refine sorted_ints pl.isList (intsAre_of r') y0.b fun out ns' a1 a2 a3 => ?_
 obtain ⟨e, he⟩ := sortedAll_at s.heap its out
 have e2 : ns' = sortI ns := TL a2 a3
 subst e2
 refine ⟨.ref y0.m, _, I.laid (t' := s.toks) (fun _ _ => sortedAll_old) (an7 _) (show fB X.prog X.w _ _ _ (.lst ((sortI ns).map .int)) from ⟨?_, out.toList, e, uY a1, ?_⟩), rfl, q _ (I.dM.fresh (an7 _))⟩
 . rw [amh, DF]
   rw [amh] at hz
   exact hz
 . simpa using he
theorem uZ : bootBuiltins "sorted" = some (.builtin "sorted") := by decide +kernel
end
section
variable {X : Cx} {CL : Str -> Addr} {b : Bx} {δ δ1 : List (Option T)} {e : Expr} {pos pp : Pos}
theorem DG {K : PySem.W.Frag} {Z : Hp} {l : List Int} {us : List V} (h : aX K CL Z (l.map D.int) us) : us = l.map V.int := by
 refine aX.ind (P := fun ds us => ∀ l : List Int, ds = l.map D.int -> us = l.map V.int) ?_ ?_ h l rfl
 . intro l e
   cases l with
   | nil => rfl
   | cons => cases e
 . intro d v ds vs r _ i l e
   cases l with
   | nil => cases e
   | cons a l =>
     injection e with e1 e2
     subst e1
     rw [i l e2]
     cases r
     rfl
theorem ints_rep {K : PySem.W.Frag} {Z : Hp} : ∀ (l : List Int), aX K CL Z (l.map D.int) (l.map V.int)
 | [] => .nil
 | _ :: l => .cons (.int _) (ints_rep l)
theorem K8 {l : List Int} (hm : X.mg "sorted" = none) (h : d9 X CL b e δ (.lst (l.map .int)) δ1) (hl : l.length < 64) (hg : Gl X "sorted") (hs : starEach [e] X.env = (false, eval e X.env) :: starEach [] X.env := by exact bR rfl) : cW X CL b (.Call (.Name "sorted" pp) [e] [] pos) δ (.lst (((sortI l).map D.int).map T.sh)) δ1 := fun H Z σ ts vs Q S k =>
 dG (kX EF hg hm uZ y0.bb (he := hs)) (h H Z σ ts vs _ S fun v H1 Z1 z1 k1 S1 r => by
   cases r with
   | @lst a us _ hq rr =>
     have := DG rr
     subst this
     refine ⟨a, l, rfl, hq, hl, fun p hp => ?_⟩
     obtain ⟨c, S2⟩ := (cj.sZ (ints_rep (sortI l)) S1).qA (g0 := []) y0.C hp
     exact k _ _ _ z1 (k1.trans c) S2)
end
section
variable {X : Cx}
end
section
variable {X : Cx} {CL : Str -> Addr} {b : Bx} {δ δ1 : List (Option T)} {e : Expr} {pos pp : Pos}
end
section
variable {prog : Program} {w : World} {A : Around} {s : Shared}
end
section
variable {prog : Program} {w : World} {A : Around} {s : Shared}
end
section
variable {X : Cx}
end
section
variable {X : Cx} {CL : Str -> Addr} {b : Bx} {δ δ1 : List (Option T)} {e : Expr} {ds : List D} {pos pp pq pr : Pos}
end
theorem EG {α β : Type} {f : α -> β} {l : List α} {j : Nat} {d : β} (h : (l.map f)[j]? = some d) : ∃ x, d = f x /\ l[j]? = some x /\ x ∈ l /\ j < l.length /\ l.drop j = x :: l.drop (j + 1) /\ l.take (j + 1) = l.take j ++ [x] := by
 rw [amT] at h
 cases hx : l[j]? with
 | none => rw [hx] at h; cases h
 | some x =>
   rw [hx] at h
   cases h
   have hj : j < l.length := (amU.mp hx).1
   have e : l[j] = x := (amU.mp hx).2
   exact ⟨x, rfl, rfl, anb hx, hj, by rw [an5 hj, e], by rw [aoh, hx]; rfl⟩
def D.at1 : L3.D -> L3.D
 | .tup (a :: _) => a
 | d => d
section
variable {X : Cx} {CL : Str -> Addr} {b : Bx} {δ δ1 : List (Option T)} {e : Expr} {elts : List Expr} {kk : Nat} {pt pr pc : Pos}
theorem P6 {α : Type} (f : α -> L3.D) (z : α) (l : List α) : zW (l.map f) = (List.range l.length).map fun (i : Nat) => L3.D.tup [.int i, f (l.getD i z)] := by
 unfold zW
 rw [amh]
 apply am7
 intro i hi
 have hi : i < l.length := amZ.mp hi
 have : (l.map f).getD i .non = f (l.getD i z) := by
   rw [amk, amk, amT, amq hi]
   rfl
 rw [this]
theorem TN {α : Type} {f : α -> L3.D} {l : List α} (z : α) (hm : X.mg "enumerate" = none) (h : cW X CL b e δ (.sh (.lst (l.map f))) δ1) (hg : Gl X "enumerate") (hs : starEach [e] X.env = (false, eval e X.env) :: starEach [] X.env := by exact bR rfl) :
   GIt X CL b (.Tuple elts kk pt) (.Call (.Name "enumerate" pr) [e] [] pc) δ ((List.range l.length).map fun (i : Nat) => L3.D.tup [.int i, f (l.getD i z)]) δ1 := by
 have := Xx (elts := elts) (kk := kk) (pt := pt) (pr := pr) (pc := pc) hm h hg hs
 rwa [P6 f z l] at this
end
section
variable {K : PySem.W.Frag} {CL : Str -> Addr} {b : Bx} {H H' Z Z' : Hp} {δ δ' : List (Option T)} {σ σ' : L2.St} {ts tl : List T} {vs us : List V} {t : T} {v : V}
end
section
variable {X : Cx} {CL : Str -> Addr} {b : Bx} {δ δ1 δ2 : List (Option T)} {e e2 : Expr} {t : T} {tl Tc tt tt0 : List T} {D : dN} {pos pp pa pb : Pos}
end
section
variable {X : Cx} {CL : Str -> Addr} {b : Bx} {δ δ1 : List (Option T)} {e : Expr} {t : T} {i : Nat} {x : Str} {pos pp : Pos} {DD : dN} {fJ : List Stmt}
end
section
variable {X : Cx}
end
section
variable {K : PySem.W.Frag} {CL : Str -> Addr} {b : Bx} {H Z : Hp} {δ : List (Option T)} {σ : L2.St} {ts tl : List T} {vs : List V} {t : T} {v : V}
end
section
variable {X : Cx} {CL : Str -> Addr} {b : Bx} {δ δ1 : List (Option T)} {e : Expr} {t : T} {tl Tc : List T} {D : dN} {pos pp pa pb pc : Pos} {kj i : Nat} {x : Str} {fJ : List Stmt}
end
section
variable {X : Cx} {CL : Str -> Addr} {b : Bx} {δ δ1 : List (Option T)} {e : Expr} {pos pp : Pos}
end
section
variable {K : PySem.W.Frag} {CL : Str -> Addr} {b : Bx} {H Z : Hp} {δ : List (Option T)} {σ : L2.St} {ts tl Xy : List T} {vs : List V} {v : V}
theorem cj.extend {i : Nat} (S : cj K CL b H Z δ σ (.lst Xy :: ts) (v :: vs)) (hi : δ[i]? = some (some (.lst tl))) :
   ∃ a us a2 Xz, σ[i]? = some (some (.ref a)) /\ H a = some (.lst us) /\ us.length = tl.length /\ v = .ref a2 /\ H a2 = some (.lst Xz) /\ Xz.length = Xy.length /\ cj K CL b (upd H a (.lst (us ++ Xz))) Z (δ.set i (some (.lst (tl ++ Xy)))) σ ts vs := by
 obtain ⟨fp, gp, e, r, nd, k⟩ := S.rep
 obtain ⟨v0, f1, f2, f3, hv, uO, rt, put, _⟩ := e.get hi
 subst uO
 cases rt with
 | @lst a us _ g ha rs =>
   cases r with
   | @cons _ _ _ _ ft gr q1 q2 =>
     cases q1 with
     | @lst a2 Xz _ g2 ha2 rs2 =>
       have ne : ∀ c ∈ y0.ar ++ (g2 ++ gr), c ≠ a := fun c hc e => by
         subst e
         have hp : ((f1 ++ ((c :: g) ++ f3)) ++ ((a2 :: g2) ++ gr)).Perm (c :: (y0.ar ++ ((a2 :: g2) ++ gr))) := by
           rw [amL, ← amL]
           exact (ant.append_right _)
         refine (ank.mp y0.bp).1 ?_
         rcases amx.mp hc with z | z
         . exact amw _ z
         . exact ami _ (amn _ z)
       refine ⟨a, us, a2, Xz, hv, ha, rs.length.symm, rfl, ha2, rs2.length.symm, ?_⟩
       have r1 : dR K CL (upd H a (.lst (us ++ Xz))) Z (.lst (tl ++ Xy)) (.ref a) (a :: (g ++ g2)) :=
         .lst bw (bI.app (rs.mono y0.B fun c hc => aO y0.N) (rs2.mono y0.B fun c hc => aO y0.N))
       have e2 := put (H' := upd H a (.lst (us ++ Xz))) y0.B (fun c hc => aO (ne c (by
         rcases amx.mp hc with h | h
         . simp [h]
         . simp [h]))) r1
       rw [oj hv] at e2
       have hp : ((f1 ++ ((a :: (g ++ g2)) ++ f3)) ++ gr).Perm ((f1 ++ ((a :: g) ++ f3)) ++ (g2 ++ gr)) := by
         simp only [amL, amr]
         refine am2 f1 (List.Perm.cons a (am2 g ?_))
         rw [← amr, ← amr]
         exact am6.append_right gr
       have sb : ((f1 ++ ((a :: g) ++ f3)) ++ (g2 ++ gr)).Sublist ((f1 ++ ((a :: g) ++ f3)) ++ ((a2 :: g2) ++ gr)) :=
         am5 (am3 _) (by rw [amL]; exact List.sublist_cons_self _ _)
       exact S.write nd k (amj) ⟨_, ha⟩ e2 y0.bY (hp.nodup_iff.mpr (nd.sublist sb)) fun c hc => sb.subset (hp.mem_iff.mp hc)
end
section
variable {X : Cx} {CL : Str -> Addr} {b : Bx} {δ δ1 : List (Option T)} {e : Expr} {tl Tc Xy : List T} {D : dN} {pos pp pa pb : Pos} {i : Nat} {x : Str} {fJ : List Stmt}
theorem aaC (n : Vn X i x) (h0 : δ[i]? = some (some (.lst Tc))) (h : cW X CL b e δ (.lst Xy) δ1) (h1 : δ1[i]? = some (some (.lst tl))) (hl : tl.length + Xy.length <= 1000000) (k : fD X CL b fJ (δ1.set i (some (.lst (tl ++ Xy)))) D)
   (oh : attributeBase y0.J "extend" X.env (eval y0.J X.env) = eval y0.J X.env := by rfl)
   (Es : ((backTo pb (starEach [e] X.env)).all (fun x => !x.1) && (backToKw pb y0.bv).all y0.bE && decide ([e].length + ([] : List Keyword).length + y0.U < 30)) = true := by rfl)
   (hline : (pa.endLine == pb.line) = true := by rfl) (hs : starEach [e] X.env = (false, eval e X.env) :: starEach [] X.env := by exact bR rfl)
   (K2 : swapsWith (.Call (.Attribute y0.J "extend" pa) [e] [] pb) none pos.line X.env = pure false := by rfl) :
   fD X CL b (.Expr (.Call (.Attribute y0.J "extend" pa) [e] [] pb) pos :: fJ) δ D := dZ fun H Z σ ts vs E S M =>
 wM (Ek (Sy aov PySem.F.slot_list_extend PySem.F.type_list_extend Px (m7 n.hi n.hv n.hd n.ko) y0.bb oh Es hline hs rfl) K2) (by
   obtain ⟨v0, e0, r0⟩ := S.look h0
   refine ⟨v0, e0, ?_, ?_⟩
   . rw [T.eF] at r0
     cases r0 with
     | lst hq _ => exact .inl ⟨rfl, _, hq⟩
   . refine h H Z σ ts vs _ S fun v H1 Z1 z1 k1 S1 => ?_
     obtain ⟨a, us, a2, Xz, ea, ha, hu, rfl, ha2, hu2, S2⟩ := S1.extend h1
     rw [e0] at ea
     cases ea
     exact ⟨a, a2, us, Xz, rfl, rfl, ha, ha2, by rw [hu, hu2]; exact anf (aoc hl (by rw [amV]; decide)), M.nx _ σ _ Z1 z1 S2 k⟩)
end
section
variable {X : Cx} {CL : Str -> Addr} {b : Bx} {e1 e2 : Expr} {δ δ1 δ2 : List (Option T)} {ds : List L3.D} {pos : Pos}
def afE (K : PySem.W.Frag) : R2 := fun x y H Q => ∃ l k xs, x = .ref l /\ y = .int k /\ qk K H l xs /\ -(2 ^ 63) <= k /\ k < 2 ^ 63 /\ xs.length * k.toNat <= sizeLine ∧
 ∀ p, H p = none -> Q (.ref p) (upd H p (.lst (List.replicate k.toNat xs).flatten))
theorem XA : yJ X (binaryOp .Mult) (afE X.K) := by
 intro pins s σ H x y v u Q I rx ry h
 obtain ⟨l, k, xs, rfl, rfl, hH, h1, h2, hz, q⟩ := h
 cases rx
 obtain ⟨t, rfl⟩ := ry
 obtain ⟨its, r, pl, _⟩ := I.list hH
 have hl := r.length
 obtain ⟨⟨c1, dd, da1, sl⟩, e, hc, n, hd⟩ := pl.isList
 cases hc; cases hd
 have hlen : its.toArray.size * k.toNat <= sizeLine := by rw [amF, ← hl]; exact hz
 have aid : ¬ its.toArray.size * k.toNat > (2 ^ 63 - 1) / 8 := by
   have : (sizeLine : Nat) <= (2 ^ 63 - 1) / 8 := by decide
   omega
 have aie : ¬ (!Builtin.List.listFitsIndex k) = true := by
   rw [fitsIndex_both h1 h2]
   exact amE
 have Sz : ¬ Builtin.List.listTooLong (its.toArray.size * k.toNat) = true := by
   rw [Hw hlen]
   exact amE
 have aif : List.foldl (fun x1 x2 => x1 ++ x2) #[] (List.replicate (if its.toArray.isEmpty = true then 0 else k.toNat) its.toArray) = (List.replicate k.toNat its).flatten.toArray := by
   have f0 : ∀ m : Nat, List.foldl (fun x1 x2 => x1 ++ x2) #[] (List.replicate m its.toArray) = (List.replicate m its).flatten.toArray := fun m => by
     have := foldl_rep its m []
     rw [anQ] at this
     exact this
   rw [f0]
   cases its with
   | nil => simp
   | cons a r' => rw [amg y0.C]
 refine wpAny_binaryOp_repeat_ref (T := "list") (U := "int") y0.g ⟨_, e, rfl⟩ (fun s' => typeIs_int s' k t) noFill_list_mul F.fills_int_mul F.slot_int_rmul repeat_list F.slot_int_index.lookup
   (call_meets F.slot_int_rmul (typeIs_int s k t) F.entry_int_rmul (F.args_int_rmul_2 _ _) (lm_int_rmul_list_any k t l its.toArray n dd sl)
     ⟨e, rfl, ⟨_, e, rfl⟩, call_meets F.slot_list_mul ⟨_, e, rfl⟩ F.entry_list_mul (F.args_list_mul_2 _ _) (lm_list_mul_any l its.toArray n dd sl k t aie aid Sz) ⟨e, ?_⟩⟩)
 rw [aif]
 exact ⟨.ref _, _, I.afc (t' := s.toks) (r.rep k.toNat) (by rw [len_rep, Nat.mul_comm]; exact hz), rfl, q _ I.fresh⟩
theorem aX.rep {K : PySem.W.Frag} {Z : Hp} {ds : List L3.D} {vs : List V} (r : aX K CL Z ds vs) : ∀ k : Nat, aX K CL Z (List.replicate k ds).flatten (List.replicate k vs).flatten
 | 0 => .nil
 | k + 1 => by
   rw [anL, anL, anR, anR]
   exact aX.app r (aX.rep r k)
theorem u0 {k : Int} (h1 : d9 X CL b e1 δ (.lst ds) δ1) (h2 : d9 X CL b e2 δ1 (.int k) δ2) (i1 : D.cI ds = true) (k1 : -(2 ^ 63) <= k) (k2 : k < 2 ^ 63) (hz : ds.length * k.toNat <= sizeLine) :
   cW X CL b (.BinOp e1 .Mult e2 pos) δ (.lst ((List.replicate k.toNat ds).flatten.map T.sh)) δ2 := fun H Z σ ts vs Q S kk =>
 dG (zJ XA eS eS) (h1 H Z σ ts vs _ S fun v1 H1 Z1 z1 q1 S1 r1 => h2 H1 Z1 σ ts vs _ S1 fun v2 H2 Z2 z2 q2 S2 r2 => by
   have W8 := r1.mono q2
   cases W8 with
   | lst G7 K4 =>
     cases r2 with
     | int =>
       refine ⟨_, _, _, rfl, rfl, G7, k1, k2, by rw [← K4.length]; exact hz, fun p hp => ?_⟩
       have rc := aX.rep (aX.oW S2.tp i1 K4) k.toNat
       obtain ⟨c, S4⟩ := (cj.sZ rc S2).qA (g0 := []) (by rw [amh, rc.length]) hp
       exact kk _ _ _ y0.F (q1.trans (q2.trans c)) S4)
end
section
variable {X : Cx} {CL : Str -> Addr} {b : Bx} {δ : List (Option T)} {x : Str} {pos : Pos}
end
section
variable {X : Cx} {CL : Str -> Addr} {b : Bx} {e1 e2 e iter : Expr} {δ δ1 δ2 : List (Option T)} {pos : Pos}
end
section
variable {X : Cx} {CL : Str -> Addr} {b : Bx} {e : Expr} {δ δ1 δ2 δ3 : List (Option T)} {pos p2 : Pos}
end
end L3
namespace L3
open PySem PySem.Spec PyProof.Rows L2 PySem.Builtin PySem.Builtin.Str
section
variable {X : Cx} {CL : Str -> Addr} {b : Bx} {e o : Expr} {δ δ1 δ2 : List (Option T)} {pos apos : Pos}
end
end L3
namespace L3
open PySem PySem.Spec PyProof.Rows L2
section
variable {X : Cx} {CL : Str -> Addr} {b : Bx} {δ : List (Option T)} {pos pp : Pos} {x : Str}
theorem c0 {k n : Nat} {A : Type} {arg : A -> List L3.D} {Pre : A -> Prop} {res : A -> T} (a : A) (F : Fc X CL x k n arg Pre res) (hg : Gl X x) (ha : arg a = []) (hp : Pre a) (hc : (res a).clean = true) (hn : (arg a).length = n := by rfl)
   (wH : y0.i = false := by decide) : cW X CL b (.Call y0.J [] [] pos) δ (res a) δ := by
 obtain ⟨f, fd, ps, F1, m, kk, bb⟩ := F.ex
 intro H Z σ ts vs Q S k
 refine dG (Si F1 F.room hg m kk bb .nil Hy wH) ?_
 refine ⟨H, a, .refl _, fun _ _ q _ => q, by rw [ha]; exact .nil, hn, hp, S.KQ, fun v H' W' fp hh ww wh nw tp rt nd own => ?_⟩
 obtain ⟨Z', z', S'⟩ := S.back hh S.zh ww wh nw tp rt nd own (.inr hc)
 exact k v H' Z' z' hh S'
end
def XC : Key -> D
 | .inl i => .int i
 | .inr x => .str x
def yL (bH : List (Key × D)) (k : Key) : Option D := (bH.find? fun kv => decide (kv.1 = k)).map (·.2)
def zX (bH : List (Key × D)) (k : Key) (d : D) : List (Key × D) :=
 if (bH.any fun kv => decide (kv.1 = k)) = true then bH.map (fun kv => if kv.1 = k then (kv.1, d) else kv) else bH ++ [(k, d)]
section
variable {K : PySem.W.Frag} {CL : Str -> Addr} {b : Bx} {H Z : Hp} {δ : List (Option T)} {σ : L2.St} {ts tl : List T} {vs : List V} {t : T} {v : V} {d : D} {bH : List (Key × D)} {gs : List (Key × V)}
theorem cH.length {bH : List (Key × D)} {gs : List (Key × V)} (h : cH K CL Z bH gs) : bH.length = gs.length :=
 cH.ind (P := fun bH gs => bH.length = gs.length) rfl (fun _ _ i => congrArg (· + 1) i) h
theorem cH.val {k : Key} : ∀ {bH : List (Key × D)} {gs : List (Key × V)}, cH K CL Z bH gs -> (yL bH k = none /\ tT gs k = none) \/ ∃ d v, yL bH k = some d /\ tT gs k = some v /\ cy K CL Z d v
 | _, _, .nil => .inl ⟨rfl, rfl⟩
 | _, _, .cons (x := x) (d := d) (v := v) h r => by
   by_cases e : x = k
   . exact .inr ⟨d, v, by simp [yL, e], uT e, h⟩
   . rcases cH.val (k := k) r with ⟨h1, h2⟩ | ⟨d', v', h1, h2, h3⟩
     . exact .inl ⟨by simpa [yL, e] using h1, by rw [qw e]; exact h2⟩
     . exact .inr ⟨d', v', by simpa [yL, e] using h1, by rw [qw e]; exact h2, h3⟩
theorem cH.any {k : Key} : ∀ {bH : List (Key × D)} {gs : List (Key × V)}, cH K CL Z bH gs -> (bH.any fun kv => decide (kv.1 = k)) = (gs.any fun kv => decide (kv.1 = k))
 | _, _, .nil => rfl
 | _, _, .cons _ r => by rw [anS, anS, cH.any r]
theorem cH.repl {k : Key} (q : cy K CL Z d v) : ∀ {bH : List (Key × D)} {gs : List (Key × V)}, cH K CL Z bH gs -> cH K CL Z (bH.map (fun kv => if kv.1 = k then (kv.1, d) else kv)) (gs.map (fun kv => if kv.1 = k then (kv.1, v) else kv))
 | _, _, .nil => .nil
 | _, _, .cons (x := x) h r => by
   rw [amD, amD]
   by_cases e : x = k
   . rw [aml e, aml e]; exact .cons q (cH.repl q r)
   . rw [amg e, amg e]; exact .cons h (cH.repl q r)
theorem cH.snoc {k : Key} (q : cy K CL Z d v) : ∀ {bH : List (Key × D)} {gs : List (Key × V)}, cH K CL Z bH gs -> cH K CL Z (bH ++ [(k, d)]) (gs ++ [(k, v)])
 | _, _, .nil => .cons q .nil
 | _, _, .cons h r => .cons h (cH.snoc q r)
theorem cH.put {k : Key} (q : cy K CL Z d v) (r : cH K CL Z bH gs) : cH K CL Z (zX bH k d) (putK gs k v) := by
 unfold zX putK
 rw [r.any]
 split
 . exact r.repl q
 . exact r.snoc q
theorem cy.key {k : Key} (r : cy K CL Z (XC k) v) : v = kV k := by
 cases k with
 | inl i => exact r.sc rfl
 | inr x => exact r.sc rfl
theorem cj.acf {p : Addr} (S : cj K CL b H Z δ σ ts vs) (hp : H p = none) : aQ H (upd H p (.dK [])) /\ cj K CL b (upd H p (.dK [])) Z δ σ (.kZ [] :: ts) (.ref p :: vs) := by
 obtain ⟨fp, gp, e, r, nd, k⟩ := S.rep
 have zp : Z p = none := S.zh.free hp
 have sh : aQ H (upd H p (.dK [])) := aQ.upd hp
 have keep : ∀ a ∈ fp ++ gp, a ≠ p := fun a ha => by
   have : ∃ o, H a = some o := by
     rcases amx.mp ha with h | h
     . exact e.there a h
     . exact r.there a h
   obtain ⟨o, q⟩ := this
   exact aZ q hp
 refine ⟨sh, ⟨⟨fp, [p] ++ gp, e.mono y0.B y0.bh, .cons (.kZ bw .nil) (r.mono y0.B fun a ha => aO (keep a y0.bB)), ?_, fun a ha => ?_⟩, S.bh.trans sh, S.zz, S.zh.trans sh, S.new, fun a o q i => ?_, S.tab⟩⟩
 . refine (ant (l₁ := fp) (l₂ := gp) (a := p)).nodup_iff.mpr (ank.mpr ⟨fun h => keep p h rfl, nd⟩)
 . rcases amt.mp ((ant (l₁ := fp) (l₂ := gp) (a := p)).mem_iff.mp ha) with h | h
   . subst h; exact ⟨zp, S.bh.free hp⟩
   . exact k a h
 . by_cases ha : a = p
   . subst ha; rw [bw] at q; cases q; cases i
   . rw [aO ha] at q; exact S.tp a o q i
theorem cj.acg {i : Nat} (k : Key) (S : cj K CL b H Z δ σ (.sh d :: ts) (v :: vs)) (hi : δ[i]? = some (some (.kZ bH))) :
   ∃ a gs, σ[i]? = some (some (.ref a)) /\ H a = some (.dK gs) /\ gs.length = bH.length /\ cj K CL b (upd H a (.dK (putK gs k v))) Z (δ.set i (some (.kZ (zX bH k d)))) σ ts vs := by
 obtain ⟨fp, gp, e, r, nd, kk⟩ := S.rep
 obtain ⟨v0, f1, f2, f3, hv, uO, rt, put, _⟩ := e.get hi
 subst uO
 cases rt with
 | @kZ a gs _ ha rs =>
   cases r with
   | @cons _ _ _ _ ft gr q1 q2 =>
     cases q1 with
     | sh q1 =>
       have ne : ∀ c ∈ (f1 ++ f3) ++ gr, c ≠ a := fun c hc e => by
         subst e
         have hp : ((f1 ++ ([c] ++ f3)) ++ ([] ++ gr)).Perm (c :: ((f1 ++ f3) ++ gr)) := by
           rw [anQ, List.singleton_append]
           exact (ant.append_right _)
         exact (ank.mp y0.bp).1 hc
       refine ⟨a, gs, hv, ha, rs.length.symm, ?_⟩
       have r1 : dR K CL (upd H a (.dK (putK gs k v))) Z (.kZ (zX bH k d)) (.ref a) [a] := .kZ bw (rs.put q1)
       have e2 := put (H' := upd H a (.dK (putK gs k v))) y0.B (fun c hc => aO (ne c (by
         rcases amx.mp hc with h | h
         . simp [h]
         . simp [h]))) r1
       rw [oj hv] at e2
       exact S.Tp rfl kk y0.C e2 y0.bY nd fun c hc => hc
end
section
variable {X : Cx} {CL : Str -> Addr} {b : Bx} {δ δ1 δ2 : List (Option T)} {e e1 e2 : Expr} {t : T} {d : L3.D} {D : dN} {pos pp ps : Pos} {i : Nat} {x : Str} {fJ : List Stmt} {bH : List (Key × L3.D)} {k : Key}
theorem N7 : cW X CL b (.Dict [] [] pos) δ (.kZ []) δ := fun H Z σ ts vs Q S kk => dG SN fun p hp => by
 obtain ⟨c, S1⟩ := S.acf hp
 exact kk _ _ Z y0.B c S1
theorem ach (k : Key) (hu : X.A.units + 64 < cLine) (n : Vn X i x) (h : cW X CL b e δ (.sh d) δ1) (h2 : d9 X CL b e2 δ1 (XC k) δ1) (h1 : δ1[i]? = some (some (.kZ bH))) (hl : bH.length <= 1000000) (kk : fD X CL b fJ (δ1.set i (some (.kZ (zX bH k d)))) D)
   (hs : swapsWith e (some (.Subscript y0.J e2 ps)) pos.line X.env = pure false := by rfl) :
   fD X CL b (.Assign [.Subscript y0.J e2 ps] e pos :: fJ) δ D := dZ fun H Z σ ts vs E S M =>
 wM (WY y0.b (m7 n.hi n.hv n.hd n.ko) eS eS hs) (h H Z σ ts vs _ S fun v H1 Z1 z1 k1 S1 => by
   obtain ⟨v0, e0, _⟩ := S1.look h1
   refine ⟨v0, e0, h2 H1 Z1 σ _ _ _ S1 fun v2 H2 Z2 z2 k2 S2 r2 => ?_⟩
   obtain ⟨a, gs, ea, ha, hg, S3⟩ := S2.acg k h1
   rw [e0] at ea
   cases ea
   exact ⟨a, _, rfl, by rw [r2.key]; exact SJ.k ha (by rw [hg]; exact aoc hl (by rw [amV]; decide)), M.nx _ σ _ Z2 y0.F S3 kk⟩)
theorem XD (k : Key) (hu : X.A.units + 64 < cLine) (h1 : d9 X CL b e1 δ (.kZ bH) δ1) (h2 : d9 X CL b e2 δ1 (XC k) δ2) (hk : yL bH k = some d) (hs : abG e2 := by exact fun _ _ => rfl) : d9 X CL b y0.bw δ d δ2 := fun H Z σ ts vs Q S kk =>
 dG (WX y0.b eS eS hs) (h1 H Z σ ts vs _ S fun v H1 Z1 z1 k1 S1 r1 => h2 H1 Z1 σ ts vs _ S1 fun v2 H2 Z2 z2 k2 S2 r2 => by
   cases r1 with
   | @kZ a gs _ ha rr =>
     have rr' := rr.mono k2
     rcases rr'.val (k := k) with ⟨h0, _⟩ | ⟨d', v', h0, hv, rd⟩
     . rw [hk] at h0; cases h0
     . rw [hk] at h0; cases h0
       refine ⟨a, v', rfl, ?_, kk v' H2 Z2 y0.F y0.S S2 rd⟩
       rw [r2.key, ← hv]
       exact Eu.k (k2 _ _ ha))
theorem TQ {Z : Hp} {gs : List (Key × V)} {K : PySem.W.Frag} (rr : cH K CL Z bH gs) : (tT gs k).isSome = (yL bH k).isSome := by
 rcases rr.val (k := k) with ⟨h0, h1⟩ | ⟨d', v', h0, h1, _⟩
 . rw [h0, h1]; rfl
 . rw [h0, h1]; rfl
theorem EH (k : Key) (hu : X.A.units + 64 < cLine) (h1 : d9 X CL b e1 δ (XC k) δ1) (h2 : d9 X CL b e2 δ1 (.kZ bH) δ2) (hm : behindInMarks .In e2 = false) :
   yf X CL b (.Compare e1 [.In] [e2] pos) δ (yL bH k).isSome δ2 := fun H Z σ ts vs Q S kk =>
 HG (aa0 (abH y0.b eS eS) hm) (h1 H Z σ ts vs _ S fun v H1 Z1 z1 k1 S1 r1 => h2 H1 Z1 σ ts vs _ S1 fun v2 H2 Z2 z2 k2 S2 r2 => by
   cases r2 with
   | @kZ a gs _ ha rr =>
     refine ⟨a, tT gs k, rfl, by rw [r1.key]; exact Eu.k ha, _, rfl, ?_⟩
     rw [TQ rr]
     exact kk H2 Z2 y0.F y0.S S2)
end
section
variable {K : PySem.W.Frag} {CL : Str -> Addr} {b : Bx} {H Z : Hp} {δ : List (Option T)} {σ : L2.St} {ts : List T} {vs : List V} {t : T} {v w : V} {f c : Str} {P7 : List (Str × T)}
theorem eZ.XF {ft : List Addr} (rt : dR K CL H Z t v ft) : ∀ {G8 : List (Str × T)} {gs : List (Str × V)} {fp : List Addr}, eZ K CL H Z (G8 ++ (f, .sh (.val v)) :: P7) gs fp -> ∃ N4, eZ K CL H Z (G8 ++ (f, t) :: P7) gs N4 /\ N4.Perm (fp ++ ft)
 | [], _, _, r => by
   cases r with
   | @cons _ _ v' _ _ f1 gp h r =>
     cases h with
     | sh h =>
       cases h
       exact ⟨ft ++ gp, .cons rt r, am6⟩
 | (y, u) :: G8, _, _, r => by
   cases r with
   | @cons _ _ v' _ _ f1 gp h r =>
     obtain ⟨N4, r', p⟩ := eZ.XF rt (G8 := G8) r
     refine ⟨f1 ++ N4, .cons h r', ?_⟩
     rw [amr]
     exact p.append_left f1
theorem cj.XF {G8 : List (Str × T)} (S : cj K CL b H Z δ σ (.ins c (G8 ++ (f, .sh (.val v)) :: P7) :: t :: ts) (w :: v :: vs)) : cj K CL b H Z δ σ (.ins c (G8 ++ (f, t) :: P7) :: ts) (w :: vs) := by
 obtain ⟨fp, gp, e, r, nd, k⟩ := S.rep
 cases r with
 | @cons _ _ _ _ g1 g2 r1 r2 =>
   cases r2 with
   | @cons _ _ _ _ g3 g4 r3 r4 =>
     cases r1 with
     | @ins a dx _ gs _ fp1 ha rf =>
       obtain ⟨N4, rf', p⟩ := eZ.XF r3 rf
       have pm : (fp ++ ((a :: N4) ++ g4)).Perm (fp ++ ((a :: fp1) ++ (g3 ++ g4))) := by
         refine am2 fp ?_
         rw [← amr]
         refine List.Perm.append_right g4 ?_
         rw [amL]
         exact List.Perm.cons a p
       exact ⟨⟨fp, (a :: N4) ++ g4, e, .cons (.ins ha rf') r4, pm.nodup_iff.mpr nd, fun c hc => k c (pm.mem_iff.mp hc)⟩, S.bh, S.zz, S.zh, S.new, S.tp, S.tab⟩
end
def PAv (X : Cx) (CL : Str -> Addr) (b : Bx) (es : List Expr) (δ : List (Option T)) (dv : V -> List D) (t : T) (δ' : List (Option T)) : Prop :=
 ∀ (H Z : Hp) (σ : L2.St) (ts : List T) (vs : List V) (Q : List V -> Hp -> Prop), cj X.K CL b H Z δ σ ts vs →
   (∀ us H' Z' v, aQ Z Z' -> aQ H H' -> cj X.K CL b H' Z' δ' σ (t :: ts) (v :: vs) -> aX X.K CL H' (dv v) us -> Q us H') -> HF X es σ H Q
theorem T.zY {f : Str} {v : V} {P7 : List (Str × T)} (h2 : T.cz P7 = true) : ∀ {G8 : List (Str × T)}, T.cz G8 = true -> T.cz (G8 ++ (f, .sh (.val v)) :: P7) = true
 | [], _ => by rw [anQ, T.cz, h2]; rfl
 | (x, t) :: G8, h => by
   rw [T.cz, am1] at h
   rw [amL, T.cz, h.1, T.zY h2 h.2]; rfl
section
variable {X : Cx} {CL : Str -> Addr} {b : Bx} {δ δ1 δ2 : List (Option T)} {e o : Expr} {es : List Expr} {pos pp apos : Pos} {t : T} {ds : List D} {d : D} {dv : V -> List D}
theorem HW (h : cW X CL b e δ t δ1) (r : RT X CL b es δ1 ds δ2) (hs : notStar e = true := by rfl) : PAv X CL b y0.ag δ (fun v => .val v :: ds) t δ2 := fun H Z σ ts vs Q S k =>
 PJ (dc eS PF (bR hs)) (h H Z σ ts vs _ S fun v H1 Z1 z1 k1 S1 => r H1 Z1 σ _ _ _ S1 fun us H2 Z2 z2 k2 S2 r2 => k (v :: us) H2 Z2 v y0.F y0.S S2 (.cons (.val v) r2))
theorem u9 (h : d9 X CL b e δ d δ1) (r : PAv X CL b es δ1 dv t δ2) (hs : notStar e = true := by rfl) : PAv X CL b y0.ag δ (fun v => d :: dv v) t δ2 := fun H Z σ ts vs Q S k =>
 PJ (dc eS PF (bR hs)) (h H Z σ ts vs _ S fun v H1 Z1 z1 k1 S1 r1 => r H1 Z1 σ ts vs _ S1 fun us H2 Z2 v2 z2 k2 S2 r2 => k (v :: us) H2 Z2 v2 y0.F y0.S S2 (.cons (r1.mono k2) r2))
variable {A : Type} {k n : Nat} {arg : A -> List D} {Pre : A -> Prop} {x c m f : Str}
theorem mkP {res : A -> List (Str × T)} (a : V -> A) {G8 P7 : List (Str × T)} (F : Fm X CL x k n arg Pre res) (hg : Gl X x) (h : PAv X CL b (e :: es) δ dv t δ1) (ha : ∀ v, arg (a v) = dv v) (hp : ∀ v, Pre (a v)) (hr : ∀ v, res (a v) = G8 ++ (f, .sh (.val v)) :: P7) (hc : T.cz G8 = true) (wJ : T.cz P7 = true) (hn : ∀ v, (arg (a v)).length + 1 = n := by exact fun _ => rfl)
   (wH : y0.i = false := by decide) (he : starEach y0.ag X.env = (false, eval e X.env) :: starEach es X.env := by exact bR rfl) (hpl : (backTo pos y0.M).any (·.1) = false := by rfl) :
   cW X CL b y0.bO δ (.ins x (G8 ++ (f, t) :: P7)) δ1 := fun H Z σ ts vs Q S kk => by
 obtain ⟨f', fd, ps, M, F1, hm, hb⟩ := F.ex
 exact dG (NR M F1 F.room hg hm hb .nil Hy PF wH he hpl) (h H Z σ ts vs _ S fun us H1 Z1 v z1 k1 S1 r y dx hx hdx ne => by
   rw [amH]
   refine ⟨H1, H1, a v, y, dx, us, rfl, hx, hdx, ne, rfl, .refl _, fun _ _ q _ => q, by rw [ha]; exact r, hn v, hp v, S1.KQ, fun H' W' fp hh ww wh nw tp rt nd own => ⟨rfl, ?_⟩⟩
   obtain ⟨Z', z', S'⟩ := S1.back hh S1.zh ww wh nw tp rt nd own (.inr (by rw [T.clean, hr]; exact T.zY wJ hc))
   rw [hr] at S'
   exact kk _ H' Z' (z1.trans z') (k1.trans hh) S'.XF)
end
section
variable {X : Cx}
end
section
variable {X : Cx} {CL : Str -> Addr} {b : Bx} {δ δ1 : List (Option T)} {e : Expr} {pos pp : Pos} {l : List Bool}
end
namespace Rv
theorem P8 : PySem.Slot "reversed" "__init__" "object.__init__" :=
 .of (owner := "object") (n := "__init__") (by rw [typeLookup_type, builtinLookup_eq_fast]; kernel_rfl) y0.a y0.a y0.a
   (by first | exact .inl y0.a | exact .inr y0.a) (by rw [isSubtype_type]; kernel_rfl)
theorem called : TypeCalled "reversed" "reversed.__new__" "object.__init__" :=
 ⟨by decide +kernel, by decide +kernel, ⟨_, _, PySem.F.mro_reversed⟩, PySem.F.made_reversed, by decide +kernel, PySem.F.sub_reversed_self, P8⟩
def obj (t : Addr) (i : Int) : Obj := { cls := .type "reversed", data := .fields #[.ref t, rawInt i] }
section
variable {prog : Program} {w : World} {A : Around} {E : Value -> Shared -> Prop} {s : Shared}
end
end Rv
namespace Rv
section
variable {prog : Program} {w : World} {A : Around} {E : Value -> Shared -> Prop} {s : Shared}
end
end Rv
section
variable {X : Cx} {tg : Expr}
end
section
variable {X : Cx} {CL : Str -> Addr} {b : Bx} {δ δ1 : List (Option T)} {e : Expr} {ds : List D} {tg : Expr} {pr pc : Pos}
end
section
variable {X : Cx} {CL : Str -> Addr} {b : Bx} {δ δ1 : List (Option T)} {e : Expr} {t : T} {tl Tc tt tt0 : List T} {D : dN} {pos pp pa pb : Pos}
variable {fJ : List Stmt} {i i2 : Nat} {x y : Str} {DD : dN}
end
section
variable {X : Cx} {CL : Str -> Addr} {b : Bx} {δ δ1 : List (Option T)} {e : Expr} {ds : List D} {tg : Expr} {pr pc : Pos} {l : Bool}
end
section
variable {X : Cx} {CL : Str -> Addr} {b : Bx} {δ : List (Option T)}
def constInt : Expr -> Option Int
 | .Constant (.int i) _ _ => some i
 | .UnaryOp .USub (.Constant (.int i) _ _) _ => some (-i)
 | _ => none
def wY : List Expr -> Option (List Int)
 | [] => some []
 | e :: es => (constInt e).bind fun x => (wY es).map (x :: ·)
theorem P9 {e : Expr} {x : Int} (h : constInt e = some x) : cW X CL b e δ (.sh (.int x)) δ := by
 unfold constInt at h
 split at h
 . cases h; exact av
 . cases h; exact k9 (ah av)
 . cases h
theorem HX {e : Expr} {x : Int} (h : constInt e = some x) : notStar e = true := by
 unfold constInt at h
 split at h
 . rfl
 . rfl
 . cases h
theorem EI : ∀ {es : List Expr} {l : List Int}, wY es = some l -> PN X CL b es δ ((l.map D.int).map T.sh) δ
 | [], l, h => by
   have e : l = [] := (amK h).symm
   subst e
   exact b9
 | e :: es, l, h => by
   rw [wY] at h
   obtain ⟨x, hx, h⟩ := Option.bind_eq_some_iff.mp h
   obtain ⟨l', hl, rfl⟩ := Option.map_eq_some_iff.mp h
   exact bu (P9 hx) (EI hl) (bR (HX hx))
end
section
variable {K : PySem.W.Frag} {CL : Str -> Addr} {b : Bx} {H Z : Hp} {δ : List (Option T)} {σ : L2.St} {ts tl : List T} {vs : List V} {ds : List D} {us : List V}
end
section
variable {X : Cx} {CL : Str -> Addr} {b : Bx} {δ δ1 : List (Option T)} {e : Expr} {tl Tc : List T} {ds : List L3.D} {D : dN} {pos pp pa pb : Pos} {i : Nat} {x : Str} {fJ : List Stmt}
end
section
variable {X : Cx} {CL : Str -> Addr} {b : Bx} {δ δ1 δ2 δ3 : List (Option T)} {e e1 e2 : Expr} {ds uP : List L3.D} {pos p2 : Pos}
theorem cj.EJ {K : PySem.W.Frag} {H Z : Hp} {σ : L2.St} {ts : List T} {v : V} {vs : List V} {d : L3.D} (S : cj K CL b H Z δ σ (.sh d :: ts) (v :: vs)) : cy K CL Z d v := by
 obtain ⟨fp, gp, e0, r0, nd, ow⟩ := S.rep
 cases r0 with
 | cons q1 q2 =>
   cases q1 with
   | sh r => exact r
theorem TR (h1 : cW X CL b e1 δ (.sh (.tup ds)) δ1) (h2 : cW X CL b e2 δ1 (.sh (.tup uP)) δ2) (n1 : ds ≠ []) (n2 : uP ≠ []) (hz : ds.length + uP.length <= sizeLine) :
   cW X CL b (.BinOp e1 .Add e2 pos) δ (.sh (.tup (ds ++ uP))) δ2 := fun H Z σ ts vs Q S k =>
 dG (zJ NS eS eS) (h1 H Z σ ts vs _ S fun v1 H1 Z1 z1 k1 S1 => h2 H1 Z1 σ _ _ _ S1 fun v2 H2 Z2 z2 k2 S2 => by
   have r2 := S2.EJ
   have r1 := S2.pop.EJ
   cases r1 with
   | tup G7 K4 =>
     cases r2 with
     | tup Xl Wr =>
       have e1 := K4.length
       have e2 := Wr.length
       refine ⟨_, _, _, _, rfl, rfl, aQ.HD S2.zh G7, aQ.HD S2.zh Xl, fun z => n1 (aog (by rw [e1, z]; rfl)), by omega, fun z => absurd (aog (by rw [e2, z]; rfl)) n2, fun _ p hp => ?_⟩
       have rc := aX.app K4 Wr
       obtain ⟨a, c, S4⟩ := (cj.sZ rc S2.pop.pop).KY (by simp [rc.length, e1, e2]) hp
       obtain ⟨Z5, z5, S5⟩ := S4.KR
       rw [T.eF, kL] at S5
       exact k _ _ Z5 (z1.trans (z2.trans (a.trans z5))) (k1.trans (k2.trans c)) S5)
end
section
variable {a₀ xs : Array Keyed} {ι : Nat -> Nat} {n : Nat}
structure Tag (a₀ xs : Array Keyed) (ι : Nat -> Nat) (n : Nat) : Prop where
 pl : ∀ k, k < a₀.size -> xs[k]? = a₀[ι k]?
 lo : ∀ k, k < n -> ι k < n
 hi : ∀ k, n <= k -> ι k = k
def qE (xs : Array Keyed) (ι : Nat -> Nat) (n : Nat) : Prop := ∀ i j, i < j -> j < n -> PyProof.Rows.K xs i < PyProof.Rows.K xs j \/ (PyProof.Rows.K xs i = PyProof.Rows.K xs j /\ ι i < ι j)
def B9 (xs : Array Keyed) (ι : Nat -> Nat) (n : Nat) : Prop := ∀ i j, i < j -> j < n -> PyProof.Rows.K xs j < PyProof.Rows.K xs i \/ (PyProof.Rows.K xs j = PyProof.Rows.K xs i /\ ι j < ι i)
theorem Tag.grow (h : Tag a₀ xs ι n) : Tag a₀ xs ι (n + 1) := ⟨h.pl, fun k hk => by
   by_cases e : k < n
   . have := h.lo k e
     omega
   . have := h.hi k y0.b
     omega, fun k hk => h.hi k y0.b⟩
theorem Tag.aih (h : Tag a₀ xs ι n) {m : Nat} (hm : n <= m) : Tag a₀ xs ι m := ⟨h.pl, fun k hk => by
   by_cases e : k < n
   . have := h.lo k e
     omega
   . have := h.hi k y0.b
     omega, fun k hk => h.hi k y0.b⟩
def turned (ι : Nat -> Nat) (i j : Nat) : Nat -> Nat := fun k => if i <= k /\ k < j then ι (i + j - 1 - k) else ι k
theorem Tag.turn (h : Tag a₀ xs ι n) {i j : Nat} (hj : j <= n) (hn : n <= a₀.size) (hs : xs.size = a₀.size) : Tag a₀ (mirror xs i j ((j - i) / 2)) (turned ι i j) n := by
 refine ⟨fun k hk => ?_, fun k hk => ?_, fun k hk => ?_⟩
 . rw [getElem?_mirror_all y0.b]
   unfold turned
   split
   . exact h.pl _ y0.b
   . exact h.pl _ hk
 . unfold turned
   split
   . exact h.lo _ y0.b
   . exact h.lo _ hk
 . unfold turned
   rw [amg y0.b]
   exact h.hi k hk
def Qa (ι : Nat -> Nat) (k l : Nat) : Nat -> Nat := fun p => if p = l then ι k else if l < p /\ p <= k then ι (p - 1) else ι p
theorem Tag.sink (h : Tag a₀ xs ι n) {l : Nat} (hl : l <= n) (hn : n < a₀.size) (hs : xs.size = a₀.size) : Tag a₀ (bubble xs n (n - l)) (Qa ι n l) (n + 1) := by
 have hg := h.grow
 refine ⟨fun k hk => ?_, fun k hk => ?_, fun k hk => ?_⟩
 . rw [getElem?_bubble y0.b (n - l) y0.b, show n - (n - l) = l by omega]
   unfold Qa
   split
   . exact h.pl _ y0.b
   . split
     . exact h.pl _ y0.b
     . exact h.pl _ hk
 . unfold Qa
   split
   . exact hg.lo _ y0.b
   . split
     . exact hg.lo _ y0.b
     . exact hg.lo _ hk
 . unfold Qa
   rw [amg y0.b, amg y0.b]
   exact hg.hi k hk
theorem qE.le (h : qE xs ι n) {i j : Nat} (HY : i <= j) (hj : j < n) : PyProof.Rows.K xs i <= PyProof.Rows.K xs j := by
 by_cases e : i = j
 . subst e; exact Int.le_refl _
 . rcases h i j (by omega) hj with z | z <;> omega
end
section
variable {prog : Program} {w : World} {A : Around} {E : Value -> Shared -> Prop} {s : Shared} {a₀ : Array Keyed}
theorem HZ {st : SortSt} {ι : Nat -> Nat} {a gW : Nat} {Q : AscSt -> SortSt -> Prop} (h0 : IntKeys a₀) (hn : gW <= a₀.size) (ha : 1 <= a) (han : a <= gW) (hB : SBase a₀ st)
   (ht : Tag a₀ (arrOf st) ι a) (hs : qE y0.bx ι a)
   (h : ∀ n, a <= n -> n <= gW -> Tag a₀ (arrOf st) ι n -> qE y0.bx ι n -> (n = gW \/ PyProof.Rows.K y0.bx n < PyProof.Rows.K y0.bx (n - 1)) -> Q (none, n) st) :
   wpS y0.w A E s (ascLoop a gW) Q st := by
 unfold ascLoop
 refine aoq (I := fun x c z => z = st /\ c = (none, x) /\ Tag a₀ (arrOf st) ι x /\ qE y0.bx ι x) ?one ?all ⟨rfl, rfl, ht, hs⟩
 case all =>
   rintro c z ⟨rfl, rfl, t, o⟩
   have e : max a gW = gW := by omega
   rw [e] at t o ⊢
   exact h gW han (amo _) t o y0.az
 case one =>
   rintro x c z hax hxn ⟨rfl, rfl, t, o⟩
   dsimp only
   refine anj (wpS_ltK hB h0 y0.b y0.b ?_)
   by_cases hl : PyProof.Rows.K y0.aK x < PyProof.Rows.K y0.aK (x - 1)
   . simp only [hl, decide_true, aoi]
     exact anF (h x hax y0.b t o (.inr hl))
   . simp only [hl, decide_false, anl, an1]
     refine anF ⟨rfl, rfl, t.grow, fun i j HY hj => ?_⟩
     by_cases hjx : j < x
     . exact o i j HY hjx
     . have e : j = x := by omega
       subst e
       have q := o.le (i := i) (j := j - 1) y0.b y0.b
       have l1 := t.lo i HY
       have l2 := t.hi j (amo _)
       omega
theorem Ic {st : SortSt} {ι : Nat -> Nat} {n gW : Nat} {Q : Option Nat -> SortSt -> Prop} (h0 : IntKeys a₀) (hn : gW <= a₀.size) (h1 : 1 <= n) (XG : n <= gW) (hB : SBase a₀ st)
   (ht : Tag a₀ (arrOf st) ι n) (hs : B9 y0.bx ι n)
   (h : ∀ m z κ, SBase a₀ z -> 1 <= m -> m <= gW -> Tag a₀ (arrOf z) κ m -> qE y0.aK κ m -> Q (some m) z) :
   wpS y0.w A E s (tail3 n gW) Q st := by
 unfold tail3
 have hz : n <= (arrOf st).size := by rw [hB.size]; omega
 have hB2 : SBase a₀ (setArr st (mirror y0.bx 0 n ((n - 0) / 2))) := hB.setArr (mirror_perm _ _ _ _)
 refine anj (wpS_reverse ?_)
 refine anj (HZ (ι := turned ι 0 n) h0 hn h1 XG hB2 (ht.turn (amo _) y0.b hB.size) ?_ fun m m1 m2 t o _ => anF (h m _ _ hB2 y0.b m2 t o))
 intro i j HY hj
 show PyProof.Rows.K (mirror y0.bx 0 n ((n - 0) / 2)) i < PyProof.Rows.K (mirror y0.bx 0 n ((n - 0) / 2)) j \/ _
 rw [K_mirror hz, K_mirror hz, aml y0.b, aml y0.b]
 unfold turned
 rw [aml y0.b, aml y0.b]
 exact hs _ _ y0.b y0.b
structure yM (xs : Array Keyed) (ι : Nat -> Nat) (p x : Nat) : Prop where
 f : B9 xs ι p
 l : ∀ i j, i < p -> p <= j -> j < x -> PyProof.Rows.K xs j < PyProof.Rows.K xs i
 e : ∀ i j, p <= i -> i < j -> j < x -> PyProof.Rows.K xs i = PyProof.Rows.K xs j /\ ι i < ι j
theorem yM.one {xs : Array Keyed} {ι : Nat -> Nat} {p : Nat} (h : yM xs ι p (p + 1)) : B9 xs ι (p + 1) := fun i j HY hj => by
 by_cases e : j < p
 . exact h.f i j HY e
 . exact .inl (h.l i j y0.b y0.b hj)
theorem yM.turn {xs : Array Keyed} {ι : Nat -> Nat} {p x : Nat} (h : yM xs ι p x) (hx : x <= xs.size) : B9 (mirror xs p x ((x - p) / 2)) (turned ι p x) x := by
 intro i j HY hj
 rw [K_mirror hx, K_mirror hx]
 unfold turned
 by_cases hi : p <= i
 . rw [aml y0.b, aml y0.b, aml y0.b, aml y0.b]
   have q := h.e (p + x - 1 - j) (p + x - 1 - i) y0.b y0.b y0.b
   exact .inr ⟨q.1, q.2⟩
 . rw [amg (show ¬ (p <= i /\ i < x) by omega), amg (show ¬ (p <= i /\ i < x) by omega)]
   by_cases hjp : p <= j
   . rw [aml y0.b, aml y0.b]
     exact .inl (h.l _ _ y0.b y0.b y0.b)
   . rw [amg y0.b, amg y0.b]
     exact h.f i j HY y0.b
theorem B9.le {xs : Array Keyed} {ι : Nat -> Nat} {n : Nat} (h : B9 xs ι n) {i j : Nat} (HY : i <= j) (hj : j < n) : PyProof.Rows.K xs j <= PyProof.Rows.K xs i := by
 by_cases e : i = j
 . subst e; exact Int.le_refl _
 . rcases h i j (by omega) hj with z | z <;> omega
theorem B9.half {xs : Array Keyed} {ι : Nat -> Nat} {x : Nat} (h : B9 xs ι x) (hx : 0 < x) (hl : PyProof.Rows.K xs x < PyProof.Rows.K xs (x - 1)) : yM xs ι x (x + 1) :=
 ⟨h, fun i j hi h1 h2 => by
   have e : j = x := by omega
   subst e
   have := h.le (i := i) (j := j - 1) y0.b y0.b
   omega, fun i j h1 h2 h3 => by omega⟩
theorem Qc {st : SortSt} {ι : Nat -> Nat} {n gW : Nat} {Q : DescSt -> SortSt -> Prop} (h0 : IntKeys a₀) (hn : gW <= a₀.size) (XG : n + 1 <= gW) (hB : SBase a₀ st)
   (ht : Tag a₀ (arrOf st) ι (n + 1)) (hs : yM y0.bx ι n (n + 1))
   (h : ∀ m BZ z κ, SBase a₀ z -> n + 1 <= m -> m <= gW -> BZ + 1 <= m -> Tag a₀ (arrOf z) κ m -> yM y0.aK κ (m - (BZ + 1)) m -> Q (none, m, BZ) z) :
   wpS y0.w A E s (descLoop (n + 1) gW) Q st := by
 unfold descLoop
 refine aoq (I := fun x c z => ∃ BZ κ, c = (none, x, BZ) /\ SBase a₀ z /\ BZ + 1 <= x /\ Tag a₀ (arrOf z) κ x /\ yM y0.aK κ (x - (BZ + 1)) x) ?one ?all ⟨0, ι, rfl, hB, by omega, ht, hs⟩
 case all =>
   rintro c z ⟨BZ, κ, rfl, b2, q, t, o⟩
   have e : max (n + 1) gW = gW := by omega
   rw [e] at q t o ⊢
   exact h gW BZ z κ b2 XG (amo _) q t o
 case one =>
   rintro x c z hax hxn ⟨BZ, κ, rfl, b2, q, t, o⟩
   dsimp only
   have hz : x <= (arrOf z).size := by rw [b2.size]; omega
   refine anj (wpS_ltK b2 h0 y0.b y0.b ?_)
   by_cases hl : PyProof.Rows.K y0.aK x < PyProof.Rows.K y0.aK (x - 1)
   . simp only [hl, decide_true, aoi]
     by_cases hq : BZ > 0
     . rw [aml hq]
       have hm : ∀ k, PyProof.Rows.K (mirror y0.aK (x - (BZ + 1)) x ((x - (x - (BZ + 1))) / 2)) k = PyProof.Rows.K y0.aK k := K_mirror_equal hz fun k k1 k2 => by
         by_cases e : k = x - 1
         . rw [e]
         . exact (o.e k (x - 1) k1 y0.b y0.b).1
       refine anj (wpS_reverse (anF ⟨0, turned κ (x - (BZ + 1)) x, rfl, b2.setArr (mirror_perm _ _ _ _), by omega, (t.turn (amo _) y0.b b2.size).grow, ?_⟩))
       have hf := o.turn hz
       refine hf.half y0.b ?_
       rw [hm, hm]
       exact hl
     . rw [amg hq]
       have e0 : BZ = 0 := by omega
       subst e0
       obtain ⟨y, rfl⟩ : ∃ y, x = y + 1 := ⟨x - 1, by omega⟩
       have hf : B9 y0.aK κ (y + 1) := yM.one o
       exact anF ⟨0, κ, rfl, b2, by omega, t.grow, hf.half y0.b hl⟩
   . simp only [hl, decide_false, anl, an1]
     refine anj (wpS_ltK b2 h0 y0.b y0.b ?_)
     by_cases hg : PyProof.Rows.K y0.aK (x - 1) < PyProof.Rows.K y0.aK x
     . simp only [hg, decide_true, aoi]
       exact anF (h x BZ z κ b2 hax y0.b q t o)
     . simp only [hg, decide_false, anl, an1]
       have he : PyProof.Rows.K y0.aK x = PyProof.Rows.K y0.aK (x - 1) := Int.le_antisymm (Int.not_lt.mp hg) (Int.not_lt.mp hl)
       refine anF ⟨BZ + 1, κ, rfl, b2, by omega, t.grow, ?_⟩
       rw [show x + 1 - (BZ + 1 + 1) = x - (BZ + 1) by omega]
       refine ⟨o.f, fun i j hi h1 h2 => ?_, fun i j h1 h2 h3 => ?_⟩
       . by_cases e : j = x
         . rw [e, he]
           exact o.l i (x - 1) hi y0.b y0.b
         . exact o.l i j hi h1 y0.b
       . by_cases e : j = x
         . subst e
           have l1 := t.lo i h2
           have l2 := t.hi j (amo _)
           refine ⟨?_, by omega⟩
           rw [he]
           by_cases e2 : i = j - 1
           . rw [e2]
           . exact (o.e i (j - 1) h1 y0.b y0.b).1
         . exact o.e i j h1 h2 y0.b
theorem DH {st : SortSt} {ι : Nat -> Nat} {n gW : Nat} {Q : Option Nat -> SortSt -> Prop} (h0 : IntKeys a₀) (hn : gW <= a₀.size) (XG : n + 1 <= gW) (hB : SBase a₀ st)
   (ht : Tag a₀ (arrOf st) ι (n + 1)) (hs : yM y0.bx ι n (n + 1))
   (h : ∀ m z κ, SBase a₀ z -> 1 <= m -> m <= gW -> Tag a₀ (arrOf z) κ m -> qE y0.aK κ m -> Q (some m) z) :
   wpS y0.w A E s (descPart n gW) Q st := by
 unfold descPart
 refine anj (wpS_lift (wpAny_rule ⟨rfl, ?_⟩))
 refine anj (Qc h0 hn XG hB ht hs fun m BZ z κ b2 m1 m2 q t o => ?_)
 dsimp only
 have hz : m <= (arrOf z).size := by rw [b2.size]; omega
 by_cases hq : BZ > 0
 . rw [aml hq]
   exact anj (wpS_reverse (Ic h0 hn y0.b m2 (b2.setArr (mirror_perm _ _ _ _)) (t.turn (amo _) y0.b b2.size) (o.turn hz) h))
 . rw [amg hq]
   have e0 : BZ = 0 := by omega
   subst e0
   obtain ⟨y, rfl⟩ : ∃ y, m = y + 1 := ⟨m - 1, by omega⟩
   exact Ic h0 hn y0.b m2 b2 t (yM.one o) h
theorem TV {st : SortSt} {gW : Nat} {Q : Option Nat -> SortSt -> Prop} (h0 : IntKeys a₀) (hn : gW <= a₀.size) (h1 : 1 <= gW) (hB : SBase a₀ st) (ht : Tag a₀ (arrOf st) id 0)
   (h : ∀ m z κ, SBase a₀ z -> 1 <= m -> m <= gW -> Tag a₀ (arrOf z) κ m -> qE y0.aK κ m -> Q (some m) z) :
   wpS y0.w A E s (countRun' 0 gW) Q st := by
 rw [countRun0_eq]
 refine anj (HZ (ι := id) h0 hn (amo 1) h1 hB (ht.aih y0.b) (fun i j HY hj => by omega) fun n n1 n2 t o hor => ?_)
 dsimp only
 by_cases XG : n = gW
 . rw [if_pos (by simpa using XG)]
   exact anF (h n st id hB n1 n2 t o)
 . rw [if_neg (by simpa using XG)]
   have tV := hor.resolve_left XG
   have hz : n <= (arrOf st).size := by rw [hB.size]; omega
   by_cases hgt : n > 1
   . rw [aml hgt]
     refine anj (wpS_ltK hB h0 y0.b y0.b ?_)
     by_cases hr : PyProof.Rows.K y0.bx 0 < PyProof.Rows.K y0.bx (n - 1)
     . simp only [hr, decide_true, aoi]
       exact anF (h n st id hB n1 n2 t o)
     . simp only [hr, decide_false, anl, an1]
       have Qd : ∀ k, 0 <= k -> k < n -> PyProof.Rows.K y0.bx k = PyProof.Rows.K y0.bx (n - 1) := fun k _ hk => by
         have a1 := o.le (i := 0) (j := k) y0.b hk
         have a2 := o.le (i := k) (j := n - 1) y0.b y0.b
         omega
       have hm := K_mirror_equal (i := 0) hz Qd
       refine anj (wpS_reverse (DH (ι := turned id 0 n) h0 hn y0.b (hB.setArr (mirror_perm _ _ _ _)) (t.turn (amo _) y0.b hB.size).grow ?_ h))
       have hh : yM y0.bx id 0 n := ⟨fun i j _ hj => by omega, fun i j hi => by omega, fun i j i1 i2 i3 => ⟨by rw [Qd i y0.b y0.b, Qd j y0.b i3], i2⟩⟩
       refine (hh.turn hz).half y0.b ?_
       rw [hm, hm]
       exact tV
   . rw [amg hgt]
     have e1 : n = 1 := by omega
     subst e1
     exact DH h0 hn y0.b hB t.grow ((show B9 y0.bx id 1 from fun i j HY hj => by omega).half y0.b tV) h
theorem aci {l r k x : Nat} (h1 : l <= r) (h2 : r <= k) (h3 : r - l <= k - x) (h4 : ¬ l ≥ r) : l <= (l + r) / 2 /\ (l + r) / 2 <= k /\ (l + r) / 2 - l <= k - (x + 1) /\ (l + r) / 2 + 1 <= r /\ r - ((l + r) / 2 + 1) <= k - (x + 1) /\ (l + r) / 2 < k := by
 have a : l <= (l + r) / 2 := by omega
 have b : (l + r) / 2 < r := by omega
 generalize (l + r) / 2 = m at a b
 clear h1
 refine ⟨a, ?_, ?_, b, ?_, ?_⟩ <;> omega
theorem TX {st : SortSt} {ι : Nat -> Nat} {n ok : Nat} {Q : Bool -> SortSt -> Prop} (h0 : IntKeys a₀) (hn : n <= a₀.size) (dM : ok <= n) (ho1 : 1 <= ok) (hB : SBase a₀ st) (ht : Tag a₀ (arrOf st) ι ok) (hs : qE (arrOf st) ι ok)
   (h : ∀ z κ, SBase a₀ z -> Tag a₀ (arrOf z) κ n -> qE y0.aK κ n -> Q true z) : wpS y0.w A E s (binarySort' 0 n ok) Q st := by
 rw [binarySort'_eq]
 simp only [Nat.zero_add]
 refine anj (wpS_mono (aoq (I := fun k c z => c = (none, ()) /\ SBase a₀ z /\ ∃ κ, Tag a₀ (arrOf z) κ k /\ qE y0.aK κ k)
   (Q := fun c z => c = (none, ()) /\ SBase a₀ z /\ ∃ κ, Tag a₀ (arrOf z) κ n /\ qE y0.aK κ n) ?one ?all ?new) ?post)
 case post =>
   rintro c z ⟨rfl, b2, κ, t, o⟩
   exact anF (h z κ b2 t o)
 case new =>
   rw [show max ok 1 = ok by omega]
   exact ⟨rfl, hB, ι, ht, hs⟩
 case all =>
   rintro c z ⟨hc, b2, κ, t, o⟩
   rw [show max (max ok 1) n = n by omega] at t o
   exact ⟨hc, b2, κ, t, o⟩
 case one =>
   rintro k c z Ws hkn ⟨rfl, b2, κ, t, o⟩
   have hk : k < a₀.size := by omega
   refine anj (wpS_mono (aoq (I := fun x c y => y = z /\ ∃ l r, c = (none, l, r) /\ l <= r /\ r <= k /\ r - l <= k - x /\ (∀ i, i < l -> PyProof.Rows.K y0.aK i <= PyProof.Rows.K y0.aK k) /\ (∀ i, r <= i -> i < k -> PyProof.Rows.K y0.aK k < PyProof.Rows.K y0.aK i))
     (Q := fun c y => y = z /\ ∃ l r, c = (none, l, r) /\ l <= k /\ (∀ i, i < l -> PyProof.Rows.K y0.aK i <= PyProof.Rows.K y0.aK k) /\ (∀ i, l <= i -> i < k -> PyProof.Rows.K y0.aK k < PyProof.Rows.K y0.aK i)) ?two ?fin ?beg) ?aft)
   case beg => exact ⟨rfl, 0, k, rfl, by omega, by omega, by omega, fun i hi => by omega, fun i g1 g2 => by omega⟩
   case fin =>
     rintro c y ⟨rfl, l, r, rfl, g1, g2, g3, g4, g5⟩
     have e : l = r := by omega
     subst e
     exact ⟨rfl, l, l, rfl, g2, g4, g5⟩
   case two =>
     rintro x c y _ hxk ⟨rfl, l, r, rfl, g1, g2, g3, g4, g5⟩
     dsimp only
     by_cases hge : l ≥ r
     . rw [aml hge]
       have e : l = r := by omega
       subst e
       exact anF ⟨rfl, l, l, rfl, g2, g4, g5⟩
     . rw [amg hge]
       have M := aci g1 g2 g3 hge
       refine anj (wpS_ltK b2 h0 hk (Nat.lt_trans M.2.2.2.2.2 hk) ?_)
       by_cases hl : PyProof.Rows.K (arrOf y) k < PyProof.Rows.K (arrOf y) ((l + r) / 2)
       . simp only [hl, decide_true, aoi]
         exact anF ⟨rfl, l, (l + r) / 2, rfl, M.1, M.2.1, M.2.2.1, g4, fun i i1 i2 => Int.lt_of_lt_of_le hl (o.le i1 i2)⟩
       . simp only [hl, decide_false, anl, an1]
         exact anF ⟨rfl, (l + r) / 2 + 1, r, rfl, M.2.2.2.1, g2, M.2.2.2.2.1, fun i i1 => Int.le_trans (o.le (i := i) (j := (l + r) / 2) (Nat.lt_succ_iff.mp i1) M.2.2.2.2.2) (Int.not_lt.mp hl), g5⟩
   case aft =>
     rintro c y ⟨rfl, l, r, rfl, g2, g4, g5⟩
     show wpS _ _ _ _ (do moveDown' k l; pure (ForInStep.yield (none, ()))) _ _
     rw [moveDown'_eq]
     have hks : k < (arrOf y).size := by rw [b2.size]; exact hk
     refine anj (wpS_modify (anF ⟨rfl, b2.setArr (bubble_perm _ _ _), Qa κ k l, t.sink g2 hk b2.size, ?_⟩))
     intro i j HY hj
     show PyProof.Rows.K (bubble (arrOf y) k (k - l)) i < PyProof.Rows.K (bubble (arrOf y) k (k - l)) j \/ (PyProof.Rows.K (bubble (arrOf y) k (k - l)) i = PyProof.Rows.K (bubble (arrOf y) k (k - l)) j /\ _)
     rw [K_bubble hks y0.b, K_bubble hks y0.b, show k - (k - l) = l by omega]
     unfold Qa
     have tk := t.hi k (amo _)
     by_cases ei : i = l
     . rw [aml ei, aml ei, amg (show ¬ j = l by omega), amg (show ¬ j = l by omega), aml y0.b, aml y0.b]
       exact .inl (g5 _ y0.b y0.b)
     . rw [amg ei, amg ei]
       by_cases ej : j = l
       . rw [aml ej, aml ej, amg y0.b, amg y0.b]
         have := g4 i y0.b
         have := t.lo i y0.b
         omega
       . rw [amg ej, amg ej]
         by_cases hi : l < i /\ i <= k
         . rw [aml hi, aml hi, aml y0.b, aml y0.b]
           exact o _ _ y0.b y0.b
         . rw [amg hi, amg hi]
           by_cases hj2 : l < j /\ j <= k
           . rw [aml hj2, aml hj2]
             exact o _ _ y0.b y0.b
           . rw [amg hj2, amg hj2]
             exact o _ _ y0.b y0.b
def TY (a₀ : Array Keyed) (st : SortSt) : Prop := failedOf st = none /\ pendingOf st = #[(0, a₀.size, 0)] /\ ∃ κ, Tag a₀ (arrOf st) κ a₀.size /\ qE y0.bx κ a₀.size /\ (arrOf st).size = a₀.size
theorem aaD {st : SortSt} {κ : Nat -> Nat} (hB : SBase a₀ st) (t : Tag a₀ (arrOf st) κ a₀.size) (o : qE (arrOf st) κ a₀.size) : TY a₀ (setPending st ((pendingOf st).push (0, a₀.size, 0))) :=
 ⟨hB.failed, by show (pendingOf st).push _ = _; rw [hB.pend]; rfl, κ, t, o, hB.size⟩
theorem Qe {st : SortSt} {Q : Unit -> SortSt -> Prop} (h0 : IntKeys a₀) (hB : SBase a₀ st) (ht : Tag a₀ (arrOf st) id 0) (h2 : 2 <= a₀.size) (h64 : a₀.size < 64)
   (h : ∀ z κ, failedOf z = none -> Tag a₀ (arrOf z) κ a₀.size -> qE y0.aK κ a₀.size -> (arrOf z).size = a₀.size -> Q () z) : wpS y0.w A E s sortRuns' Q st := by
 rw [sortRuns'_eq]
 refine anj (wpS_get ?_)
 dsimp only
 have hmr : minRun' a₀.size a₀.size 0 = a₀.size := by
   obtain ⟨f, hf⟩ : ∃ f, a₀.size = f + 1 := ⟨a₀.size - 1, by omega⟩
   have q : minRun' (f + 1) a₀.size 0 = a₀.size := by
     rw [minRun'_succ, aml h64]
     rfl
   rwa [← hf] at q
 rw [hB.size, hmr]
 refine anj (wpS_mono (aoq (I := fun x c z => (x = 0 /\ c = (none, 0) /\ SBase a₀ z /\ Tag a₀ (arrOf z) id 0) \/ (1 <= x /\ c = (none, a₀.size) /\ TY a₀ z))
   (Q := fun c z => c = (none, a₀.size) /\ TY a₀ z) ?one ?all (.inl ⟨rfl, rfl, hB, ht⟩)) ?aft)
 case all =>
   rintro c z (⟨hx, _⟩ | ⟨_, hc, hD⟩)
   . omega
   . exact ⟨hc, hD⟩
 case one =>
   rintro x c z _ hx (⟨rfl, rfl, b2, t0⟩ | ⟨hx1, rfl, hD⟩)
   . dsimp only
     rw [amg y0.b]
     rw [Nat.sub_zero, Nat.min_self, Nat.zero_add]
     refine anj (TV h0 (amo _) y0.b b2 t0 fun m z2 κ b3 m1 m2 t o => ?_)
     dsimp only
     by_cases hl : m < a₀.size
     . rw [aml hl]
       refine anj (wpS_lift (wpAny_rule ⟨rfl, ?_⟩))
       refine anj (TX h0 (amo _) m2 m1 b3 t o fun z3 κ3 b4 t4 o4 => ?_)
       simp only [Bool.not_true, anl, an1]
       refine anj (wpS_get ?_)
       have hb : (pendingOf z3).back? = none := by rw [b4.pend]; rfl
       rw [hb]
       dsimp only
       exact anj (wpS_modify (anF (.inr ⟨by omega, by first | rfl | rw [Nat.zero_add], aaD b4 t4 o4⟩)))
     . rw [amg hl]
       have hm : m = a₀.size := by omega
       subst hm
       refine anj (wpS_get ?_)
       have hb : (pendingOf z2).back? = none := by rw [b3.pend]; rfl
       rw [hb]
       dsimp only
       exact anj (wpS_modify (anF (.inr ⟨by omega, by first | rfl | rw [Nat.zero_add], aaD b3 t o⟩)))
   . dsimp only
     rw [aml (amo _)]
     exact anF ⟨rfl, hD⟩
 case aft =>
   rintro c z ⟨rfl, hD⟩
   dsimp only
   refine anj (wpS_mono (aoq (I := fun _ c y => y = z /\ c = (none, ())) (Q := fun c y => y = z /\ c = (none, ())) ?_ (fun _ _ q => q) ⟨rfl, rfl⟩) ?_)
   . rintro x c y _ _ ⟨rfl, rfl⟩
     refine anj (wpS_get ?_)
     rw [aml (by rw [hD.2.1]; exact amo 1)]
     exact anF ⟨rfl, rfl⟩
   . rintro c y ⟨rfl, rfl⟩
     obtain ⟨κ, t, o, z1⟩ := hD.2.2
     exact anF (h _ κ hD.1 t o z1)
end
section
variable {X : Cx}
end
section
variable {X : Cx} {CL : Str -> Addr} {b : Bx} {δ δ1 : List (Option T)} {e : Expr} {pos pp p1 p2 : Pos} {kj : Nat}
end
section
variable {X : Cx} {i : Nat} {x : Str}
theorem mkL (hi : X.N[i]? = some x) (h : X.env.scope.names.lookup x = some .local) (hf : X.fn x = true) (hd : (x == ("__debug__" : Str)) = false := by decide) (hc : y0.q = false := by decide) : Ln X i x := ⟨⟨hi, .inl h, hd, hc⟩, .inl h, .inl hf⟩
theorem mkC (hi : X.N[i]? = some x) (h : X.env.scope.names.lookup x = some .cell) (hf : X.fn x = true) (hd : (x == ("__debug__" : Str)) = false := by decide) (hc : y0.q = false := by decide) : Ln X i x := ⟨⟨hi, .inr (.inl h), hd, hc⟩, .inr h, .inl hf⟩
end
theorem dS {P : Program} {w : World} {K : PySem.W.Frag} {mg : Str -> Option Value} {base : Heap} {k : Nat} {f : Addr} {fd : FuncData} {ps : List Str} {sp : Sp} {x : Str} (G : cV P w K mg base iT k f fd ps sp) (m : mg x = some (.ref f)) (q : PySem.W.keepIn K (.ref f) = true) (b : Binds K fd ps []) :
   ∃ f fd ps, cV P w K mg base iT k f fd ps sp /\ mg x = some (.ref f) /\ PySem.W.keepIn K (.ref f) = true /\ Binds K fd ps [] := ⟨_, _, _, G, m, q, b⟩
section
variable {X : Cx} {CL : Str -> Addr} {b : Bx} {δ δ1 δc : List (Option T)} {scope : Scope} {y : Str} {Nc : List Str} {ix : List Nat} {elt iter : Expr} {ifs : List Expr} {px pc pos : Pos} {p : L3.D -> Bool} {g : L3.D -> T} {ds : List L3.D}
theorem afF (sc : iN X scope y Nc ix) : qC X scope [y] Nc ix := ⟨sc.kind, sc.wO, sc.nd, sc.names, (fun x hx => by rw [amQ] at hx; subst hx; exact sc.own), sc.frees, sc.hd, sc.ixs⟩
theorem afG (sc : iN X scope y Nc ix) (h : Block X CL scope Nc ifs elt δc ds p g) (h1 : (y == ("__debug__" : Str)) = false) (h2 : (y == ("__classdict__" : Str)) = false) : wW X CL scope Nc [y].length (.Name y px) part1 ifs elt δc ds p g := fun C s0 H0 f0 b' =>
 ⟨Tt (i := 0) sc.nd (ace (by rw [sc.hd]; rfl) sc.own h1 h2), fun d hd => ⟨[d], rfl, rfl, (h C s0 H0 f0 b' d hd).1, (h C s0 H0 f0 b' d hd).2⟩⟩
theorem vd (sc : iN X scope y Nc ix) (hc : X.calm = true) (h : Xb X CL b (.Name y px) iter δ ds δ1) (hb : (δc = B7 δ1 ix /\ ∀ d ∈ ds, (g d).clean = true) \/ δc = HL δ1 ix) (inner : Block X CL scope Nc ifs elt δc ds p g) (hlen : ds.length <= sizeLine)
   (hs : ∀ x, foldedSetIterable iter X.env x = pure x := by intro _; rfl) (h1 : (y == ("__debug__" : Str)) = false := by decide) (h2 : (y == ("__classdict__" : Str)) = false := by decide) : cW X CL b (.ListComp elt [⟨.Name y px, iter, ifs, 0⟩] scope pos) δ (.lst ((ds.filter p).map g)) δ1 :=
 HV (xs := [y]) (afF sc) hc (aax h) hb (afG sc inner h1 h2) hlen hs
theorem pC {D : dN} {fJ : List Stmt} {i : Nat} {x : Str} {pos' : Pos} {gg : L3.D -> T} (g : Gx X) (n : Ln X i x) (sc : iN X scope y Nc ix) (h : Xb X CL b (.Name y px) iter δ ds δ1) (hb : (δc = B7 δ1 ix /\ ∀ d ∈ ds, (gg d).clean = true) \/ δc = HL δ1 ix) (inner : Block X CL scope Nc ifs elt δc ds p gg)
   (hlen : ds.length <= sizeLine) (k : fD X CL b fJ (δ1.set i (some (.lst ((ds.filter p).map gg)))) D) (hl : i < δ1.length)
   (K2 : swapsWith y0.aQ y0.aw pos.line X.env = pure true \/ swapsWith y0.aQ y0.aw pos.line X.env = pure false) (hs : ∀ x, foldedSetIterable iter X.env x = pure x := by intro _; rfl)
   (h1 : (y == ("__debug__" : Str)) = false := by decide) (h2 : (y == ("__classdict__" : Str)) = false := by decide) : fD X CL b (.Assign [.Name x pos'] y0.aQ pos :: fJ) δ D :=
 acd (xs := [y]) g n (afF sc) (aax h) hb (afG sc inner h1 h2) hlen k hl K2 hs
end
section
variable {X : Cx} {CL : Str -> Addr} {b : Bx} {δ : List (Option T)} {i : Nat} {x : Str} {d : L3.D} {pos : Pos}
theorem aP (n : Ln X i x) (h : δ[i]? = some (some (.sh d)) := by rfl) : d9 X CL b y0.am δ d δ := ah (v_ n.1 h)
end
structure dJ (X : Cx) : Prop where
 g : Gx X
 u : X.A.units + 64 < cLine
abbrev aR (X : Cx) (CL : Str -> Addr) (b : Bx) (st : Stmt) (N : List Str) (l : List L3.D) (r : T) : Prop := fD X CL b (fK st) (entry N l) { nx := fun _ => r = .sh .non, rt := fun K9 _ => K9 = r }
abbrev aH : NameKind := .globalImplicit
abbrev aJ : NameKind := .local
theorem bJ {N P : List Str} {sc : Scope} (h1 : sc.kind = .function := by rfl) (h2 : sc.isCoroutine = false := by rfl) (h3 : sc.isGenerator = false := by rfl) (h4 : N.Nodup := by decide +kernel) (h5 : N.take P.length = P := by rfl) (h6 : ∀ x ∈ P, sc.names.lookup x = some .local \/ sc.names.lookup x = some .cell := by decide +kernel) (h7 : ∀ y ∈ sc.names, y.2 ≠ .free := by decide +kernel) : bC N P sc := ⟨h1, h2, h3, h4, h5, h6, h7⟩
section
variable {X : Cx} {i : Nat} {x : Str} {tb : List (Str × NameKind)}
theorem bK (c : n9 X.env.scope tb = true) (j : Nat) (hj : tb[j]? = some (x, .local) := by rfl) (hi : X.N[i]? = some x := by rfl) (hf : X.fn x = true := by rfl) (hd : y0.i = false := by decide) (hc : y0.q = false := by decide) : Ln X i x := mkL hi (eu c j hj) hf hd hc
theorem La (c : n9 X.env.scope tb = true) (j : Nat) (hj : tb[j]? = some (x, .cell) := by rfl) (hi : X.N[i]? = some x := by rfl) (hf : X.fn x = true := by rfl) (hd : y0.i = false := by decide) (hc : y0.q = false := by decide) : Ln X i x := mkC hi (eu c j hj) hf hd hc
theorem cG (c : n9 X.env.scope tb = true) (j : Nat) (hj : tb[j]? = some (x, .globalImplicit) := by rfl) : Gl X x := eu c j hj
theorem dP {CL : Str -> Addr} {k n m : Nat} {A : Type} {arg : A -> List D} {Pre : A -> Prop} {res : A -> T} (F : ∃ f fd ps, cV X.prog X.w X.K X.mg X.base iT k f fd ps (n8 X.K CL n arg Pre res) /\ X.mg x = some (.ref f) /\ PySem.W.keepIn X.K (.ref f) = true /\ Binds X.K fd ps []) (r : gb m X.A) (h : k <= m := by decide) : Fc X CL x k n arg Pre res := ⟨F, r.mono h⟩
end
section
variable {K : PySem.W.Frag} {CL : Str -> Addr} {b : Bx} {H H' Z Z' : Hp} {δ δ' : List (Option T)} {σ σ' : L2.St} {ts tl : List T} {vs us : List V} {t : T} {v : V} {y : Addr} {i : Nat}
end
section
variable {K : PySem.W.Frag} {CL : Str -> Addr} {b : Bx} {H Z : Hp} {σ : L2.St} {ts : List T} {vs : List V}
end
section
variable {X : Cx} {CL : Str -> Addr} {b : Bx} {δ δ1 δ2 : List (Option T)} {e : Expr} {es : List Expr} {t : T} {d : L3.D} {pos pp : Pos} {D : dN} {i : Nat} {x : Str} {is : List Nat} {fx : List Addr -> Prop} {al : List Addr -> List T} {y : Addr}
def TEm (X : Cx) (CL : Str -> Addr) (b : Bx) (e : Expr) (δ : List (Option T)) (t : T) (δ' : List (Option T)) : Prop :=
 ∀ (H Z : Hp) (σ : L2.St) (ts : List T) (vs : List V) (Q : VK), cj X.K CL b H Z δ σ ts vs -> (∀ v H' Z', aQ Z Z' -> cj X.K CL b H' Z' δ' σ (t :: ts) (v :: vs) -> Q v H') -> zN X e σ H Q
theorem XH (i : Nat) {x : Str} {pos' : Pos} (h : TEm X CL b e δ t δ1) (k : D.nx (δ1.set i (some t))) (hl : i < δ1.length := by decide) (hN : X.N.Nodup := by assumption) (hi : X.N[i]? = some x := by rfl) (hx : Loc X.env.scope x := by first | exact .inl rfl | exact .inr rfl)
   (hs : swapsWith e y0.aw pos.line X.env = pure false := by rfl) (hf : X.fn x = true \/ X.env.scope.names.lookup x = some .local := by first | exact .inl rfl | exact .inr rfl | assumption) : W3 X CL b (.Assign [.Name x pos'] e pos) δ D := fun H Z σ ts vs E S M =>
 wM (R6 hN hi hx eS hs hf) (h H Z σ ts vs _ S fun v H1 Z1 z1 S1 => M.nx _ _ H1 Z1 z1 (S1.set hl) k)
variable {fJ : List Stmt}
theorem T3 {pos' : Pos} (g : Gx X) (n : Ln X i x) (h : TEm X CL b e δ t δ1) (k : fD X CL b fJ (δ1.set i (some t)) D) (hl : i < δ1.length := by exact amm rfl) (hs : swapsWith e y0.aw pos.line X.env = pure false := by rfl) :
   fD X CL b (.Assign [.Name x pos'] e pos :: fJ) δ D := dZ (XH i h k hl g.nd n.hi n.loc hs n.hf)
end
section
variable {X : Cx} {CL : Str -> Addr} {b : Bx} {δ δ1 δ2 : List (Option T)} {e e2 : Expr} {t : T} {tl Tc Xy : List T} {D : dN} {pos pp pa pb : Pos} {y : Addr} {fJ : List Stmt}
section
variable {i : Nat} {x : Str}
end
end
def pD {α : Type} (g : α -> Int) (x : α) : List α -> List α
 | [] => [x]
 | y :: l => if g x <= g y then x :: y :: l else y :: pD g x l
def gX {α : Type} (g : α -> Int) : List α -> List α
 | [] => []
 | x :: l => pD g x (gX g l)
section
variable {α β : Type} {g : α -> Int}
theorem wZ (x : α) : ∀ l, (pD g x l).Perm (x :: l)
 | [] => .refl _
 | y :: l => by
   rw [pD]
   split
   . exact .refl _
   . exact ((wZ x l).cons y).trans (.swap x y l)
theorem tW : ∀ l : List α, (gX g l).Perm l
 | [] => .refl _
 | x :: l => (wZ x (gX g l)).trans ((tW l).cons x)
theorem w4 {l : List α} {x : α} : x ∈ gX g l ↔ x ∈ l := (tW l).mem_iff
theorem rW (l : List α) : (gX g l).length = l.length := (tW l).length_eq
theorem Ie (f : β -> α) (x : β) : ∀ l, pD g (f x) (l.map f) = (pD (fun y => g (f y)) x l).map f
 | [] => rfl
 | y :: l => by
   rw [amD, pD, pD]
   split
   . rfl
   . rw [amD, Ie f x l]
theorem rX (f : β -> α) : ∀ l : List β, gX g (l.map f) = (gX (fun y => g (f y)) l).map f
 | [] => rfl
 | x :: l => by rw [amD, gX, gX, rX f l, Ie]
def Lb (g : Nat -> Int) (i j : Nat) : Prop := g i < g j \/ (g i = g j /\ i < j)
theorem Lb.trans {g : Nat -> Int} {i j k : Nat} (a : Lb g i j) (b : Lb g j k) : Lb g i k := by
 unfold Lb at *; omega
theorem Lb.irr {g : Nat -> Int} {i : Nat} (a : Lb g i i) : False := by unfold Lb at a; omega
theorem Ig {g : Nat -> Int} {x : Nat} : ∀ {l : List Nat}, l.Pairwise (Lb g) -> (∀ y ∈ l, x < y) -> (pD g x l).Pairwise (Lb g)
 | [], _, _ => anA _ _
 | y :: l, h, hx => by
   obtain ⟨h1, h2⟩ := am9.mp h
   rw [pD]
   split
   . rename_i e
     refine am9.mpr ⟨fun z hz => ?_, h⟩
     have a1 : Lb g x y := by have := hx y amj; unfold Lb; omega
     rcases amt.mp hz with rfl | hz
     . exact a1
     . exact a1.trans (h1 z hz)
   . rename_i e
     refine am9.mpr ⟨fun z hz => ?_, Ig h2 fun z hz => hx z (amn _ hz)⟩
     rcases amt.mp ((wZ x l).mem_iff.mp hz) with rfl | hz
     . left; omega
     . exact h1 z hz
theorem DI {g : Nat -> Int} : ∀ {l : List Nat}, l.Pairwise (· < ·) -> (gX g l).Pairwise (Lb g)
 | [], _ => .nil
 | x :: l, h => by
   obtain ⟨h1, h2⟩ := am9.mp h
   exact Ig (DI h2) fun y hy => h1 y (w4.mp hy)
theorem EK {g : Nat -> Int} : ∀ {S A : List Nat}, S.Pairwise (Lb g) -> A.Pairwise (Lb g) -> (∀ a ∈ A, a ∈ S) -> A.length <= S.length /\ (A.length = S.length -> A = S)
 | [], A, _, _, h => by
   cases A with
   | nil => exact ⟨amo _, fun _ => rfl⟩
   | cons a A => exact absurd (h a amj) y0.C
 | s :: S, [], _, _, _ => ⟨amM _, fun e => by simp at e⟩
 | s :: S, a :: A, hS, hA, h => by
   obtain ⟨s1, s2⟩ := am9.mp hS
   obtain ⟨a1, a2⟩ := am9.mp hA
   by_cases e : a = s
   . subst e
     have q := EK s2 a2 fun z hz => (amt.mp (h z (amn _ hz))).resolve_left fun e => by subst e; exact (a1 _ hz).irr
     refine ⟨by simpa using q.1, fun e => by rw [q.2 y0.aP]⟩
   . have ha : a ∈ S := (amt.mp (h a amj)).resolve_left e
     have q := EK (A := a :: A) s2 hA fun z hz => by
       rcases amt.mp hz with rfl | hz
       . exact ha
       . refine (amt.mp (h z (amn _ hz))).resolve_left fun e2 => ?_
         subst e2
         exact ((s1 a ha).trans (a1 _ hz)).irr
     exact ⟨by have := q.1; simp at this ⊢; omega, fun e3 => by have := q.1; simp at this e3; omega⟩
theorem T4 {l r : List α} {κ : Nat -> Nat} (hn : r.length = l.length) (pl : ∀ k, k < l.length -> r[k]? = l[κ k]?) (lo : ∀ k, k < l.length -> κ k < l.length)
   (st : ∀ i j x y, i < j -> r[i]? = some x -> r[j]? = some y -> g x < g y \/ (g x = g y /\ κ i < κ j)) : r = gX g l := by
 cases l with
 | nil => cases r with
   | nil => rfl
   | cons a r => simp at hn
 | cons d l0 =>
   generalize hl : d :: l0 = l at *
   let f : Nat -> α := fun i => (l[i]?).getD d
   have hf : ∀ i, i < l.length -> l[i]? = some (f i) := fun i hi => by
     show _ = some ((l[i]?).getD d)
     rw [amq hi]; rfl
   have el : l = (List.range l.length).map f := an3 fun i => by
     rw [amT]
     by_cases hi : i < l.length
     . rw [hf i hi, anr hi]; rfl
     . rw [List.getElem?_eq_none y0.b, List.getElem?_eq_none y0.aC]; rfl
   have er : r = ((List.range l.length).map κ).map f := an3 fun i => by
     rw [amT, amT]
     by_cases hi : i < l.length
     . rw [pl i hi, hf _ (lo i hi), anr hi]; rfl
     . rw [List.getElem?_eq_none y0.b, List.getElem?_eq_none y0.aC]; rfl
   have gr : ∀ k, k < l.length -> r[k]? = some (f (κ k)) := fun k hk => (pl k hk).trans (hf _ (lo k hk))
   have eA : (List.range l.length).map κ = gX (fun i => g (f i)) (List.range l.length) := by
     refine (EK (DI (List.pairwise_lt_range)) (List.pairwise_map.mpr ?_) fun a ha => ?_).2 ?_
     . refine List.Pairwise.imp_of_mem (R := (· < ·)) (fun {i j} hi hj HY => ?_) List.pairwise_lt_range
       exact st i j _ _ HY (gr i (amZ.mp hi)) (gr j (amZ.mp hj))
     . obtain ⟨k, hk, rfl⟩ := amI.mp ha
       exact w4.mpr (amZ.mpr (lo k (amZ.mp hk)))
     . rw [amh, rW]
   rw [er, eA, ← rX, ← el]
end
theorem DJ {α : Type} {g : α -> Int} {x : α} : ∀ {A B : List α}, (∀ y ∈ A, g y < g x) -> pD g x (A ++ B) = A ++ pD g x B
 | [], _, _ => rfl
 | a :: A, B, h => by
   have ha := h a amj
   rw [amL, pD, amg y0.b, DJ fun y hy => h y (amn _ hy), amL]
theorem Lc {α : Type} {g : α -> Int} {x : α} {B : List α} (h : ∀ y ∈ B, g x <= g y) : pD g x B = x :: B := by
 cases B with
 | nil => rfl
 | cons b B => rw [pD, aml (h b amj)]
theorem ym {α : Type} (g : α -> Nat) (n : Nat) : ∀ (l : List α), (∀ x ∈ l, g x < n) -> gX (fun x => (g x : Int)) l = (List.range n).flatMap (fun i => l.filter (fun x => decide (g x = i)))
 | [], _ => by
   show [] = _
   induction (List.range n) with
   | nil => rfl
   | cons a l ih => rw [anw, ← ih]; rfl
 | x :: l, h => by
   have hx := h x amj
   have ih := ym g n l fun y hy => h y (amn _ hy)
   rw [gX, ih]
   have hr : List.range n = List.range (g x) ++ (g x) :: List.range' (g x + 1) (n - g x - 1) := by
     rw [List.range_eq_range', List.range_eq_range', show n = g x + (1 + (n - g x - 1)) by omega, ← List.range'_append_1, show 1 + (n - g x - 1) = (n - g x - 1) + 1 by omega, List.range'_succ]
     simp
   have A : (List.range (g x)).flatMap (fun i => (x :: l).filter (fun y => decide (g y = i))) = (List.range (g x)).flatMap (fun i => l.filter (fun y => decide (g y = i))) := by
     rw [aoa, aoa]
     congr 1
     refine am7 fun i hi => ?_
     have := amZ.mp hi
     rw [anT y0.O]
   have R : (List.range' (g x + 1) (n - g x - 1)).flatMap (fun i => (x :: l).filter (fun y => decide (g y = i))) = (List.range' (g x + 1) (n - g x - 1)).flatMap (fun i => l.filter (fun y => decide (g y = i))) := by
     rw [aoa, aoa]
     congr 1
     refine am7 fun i hi => ?_
     have := (List.mem_range'_1.mp hi).1
     rw [anT y0.O]
   rw [hr, List.flatMap_append, List.flatMap_append, anw, anw, A, R, aow y0.C]
   rw [DJ, Lc]
   . rfl
   . intro y hy
     rcases amx.mp hy with hy | hy
     . have := amC (anm.mp hy).2
       omega
     . obtain ⟨i, hi, hy⟩ := List.mem_flatMap.mp hy
       have := amC (anm.mp hy).2
       have := (List.mem_range'_1.mp hi).1
       omega
   . intro y hy
     obtain ⟨i, hi, hy⟩ := List.mem_flatMap.mp hy
     have := amC (anm.mp hy).2
     have := amZ.mp hi
     omega
theorem Ld {pos pos' : Pos} {c cv : Value} (l : List Value) (h : TriplesOk l) (e : codeAmong pos (l ++ [rawInt pos'.line, rawInt pos'.col, c]) = some cv) : codeAmong pos l = some cv \/ cv = c := by
 fun_induction TriplesOk l with
 | case1 =>
   simp only [anQ, codeAmong, rawInt] at e
   split at e
   . exact .inr (amK e).symm
   . cases e
 | case2 a t b u x rest ih =>
   simp only [amL, codeAmong] at e ⊢
   split at e
   . rename_i hc; rw [aml hc]; exact .inl e
   . rename_i hc; rw [amg hc]; exact ih h e
 | case3 l h1 h2 => exact h.elim
def T5 (f : Addr) (q : Str) (ps : Arguments) (body : Expr) (sc : Scope) (cl : List (Str × Addr)) (c : Addr) : Heap -> Prop := fun h =>
 ∃ pm ctv, h.get? f = some (PySem.W.kla_obj "<lambda>" q ps body sc cl pm c ctv)
structure XI (X : Cx) (CL : Str -> Addr) (x q : Str) : Prop where
 code : ∃ c, X.env.code = .ref c /\ PySem.W.CodeHd X.base c (CL x)
 blt : ∃ bm o, X.mg "__builtins__" = some (.ref bm) /\ bm ≠ builtinsNs /\ bm ≠ mainGlobals /\ X.base.get? bm = some o /\ o.cls = .type "module" /\ o.dict = some builtinsNs /\ o.data = .plain
 qual : X.env.qual ++ "<lambda>" = q
 tab : HJ x = true /\ CL x ≠ 0 /\ PL x = q
section
variable {X : Cx} {CL : Str -> Addr} {pins : List (Addr × Obj)} {σ : L2.St} {H : Hp} {s : Shared} {x q : Str} {params : Arguments} {body : Expr} {scope : Scope} {pos : Pos}
theorem acj {Q : Value -> Shared -> Prop} (L : XI X CL x q) (I : L2.Inv X pins σ H s) (ht : H (CL x) = some (.tabs q)) (Hi : ∀ y ∈ scope.names, y.2 = .free -> ∃ c, X.env.cells.lookup y.1 = some c)
   (ack : defaultsOf params X.env = ([], []))
   (k : ∀ f c H' s', L2.Inv X pins σ H' s' -> aQ H H' -> H' f = some (.ext (T5 f q params body scope y0.v c)) -> H' c = some (.Nv q) -> (∀ b o, H' b = some o -> jY o = true -> H b = some o) -> Q (.ref f) s') :
   wpAny y0.d X.A (eval (.Lambda params body scope pos) X.env) Q X.xe s := by
 obtain ⟨c, hc, hd⟩ := L.code
 obtain ⟨bm, ob, b1, b2, b3, b4, b5, b6, b7⟩ := L.blt
 obtain ⟨ps, hP, tr, cs⟩ := I.dM _ _ ht
 have qD : ∀ {b : Addr} {o : Obj}, X.base.get? b = some o -> b ≠ CL x := fun {b o} e z => by
   have := (I.bs _ _ e).2
   rw [z, ht] at this; cases this
 have hg : s.heap.Ns mainGlobals X.mg := by
   obtain ⟨o, es, ep, e, r⟩ := I.mod.glob
   exact ⟨o, es, ep, I.bk _ _ e, r⟩
 have hgP : mainGlobals ≠ CL x := by
   obtain ⟨o, _, _, e, _⟩ := I.mod.glob
   exact qD e
 have hb : s.heap.BuiltinsAt X.mg (CL x) := ⟨bm, ob, b1, b2, b3, qD b4, I.bk _ _ b4, b5, b6, b7⟩
 refine PySem.W.kla_eval ack ?_
 rw [L.qual]
 cases hf : codeAmong pos ps.toList with
 | none =>
   refine PySem.W.kla_makeFunction (ng Hi) I.ok.glob hg hc (hd.keeps I.bk) hP tr hf hgP hb fun c' ctv h' tk hx hge tV aio htb => ?_
   obtain ⟨c₂, oc, vs, t, e2, Wm, Xr, hv⟩ := aio
   cases e2
   have hn : H c' = none := I.dM.fresh hge
   have neP : ∀ {b : Addr}, H b = none -> b ≠ CL x := fun {b} e z => by rw [z, ht] at e; cases e
   have ne' : ∀ {b : Addr} {o : Obj}, s.heap.get? b = some o -> b ≠ c' := fun {b o} e => amX (am0 (amG e) hge)
   have cP : CL x ≠ c' := ne' hP
   have un : Un X.fs [] H (upd H c' (.Nv q)) s.heap h' := by
     refine ⟨fun b o e n _ _ => hx b o (neP n) e, fun b o e n _ _ => ⟨o.slots, hx b o (neP n) e⟩, fun b o e n _ => by rw [aO (ne' e)]; exact n, fun b o e _ => ?_, fun b xs e => by rw [aO (aZ e hn)]; exact e, fun b o u e => by rw [aO (aZ e hn)]; exact e, fun b ps e => ⟨#[], by rw [aO (aZ e hn), e]; simp⟩⟩
     by_cases z : b = CL x
     . exact ⟨_, z ▸ htb⟩
     . exact ⟨o, hx b o z e⟩
   have dM : qo X.prog X.w (upd H c' (.Nv q)) h' := fun b u e => by
     by_cases z : b = c'
     . subst z
       rw [bw] at e
       cases e
       exact ⟨oc, vs, t, Wm, Xr, hv⟩
     . rw [aO z] at e
       by_cases z2 : b = CL x
       . subst z2
         rw [ht] at e
         cases e
         refine ⟨_, htb, ?_, fun pos' cv ec => ?_⟩
         . rw [Array.toList_append]
           exact TriplesOk_snoc _ _ _ _ tr
         . rw [Array.toList_append] at ec
           rcases Ld _ tr ec with q1 | q1
           . obtain ⟨c3, e3, e4⟩ := cs pos' cv q1
             exact ⟨c3, e3, by rw [aO (aZ e4 hn)]; exact e4⟩
           . exact ⟨c', q1, bw⟩
       . refine (I.dM b u e).yG (fun d v Ww r => hx d v ?_ r) (fun d r => by rw [aO (aZ r hn)]; exact r) (fun d xs r => by rw [aO (aZ r hn)]; exact r) fun d z r => by rw [aO (aZ r hn)]; exact r
         rintro rfl
         rcases Ww with w | w
         . exact z2 w.symm
         . rw [ht] at w; cases w
   have I1 := I.un (t' := tk) un dM
   have f1 : (upd H c' (.Nv q)) h'.objs.size = none := dM.fresh (amo _)
   have I2 := I1.laid (t' := tk) (a := h'.objs.size) (o := .ext (T5 h'.objs.size q params body scope y0.v c')) (h' := h'.push y0.cg)
     (fun b u e => amy _ e) (amo _) ⟨⟨_, _, amY _ rfl⟩, ⟨_, amY _ rfl⟩, fun h1 h2 ⟨pm, ct, e⟩ kk => ⟨pm, ct, kk _ e⟩⟩
   refine k _ c' _ _ I2 (fun b o e => ?_) bw ?_ fun b o e im => ?_
   . have z1 := aZ e hn
     have z2 : b ≠ h'.objs.size := fun z => by
       rw [← z, aO z1, e] at f1; cases f1
     rw [aO z2, aO z1]; exact e
   . rw [aO (amX tV), bw]
   . by_cases z2 : b = h'.objs.size
     . subst z2; rw [bw] at e; cases e; cases im
     . rw [aO z2] at e
       by_cases z1 : b = c'
       . subst z1; rw [bw] at e; cases e; cases im
       . rw [aO z1] at e; exact e
 | some cv =>
   obtain ⟨c', rfl, R4⟩ := cs pos cv hf
   refine PySem.W.kla_makeFunctionHit (ng Hi) I.ok.glob hg hc (hd.keeps I.bk) hP tr hf hb fun ctv h' tk hk hsz => ?_
   have I2 := I.laid (t' := tk) (a := h'.objs.size) (o := .ext (T5 h'.objs.size q params body scope y0.v c')) (h' := h'.push y0.cg)
     (fun b u e => amy _ (hk _ _ e)) hsz ⟨⟨_, _, amY _ rfl⟩, ⟨_, amY _ rfl⟩, fun h1 h2 ⟨pm, ct, e⟩ kk => ⟨pm, ct, kk _ e⟩⟩
   have f1 : H h'.objs.size = none := I.dM.fresh hsz
   refine k _ c' _ _ I2 (fun b o e => by rw [aO (aZ e f1)]; exact e) bw (by rw [aO (aZ R4 f1)]; exact R4) fun b o e im => ?_
   by_cases z2 : b = h'.objs.size
   . subst z2; rw [bw] at e; cases e; cases im
   . rw [aO z2] at e; exact e
end
def zZ (X : Cx) (A : Around) (q : Str) (scope : Scope) (Nc : List Str) (f c : Addr) (s : Shared) (H : Hp) : Cx where
 prog := X.prog
 w := X.w
 K := X.K
 mg := X.mg
 base := X.base
 A := A.deeper (PySem.W.envX q scope s.heap.objs.size f (.ref c) y0.v)
 N := Nc
 s₀ := s
 H₀ := H
 env := PySem.W.envX q scope s.heap.objs.size f (.ref c) y0.v
 outer := X.stack
 stack := PySem.W.envX q scope s.heap.objs.size f (.ref c) y0.v :: X.stack
 ex := []
 fn := fun _ => false
 calm := true
 pn := []
 xe := fun _ _ => False
section
variable {X : Cx} {scope : Scope} {x q : Str} {Nc : List Str} {ix : List Nat} {pins : List (Addr × Obj)} {σ : L2.St} {H : Hp} {s : Shared} {A : Around} {f c : Addr}
theorem Qf (sc : iN X scope x Nc ix) (I : L2.Inv X pins σ H s) (hA : A.frames = some X.stack) (hh : A.handled = none) {h' : Heap} {tk : Nat} {u : Value} {v : V} (r : RelV v u)
   (hn : h'.Ns s.heap.objs.size (fun y => ([(x, u)] : List (Str × Value)).reverse.lookup y)) (hk : ∀ b o, s.heap.get? b = some o -> h'.get? b = some o) :
   L2.Inv (zZ X A q scope Nc f c s H) [] (wQ σ ix (some v)) H { s with heap := h', toks := tk } := by
 have frees : ∀ y ∈ scope.names, y.2 = .free -> ∃ c, X.env.cells.lookup y.1 = some c := fun y hy e => I.ok.has y.1 (sc.frees y hy e).2
 have sub : ∀ {y : Str} {c : Addr}, (dO X.env scope.names []).lookup y = some c -> X.env.cells.lookup y = some c := fun {y c} e => oZ frees (fun _ _ z => by cases z) e
 have hlen : (wQ σ ix (some v)).length = Nc.length := by
   have all : ∀ l : List Nat, (∀ i ∈ l, ∃ y, X.N[i]? = some y /\ scope.names.lookup y = some .free) -> (l.filterMap (X.N[·]?)).length = l.length := by
     intro l
     induction l with
     | nil => intro _; rfl
     | cons i r ih =>
       intro h
       obtain ⟨y, e, _⟩ := h i amj
       rw [anq, e]
       show _ + 1 = _ + 1
       rw [ih fun j hj => h j (amn _ hj)]
   unfold wQ
   rw [sc.hd, amB, amB, amh, all ix sc.ixs]
 have nil : ∀ b : Addr, b ∉ (zZ X A q scope Nc f c s H).ex := fun b z => absurd (show b ∈ ([] : List Addr) from z) y0.C
 refine ⟨⟨I.ok.mod, sc.kind, rfl, rfl, amo _, fun y z c h1 h2 => I.ok.inj y z c (sub h1) (sub h2), fun y hy => ?_, fun y c hf _ => (by cases (show false = true from hf)), fun _ => hh, Around.frames_deeper hA, .inr ⟨rfl, rfl⟩, fun b hb => absurd hb (nil b), I.bs, anB I.ok.RN I.sz, fun b o _ => nil b, fun b hb => absurd hb (nil b), I.stack, I.yO⟩,
   rfl, I.bare, Un.kept hk, ⟨_, hn, fun i y w h1 h2 h3 => ?_⟩, fun y c e => ?_, I.dM.fresh (amo _), fun y c e => I.jX y c (sub e), fun p hp => absurd y0.cd y0.C, I.dM.kept hk, hlen⟩
 . have hy' : scope.names.lookup y = some .cell \/ scope.names.lookup y = some .free := hy
   rcases hy' with z | z
   . exact absurd rfl (sc.wO _ (anv z))
   . exact k8 z
 . unfold wQ at h2
   cases i with
   | zero =>
     have Tv : some (some v) = some (some w) := h2
     cases Tv
     have e : y = x := by
       have h1' : Nc[0]? = some y := h1
       rw [sc.hd] at h1'
       exact (amK h1').symm
     subst e
     refine ⟨u, r, .inl ⟨sc.own, ?_⟩⟩
     simp
   | succ i =>
     rw [List.getElem?_cons_succ, amT] at h2
     cases ei : ix[i]? with
     | none => rw [ei] at h2; cases h2
     | some j =>
       rw [ei] at h2
       have Tv : (σ[j]?).getD none = some w := amK h2
       have hj : σ[j]? = some (some w) := by
         cases q : σ[j]? with
         | none => rw [q] at Tv; cases Tv
         | some o => rw [q] at Tv; exact congrArg some Tv
       obtain ⟨y', hy1, hy2⟩ := sc.ixs j (anb ei)
       have hNc : Nc[i + 1]? = some y' := by
         have all : ∀ (l : List Nat) (i : Nat), (∀ j ∈ l, ∃ y, X.N[j]? = some y /\ scope.names.lookup y = some .free) -> l[i]? = some j -> (l.filterMap (X.N[·]?))[i]? = some y' := by
           intro l
           induction l with
           | nil => intro i _ h; simp at h
           | cons a r ih =>
             intro i h hi
             obtain ⟨ya, ea, _⟩ := h a amj
             rw [anq, ea]
             cases i with
             | zero =>
               simp at hi
               subst hi
               rw [hy1] at ea
               cases ea
               rfl
             | succ i => exact ih i (fun j hj => h j (List.mem_cons_of_mem _ hj)) y0.aC
         rw [sc.hd, List.getElem?_cons_succ]
         exact all ix i sc.ixs ei
       have ey : y' = y := by
         have h1' : Nc[i + 1]? = some y := h1
         rw [hNc] at h1'
         exact amK h1'
       subst ey
       have zL := (sc.frees (y', .free) (anv hy2) rfl).2
       have ab4 : Vis X.env.scope y' := zL.elim (fun z => .inr (.inl z)) (fun z => .inr (.inr z))
       obtain ⟨m0, hn0, hl0⟩ := I.loc
       obtain ⟨u', ru, lk⟩ := hl0 j y' w hy1 hj ab4
       refine ⟨u', ru, ?_⟩
       rcases lk with ⟨kk, _⟩ | ⟨_, c', hc, x6⟩
       . rcases zL with z | z
         . rw [kk] at z; cases z
         . rw [kk] at z; cases z
       . obtain ⟨c2, R4⟩ := k8 (env := X.env) (cs := []) hy2
         have : c2 = c' := by
           have := sub R4
           rw [hc] at this
           exact (amK this).symm
         subst this
         obtain ⟨o, ho, hd⟩ := x6
         exact .inr ⟨.inr hy2, c2, R4, o, hk _ _ ho, hd⟩
 . obtain ⟨v, o, ho, hd⟩ := I.cell y c (sub e)
   exact ⟨v, o, hk _ _ ho, hd⟩
theorem T6 {params : Arguments} {body : Expr} {u : Value} {v : V} {Q : VK} (sc : iN X scope x Nc ix) (I : L2.Inv X pins σ H s) (hA : A.frames = some X.stack) (hh : A.handled = none) (afH : A.depth < recursionLimit)
   (hf : H f = some (.ext (T5 f q params body scope y0.v c))) (hc : H c = some (.Nv q)) (r : RelV v u)
   (Ih : ∀ cl pm cd ct u, bindArgs (PySem.W.kla_fn "<lambda>" q params body scope cl pm cd ct) ⟨[u], []⟩ = pure [(x, u)]) (hco : scope.isCoroutine = false) (acm : scope.isGenerator = false)
   (h : zN (zZ X A q scope Nc f c s H) body (wQ σ ix (some v)) H Q) : wpAny y0.d A (call (.ref f) [u]) y0.af y0.ad s := by
 obtain ⟨⟨pm, ctv, ho⟩, _⟩ := I.dM _ _ hf
 obtain ⟨oc, vs, t, e1, e2, e3⟩ := I.dM _ _ hc
 refine wpAny_call (PySem.W.kla_callFunE afH ho rfl hco acm rfl ⟨c, oc, vs, t, rfl, e1, e2, e3⟩ ?_)
 rw [Ih]
 refine amW (wpAny_newFunctionEnv sc.wO (fun y hy => ?_) (fun h₁ hns hsb => ?_) sc.kind)
 . rw [amQ.mp hy]
   exact sc.own
 . have hk : ∀ b o, s.heap.get? b = some o -> h₁.get? b = some o := fun b o e => (hsb.2 b (amX (amG e))).trans (amy _ e)
   refine ⟨I.nolimit.keeps hk, ?_⟩
   show codeAny _ _ (.expr body (PySem.W.envX q scope s.heap.objs.size f (.ref c) y0.v)) _ _
   have J := Qf (q := q) (f := f) (c := c) (tk := s.toks + ([(x, u)] : List (Str × Value)).length) sc I hA hh r hns hk
   refine PySem.W.kla_codeExpr (ani (h [] _ J) (fun w s' hl => ?_) fun e s' hx => False.elim hx)
   obtain ⟨v', H', J', rv, hq⟩ := hl
   exact I.after ⟨v', H', J'.os, J'.bare, J'.base, J'.dM, rv, hq⟩
end
section
variable {X : Cx} {pins : List (Addr × Obj)} {σ : L2.St} {H : Hp} {s : Shared}
theorem Qg {a : Addr} {o : HO} (I : L2.Inv X pins σ H s) (fp : kJ X pins H a) (new : fB X.prog X.w (upd H a o) s.heap a o) : L2.Inv X pins σ (upd H a o) s := by
 have hn := fp.1
 refine I.step (H' := upd H a o) (h' := s.heap) (g' := s.gens) (d' := s.drawn) (t' := s.toks) (ch := [a]) (fun b hb => ?_) (fun b o _ _ _ e _ => e) (fun b o _ _ _ e _ => ⟨o.slots, e⟩) (fun b o hc _ n => by rw [aO fun z => hc (by simp [z])]; exact n)
   (fun b o _ e => ⟨o, e⟩) (fun b xs e => by rw [aO (aZ e hn)]; exact e) (fun b o u e => by rw [aO (aZ e hn)]; exact e) (fun b ps e => ⟨#[], by rw [aO (aZ e hn), e]; simp⟩) (fun m hm => hm) (fun b u e => ?_) I.bare
 . have e : b = a := by simpa using hb
   subst e
   exact ⟨fp.2.2.2.1, fp.2.1, fp.2.2.2.2.1, fp.2.2.2.2.2⟩
 . by_cases z : b = a
   . subst z; rw [bw] at e; cases e; exact new
   . rw [aO z] at e
     exact (I.dM b u e).yG (fun _ _ _ q => q) (fun c q => by rw [aO (aZ q hn)]; exact q) (fun c xs q => by rw [aO (aZ q hn)]; exact q) fun c z q => by rw [aO (aZ q hn)]; exact q
end
def tu (kz : List Int) (xs : List V) : List V := (gX Prod.fst (kz.zip xs)).map Prod.snd
section
variable {α β : Type} {F : α -> β -> Prop} {g1 : α -> Int} {g2 : β -> Int}
theorem Ii (hg : ∀ p q, F p q -> g1 p = g2 q) {x : α} {y : β} (hx : F x y) {l1 : List α} {l2 : List β} (h : Paired F l1 l2) : Paired F (pD g1 x l1) (pD g2 y l2) := by
 induction h with
 | nil => exact .cons hx .nil
 | @cons p q l1 l2 r t i =>
   rw [pD, pD, hg x y hx, hg p q r]
   split
   . exact .cons hx (.cons r t)
   . exact .cons r i
theorem ve (hg : ∀ p q, F p q -> g1 p = g2 q) {l1 : List α} {l2 : List β} (h : Paired F l1 l2) : Paired F (gX g1 l1) (gX g2 l2) := by
 induction h with
 | nil => exact .nil
 | cons r _ i => exact Ii hg r i
end
theorem z0 : ∀ {ks us : List Value} {kz : List Int} {xs : List V}, IntsAre ks kz -> Vals xs us -> Paired (fun (p : Int × V) (q : Value × Value) => p.1 = numOf q.1 /\ RelV p.2 q.2) (kz.zip xs) (ks.zip us)
 | _, _, _, _, .nil, _ => by simp only [List.zip_nil_left]; exact .nil
 | _, _, _, _, .cons n t h, .nil => by simp only [List.zip_nil_right]; exact .nil
 | _, _, _, _, .cons n t h, .cons r rr => .cons ⟨rfl, r⟩ (z0 h rr)
theorem T7 {ps : List (Int × V)} {qs : List (Value × Value)} (h : Paired (fun (p : Int × V) (q : Value × Value) => p.1 = numOf q.1 /\ RelV p.2 q.2) ps qs) : Vals (ps.map Prod.snd) (qs.map Prod.snd) := by
 induction h with
 | nil => exact .nil
 | cons r _ i => exact .cons r.2 i
theorem Ij {keys : Array Value} {us : List Value} {xs : List V} {kz : List Int} (hk : IntsAre keys.toList kz) (r : Vals xs us) {arr : Array Keyed} {κ : Nat -> Nat}
   (t : Tag y0.bF arr κ (keys.zip us.toArray).size) (o : qE arr κ (keys.zip us.toArray).size) (hz : arr.size = (keys.zip us.toArray).size) : Vals (tu kz xs) (arr.map (·.2)).toList := by
 have ez := ksk_zip keys us
 have el : (keys.toList.zip us).length = (keys.zip us.toArray).size := by rw [← ez, anK]
 have e : arr.toList = gX (fun p : Keyed => numOf p.1) (keys.toList.zip us) := by
   refine T4 (κ := κ) (by rw [el, anK, hz]) (fun k hk => ?_) (fun k hk => ?_) fun i j x y HY hx hy => ?_
   . rw [el] at hk
     rw [anO, t.pl k hk, ← ez, anO]
   . rw [el] at hk ⊢
     exact t.lo k hk
   . rw [anO] at hx hy
     have hj : j < arr.size := (Array.getElem?_eq_some_iff.mp hy).1
     have q := o i j HY (by rw [← hz]; exact hj)
     unfold PyProof.Rows.K at q
     rw [hx, hy] at q
     exact q
 rw [Array.toList_map, e]
 exact T7 (ve (fun p q h => h.1) (z0 hk r))
section
variable {X : Cx} {pins : List (Addr × Obj)} {σ : L2.St} {H : Hp} {s : Shared} {a kS f l : Addr} {us : List Value} {xs : List V} {kz : List Int} {J : Hp -> Prop} {e1 : Nat} {A : Around} {E : Value -> Shared -> Prop} {P : PySem.Fin -> Shared -> Prop}
theorem za {it : Addr} (I : L2.Inv X pins σ H s) (fp : kJ X pins H it) (g : Obj -> Obj) : L2.Inv X pins σ H { s with heap := s.heap.update it g } := by
 have s1 := Heap.SameBut.update s.heap it g
 exact I.turned (t' := s.toks) (fun b o n q => (s1.2 b n).trans q) fp.1 fp.2.1 fp.2.2.2.1 fp.2.2.2.2.1 fp.2.2.2.2.2
theorem N8 {st : SortSt} {keys : Array Value} {e : Nat} (I : L2.Inv X pins σ H s) (fk : kJ X pins H kS) (fa : kJ X pins H a) (hka : kS ≠ a) (ok : s.heap.get? kS = some (seqObj "list" keys e)) (oa : s.heap.get? a = some (seqObj "list" #[] e1))
   (hks : keys.size < 64) (hsz : (arrOf st).size < 64) (T8 : failedOf st = none)
   (h : ∀ s' c, L2.Inv X pins σ H s' -> s'.heap.get? a = some (seqObj "list" ((arrOf st).map (·.2)) c) -> P (.done (.ret .none)) s') :
   wpAny y0.d A (ksk_tail a false e1 (.ref kS) st) P E s := by
 have s1 := Heap.SameBut.update s.heap kS y0.o
 have I1 := za I fk y0.o
 have na1 : (s.heap.update kS y0.o).get? a = some (seqObj "list" #[] e1) := (s1.2 a hka.symm).trans oa
 have I2 := za I1 fa (Obj.mapSeq fun _ => (arrOf st).map (·.2))
 obtain ⟨c2, wJ⟩ : ∃ c2, ((s.heap.update kS y0.o).update a (Obj.mapSeq fun _ => (arrOf st).map (·.2))).get? a = some (seqObj "list" ((arrOf st).map (·.2)) c2) :=
   ⟨_, get?_update_seq na1 fun _ => (arrOf st).map (·.2)⟩
 unfold ksk_tail
 try dsimp only
 refine ams (listUpdate_at ok rfl ?_ (by rw [amV]; omega) (amM _))
 refine ams (wpAny_letGo ?_)
 refine ams (seqEpoch_at na1 rfl ?_)
 refine ams (listUpdate_at na1 rfl ?_ (amM _) (by simp only [anl, an1, Array.size_map]; rw [amV]; omega))
 rw [T8]
 simp only [bne_self_eq_false, anl, an1]
 exact amW (h _ c2 I2 wJ)
theorem aco {keys : Array Value} {e : Nat} (I : L2.Inv X pins σ H s) (fk : kJ X pins H kS) (fa : kJ X pins H a) (hka : kS ≠ a) (ok : s.heap.get? kS = some (seqObj "list" keys e)) (oa : s.heap.get? a = some (seqObj "list" #[] e1))
   (hk : IntsAre keys.toList kz) (hlen : kz.length = us.length) (h64 : us.length < 64) (r : Vals xs us)
   (h : ∀ s' out c, L2.Inv X pins σ H s' -> s'.heap.get? a = some (seqObj "list" out c) -> Vals (tu kz xs) out.toList -> P (.done (.ret .none)) s') :
   wpAny y0.d A (ksk_end a false us.toArray e1 (.ref kS) keys) P E s := by
 have hsz : keys.size = us.length := by
   have h1 := hk.length
   rw [anK] at h1
   omega
 have hzs : (keys.zip us.toArray).size = us.length := by rw [Array.size_zip, hsz, amF, Nat.min_self]
 have t0 : ∀ n, Tag y0.bF y0.bF id n := fun n => ⟨fun _ _ => rfl, fun _ q => q, fun _ _ => rfl⟩
 unfold ksk_end
 try dsimp only
 simp only [anl, an1]
 by_cases h2 : us.toArray.size < 2
 . rw [aml h2, aml h2]
   refine ams (amW ?_)
   rw [StateT.run_pure]
   refine ams (amW ?_)
   try dsimp only
   rw [amF] at h2
   refine N8 (st := SortSt.mk' general' y0.bF #[] 7 none) I fk fa hka ok oa y0.b (by show (keys.zip us.toArray).size < 64; omega) rfl fun s' c I' o' => h s' _ c I' o' ?_
   exact Ij hk r (arr := keys.zip us.toArray) (κ := id) (t0 _) (fun i j HY hj => by omega) rfl
 . rw [amg h2, amg h2]
   rw [amF] at h2
   rw [ksk_kind hk (by rw [hsz]; omega)]
   refine ams (amW ?_)
   refine ams (ani (Qe (a₀ := keys.zip us.toArray) (st := SortSt.mk' oneType' y0.bF #[] 7 none)
     (Q := fun _ Ks => failedOf Ks = none /\ ∃ κ, Tag y0.bF (arrOf Ks) κ (keys.zip us.toArray).size /\ qE (arrOf Ks) κ (keys.zip us.toArray).size /\ (arrOf Ks).size = (keys.zip us.toArray).size)
     (ksk_intKeys hk) ⟨Array.Perm.refl _, rfl, rfl, rfl⟩ (t0 _) (by rw [hzs]; omega) (by rw [hzs]; exact h64) fun z κ a1 a2 a3 a4 => ⟨a1, κ, a2, a3, a4⟩) ?_ fun _ _ e => e)
   rintro ⟨⟨⟩, Ks⟩ s' ⟨rfl, hf, κ, t, o, hz⟩
   try dsimp only
   have hz' : (arrOf Ks).size = (keys.zip us.toArray).size := hz
   exact N8 I fk fa hka ok oa y0.b y0.b hf fun s' c I' o' => h s' _ c I' o' (Ij hk r t o hz)
theorem fpk {b : Addr} {H' : Hp} (fp : kJ X pins H b) (h : H' b = none) : kJ X pins H' b := ⟨h, fp.2⟩
theorem XJ (I : L2.Inv X pins σ H s) (fk : kJ X pins H kS) (fa : kJ X pins H a) (hka : kS ≠ a) (ok : s.heap.get? kS = some (seqObj "list" #[] 0)) (oa : s.heap.get? a = some (seqObj "list" #[] e1)) (j0 : J H)
   (hlen : kz.length = us.length) (h64 : us.length < 64) (r : Vals xs us)
   (turn : ∀ (i : Nat) (x : V) (k : Int), xs[i]? = some x -> kz[i]? = some k -> ∀ (kC : List y0.p) (s' : Shared) (u : Value) (H' : Hp), L2.Inv X kC σ H' s' -> J H' -> RelV x u →
     wpAny y0.d A (call (.ref f) [u]) y0.bG y0.ad s')
   (h : ∀ s' H' out c, L2.Inv X pins σ H' s' -> J H' -> H' a = none -> s'.heap.get? a = some (seqObj "list" out c) -> Vals (tu kz xs) out.toList -> P (.done (.ret .none)) s') :
   wpAny y0.d A (ksk_rest a (.ref f) false us.toArray e1 (.ref kS)) P E s := by
 unfold ksk_rest
 refine ams (wpAny_rule ?_)
 first
   | rw [List.forIn_toArray]
   | (rw [← Array.forIn_toList]; simp only [List.toList_toArray])
   | rw [← Array.forIn_toList]
 refine ams (ksk_fold (fun i s' => ∃ H' kA e, L2.Inv X pins σ H' s' /\ J H' /\ H' kS = none /\ H' a = none /\ s'.heap.get? kS = some (seqObj "list" kA e) /\ s'.heap.get? a = some (seqObj "list" #[] e1) /\ IntsAre kA.toList (kz.take i)) us 0 s
   ⟨H, #[], 0, I, j0, fk.1, fa.1, ok, oa, by simpa using IntsAre.nil⟩ ?step ?done)
 case step =>
   rintro j u s' hx ⟨H', kA, e, I', jj, nk, na, ok', oa', hk⟩
   simp only [Nat.zero_add] at hk ⊢
   have hj : j < us.length := (amU.mp hx).1
   obtain ⟨k, hkj⟩ : ∃ k, kz[j]? = some k := ⟨_, amq y0.b⟩
   obtain ⟨x, hxx⟩ : ∃ x, xs[j]? = some x := ⟨_, amq (by rw [r.length]; exact hj)⟩
   have rx : RelV x u := by
     obtain ⟨u', e1, e2⟩ := r.get hxx
     rw [hx] at e1; cases e1; exact e2
   have hz : kA.size <= us.length := by
     have h1 := hk.length
     rw [anK, List.length_take] at h1
     omega
   have Ip := I'.pinned (fp := [kS, a]) (fun b hb => by
     rcases amt.mp hb with rfl | hb
     . exact fpk fk nk
     . rw [amQ.mp hb]; exact fpk fa na) (fun b hb => by
     rcases amt.mp hb with rfl | hb
     . exact ⟨_, ok', fun v z => by cases z⟩
     . rw [amQ.mp hb]; exact ⟨_, oa', fun v z => by cases z⟩)
   refine ams (wpAny_attempt (ani (turn j x k hxx hkj _ _ u H' Ip jj rx) (fun v s'' he => ?_) fun _ _ hF => hF.elim))
   obtain ⟨w, H2, I2, rw2, rfl, j2⟩ := he
   obtain ⟨t2, rfl⟩ := rw2
   try dsimp only
   have pk := I2.pin (kS, seqObj "list" kA e) (ami _ (ami _ (jr y0.C ok')))
   have pa := I2.pin (a, seqObj "list" #[] e1) (ami _ (ami _ (jr y0.C oa')))
   have I3 := za I2.qu (fpk fk pk.2.1) (Obj.mapSeq (·.push (.int k t2)))
   have s1 := Heap.SameBut.update s''.heap kS (Obj.mapSeq (·.push (.int k t2)))
   obtain ⟨c2, wJ⟩ : ∃ c2, (s''.heap.update kS (Obj.mapSeq (·.push (.int k t2)))).get? kS = some (seqObj "list" (kA.push (.int k t2)) c2) := ⟨_, get?_update_seq pk.1 (·.push (.int k t2))⟩
   have ek : kz.take (j + 1) = kz.take j ++ [k] := by rw [aoh, hkj]; simp
   have ea : (kA.push (Value.int k t2)).toList = kA.toList ++ [Value.int k t2] := by simp
   refine ams (listUpdate_at pk.1 rfl ?_ (by rw [amV]; omega) (anB (Nat.le_of_eq (Array.size_push ..)) (by rw [amV]; omega)))
   exact amW ⟨rfl, H2, kA.push (.int k t2), c2, I3, j2, pk.2.1, pa.2.1, wJ, (s1.2 a hka.symm).trans pa.1, by rw [ea, ek]; exact ksk_snoc hk⟩
 case done =>
   rintro s' ⟨H', kA, e, I', jj, nk, na, ok', oa', hk⟩
   have hk' : IntsAre kA.toList kz := by
     have e3 : kz.take (0 + us.length) = kz := List.take_of_length_le y0.b
     rw [e3] at hk
     exact hk
   try dsimp only
   refine ams (listItems_at ok' rfl ?_)
   exact aco I' (fpk fk nk) (fpk fa na) hka ok' oa' hk' hlen h64 r fun s2 out c I2 o2 v2 => h s2 H' out c I2 jj na o2 v2
theorem XM {n : Nat} (I : L2.Inv X pins σ H s) (fa : kJ X pins H a) (oa : s.heap.get? a = some (seqObj "list" us.toArray n)) (j0 : J H)
   (hlen : kz.length = us.length) (h64 : us.length < 64) (r : Vals xs us)
   (turn : ∀ (i : Nat) (x : V) (k : Int), xs[i]? = some x -> kz[i]? = some k -> ∀ (kC : List y0.p) (s' : Shared) (u : Value) (H' : Hp), L2.Inv X kC σ H' s' -> J H' -> RelV x u →
     wpAny y0.d A (call (.ref f) [u]) y0.bG y0.ad s')
   (h : ∀ s' H' out c, L2.Inv X pins σ H' s' -> J H' -> H' a = none -> s'.heap.get? a = some (seqObj "list" out c) -> Vals (tu kz xs) out.toList -> P (.done (.ret .none)) s') :
   wpAny y0.d A (ksk_tree a (.ref f) false) P E s := by
 have ha : a < s.heap.objs.size := amG oa
 obtain ⟨e1, ho1⟩ : ∃ e1, (s.heap.update a y0.o).get? a = some (seqObj "list" #[] e1) := ⟨_, get?_update_seq oa fun _ => #[]⟩
 have I1 := za I fa y0.o
 have hkS : ((s.heap.update a y0.o).push (seqObj "tuple" us.toArray 0)).objs.size = s.heap.objs.size + 1 := by rw [size_push', Heap.size_update]
 have I2 : L2.Inv X pins σ H { s with heap := ((s.heap.update a y0.o).push (seqObj "tuple" us.toArray 0)).push y0.bc } :=
   I1.kept (t' := s.toks) fun b o e => amy _ (amy _ e)
 unfold ksk_tree
 refine ams (listItems_at oa rfl ?_)
 refine ams (listUpdate_at oa rfl ?_ (by rw [amF, amV]; omega) (amM _))
 refine ams (seqEpoch_at ho1 rfl ?_)
 refine ams (wpAny_newTuple ?_ (by show us.length <= _; rw [amV]; omega))
 refine ams (wpAny_newList ?_ (amM _))
 refine an0 ?_
 refine XJ (s := { s with heap := ((s.heap.update a y0.o).push (seqObj "tuple" us.toArray 0)).push y0.bc }) (kS := ((s.heap.update a y0.o).push (seqObj "tuple" us.toArray 0)).objs.size)
   I2 (I.El (by rw [hkS]; exact an7 _) (I.dM.fresh (by rw [hkS]; exact an7 _))) fa (by rw [hkS]; exact Nat.ne_of_gt (Nat.lt_succ_of_lt ha)) (amY _ rfl) (amy _ (amy _ ho1)) j0 hlen h64 r turn h
theorem Qh {Q : VK} (I : L2.Inv X pins σ H s) (hq : qk X.K H l xs) (hlen : kz.length = xs.length) (h64 : xs.length < 64) (j0 : J H)
   (turn : ∀ (i : Nat) (x : V) (k : Int), xs[i]? = some x -> kz[i]? = some k -> ∀ (kC : List y0.p) (s' : Shared) (u : Value) (H' : Hp), L2.Inv X kC σ H' s' -> J H' -> RelV x u →
     wpAny y0.d X.A.in1.in1 (call (.ref f) [u]) y0.bG y0.ad s')
   (h : ∀ D H', J H' -> H' D = none -> Q (.ref D) (upd H' D (.lst (tu kz xs)))) :
   wpAny y0.d X.A (call (.builtin "sorted") [.ref l] [(Str.ofString "key", .ref f)]) y0.af E s := by
 obtain ⟨us, r, pl, hz⟩ := I.list hq
 have el := r.length
 have hl : s.heap.IsList l us.toArray := pl.isList
 refine call_function_entry_kw kind_sorted plain_sorted entry_sorted (ksk_s1 _ _) ?_
 unfold Builtin.«sorted»
 refine ams (m := checkCount "sorted" 1 1 _) (amW ?_)
 refine ams (collect_list hl ?_ (by rw [amV]; omega))
 refine ams (wpAny_newList ?_ (by rw [amV]; omega))
 have hsz : ((s.heap.push y0.bc).update s.heap.objs.size (Obj.mapSeq (· ++ us.toArray))).objs.size = s.heap.objs.size + 1 := by
   rw [Heap.size_update, size_push']
 have hoL : (((s.heap.push y0.bc).update s.heap.objs.size (Obj.mapSeq (· ++ us.toArray))).push y0.bj).get? y0.m = some y0.bj := by
   rw [← hsz]; exact amY _ rfl
 have keep : ∀ b o, s.heap.get? b = some o -> (((s.heap.push y0.bc).update s.heap.objs.size (Obj.mapSeq (· ++ us.toArray))).push y0.bj).get? b = some o := fun b o q => by
   have tV : b < s.heap.objs.size := amG q
   rw [Heap.get?_push_ne _ _ _ (by rw [hsz]; exact amX (Nat.lt_succ_of_lt tV)), Heap.get?_update_ne _ _ _ _ (amX tV), Heap.get?_push_ne _ _ _ (amX tV)]
   exact q
 show wpAny _ _ _ _ _ { s with heap := ((s.heap.push y0.bc).update s.heap.objs.size (Obj.mapSeq (· ++ us.toArray))).push y0.bj }
 rw [hsz]
 have I2 : L2.Inv X pins σ H { s with heap := ((s.heap.push y0.bc).update s.heap.objs.size (Obj.mapSeq (· ++ us.toArray))).push y0.bj } := I.kept (t' := s.toks) keep
 have fa : ∀ {H' : Hp}, H' y0.m = none -> kJ X pins H' y0.m := fun {H'} e => I.El (an7 _) e
 refine ams (an0 (wpAny_call_entry_kw slot_list_sort ⟨_, hoL, rfl⟩ entry_list_sort ?body (ksk_l1 _ _)))
 case body =>
   have ht' := ksk_t1 f y0.m
   show wpAny y0.d X.A.in1.in1 (Builtin.«list.sort» ⟨[.ref y0.m], [(Str.ofString "key", .ref f)]⟩) _ _ _
   rw [ht']
   refine XM I2 (fa (I.dM.fresh (an7 _))) hoL j0 y0.b y0.b r turn fun s' H' out c I' jj na o' v' => ⟨_, rfl, ?_⟩
   refine amW ⟨_, rfl, .ref y0.m, _, Qg I' (fa na) (o := .lst (tu kz xs)) ⟨?_, out.toList, c, v', ?_⟩, rfl, h _ H' jj na⟩
   . have : (tu kz xs).length = xs.length := by
       unfold tu
       rw [amh, rW, List.length_zip, hlen, Nat.min_self]
     rw [this]; exact hz
   . simpa using o'
end
section
variable {K : PySem.W.Frag} {CL : Str -> Addr} {Z : Hp} {g : D -> Int}
theorem Qi {ds : List D} {us : List V} (h : aX K CL Z ds us) : Paired (fun (d : D) (p : Int × V) => g d = p.1 /\ cy K CL Z d p.2) ds ((ds.map g).zip us) :=
 aX.ind (P := fun ds us => Paired (fun (d : D) (p : Int × V) => g d = p.1 /\ cy K CL Z d p.2) ds ((ds.map g).zip us)) .nil (fun r _ i => .cons ⟨rfl, r⟩ i) h
theorem Qj {ds : List D} {ps : List (Int × V)} (h : Paired (fun (d : D) (p : Int × V) => g d = p.1 /\ cy K CL Z d p.2) ds ps) : aX K CL Z ds (ps.map Prod.snd) := by
 induction h with
 | nil => exact .nil
 | cons r _ i => exact .cons r.2 i
theorem Qk {ds : List D} {us : List V} (r : aX K CL Z ds us) : aX K CL Z (gX g ds) (tu (ds.map g) us) := Qj (ve (fun p q h => h.1) (Qi (g := g) r))
end
def afL (X : Cx) (CL : Str -> Addr) (q : Str) (scope : Scope) (Nc : List Str) (body : Expr) (δc : List (Option T)) (ds : List D) (g : D -> Int) : Prop :=
 ∀ f c s0 H0 b' d, d ∈ ds -> d9 (zZ X X.A.in1.in1 q scope Nc f c s0 H0) CL b' body (some (.sh d) :: δc) (.int (g d)) (some (.sh d) :: δc)
section
variable {X : Cx} {CL : Str -> Addr} {b : Bx} {δ δ1 : List (Option T)} {e body : Expr} {ds : List L3.D} {g : L3.D -> Int} {scope : Scope} {y q tx : Str} {Nc : List Str} {ix : List Nat} {params : Arguments} {pos pp lp p2 : Pos}
theorem Le (L : XI X CL tx q) (g0 : Gx X) (dp : X.A.depth < recursionLimit) (hm : X.mg "sorted" = none) (hg : Gl X "sorted") (sc : iN X scope y Nc ix) (h : d9 X CL b e δ (.lst ds) δ1) (hi : D.cI ds = true) (hl : ds.length < 64)
   (inner : afL X CL q scope Nc body (B7 δ1 ix) ds g) (ack : defaultsOf params X.env = ([], []) := by rfl)
   (Ih : ∀ cl pm cd ct u, bindArgs (PySem.W.kla_fn "<lambda>" q params body scope cl pm cd ct) ⟨[u], []⟩ = pure [(y, u)] := by intros; rfl) (hco : scope.isCoroutine = false := by rfl) (acm : scope.isGenerator = false := by rfl)
   (hs : starEach [e] X.env = (false, eval e X.env) :: starEach [] X.env := by exact bR rfl) :
   cW X CL b (.Call (.Name "sorted" pp) [e] [⟨some "key", .Lambda params body scope lp, p2⟩] pos) δ (.lst ((gX g ds).map T.sh)) δ1 := by
 intro H Z σ ts vs Q S k pins s I
 have ha : PA X [e] (NP (zN X e) Sg) := dc eS fC hs
 have hk : PK X [⟨some "key", .Lambda params body scope lp, p2⟩] (NP (zN X (.Lambda params body scope lp)) Sg) := WL eS abx
 refine anN (tS I hg hm uZ ?_)
 refine callWith_kw (fu (ha pos pins s σ H (fun vs' H1 => ∃ v Z1, vs' = [v] /\ aQ Z Z1 /\ aQ H H1 /\ cj X.K CL b H1 Z1 δ1 σ ts vs /\ cy X.K CL H1 (.lst ds) v) I (h H Z σ ts vs _ S fun v H1 Z1 z1 k1 S1 r => ⟨v, Z1, rfl, z1, k1, S1, r⟩)) fun us s1 zz => ?_) (by rw [hs]; rfl) (by rw [hs]; rfl) rfl rfl
 obtain ⟨vs1, H1, I1, r1, v1, Z1, e1, z1, k1, S1, rep1⟩ := zz
 subst e1
 have ais : H1 (CL tx) = some (.tabs q) := by
   have := S1.KQ tx L.tab.1 L.tab.2.1
   rw [L.tab.2.2] at this
   exact this
 refine fu (hk pos pins s1 σ H1 (fun zs H2 => ∃ f c, zs = [.ref f] /\ aQ H1 H2 /\ H2 f = some (.ext (T5 f q params body scope y0.v c)) /\ H2 c = some (.Nv q)) I1
   (fun kC s' I' => acj L I' ais (fun y hy e => I'.ok.has y.1 (sc.frees y hy e).2) ack fun f c H2 s2 I2 k2 hf hc _ => ⟨.ref f, H2, I2, rfl, f, c, rfl, k2, hf, hc⟩)) fun ws s2 zz => ?_
 obtain ⟨zs, H2, I2, rz, f, c, e2, k2, hf, hc⟩ := zz
 subst e2
 obtain ⟨u, rfl, ru⟩ := rz.one
 cases ru
 obtain ⟨v, rfl, rv⟩ := r1.one
 cases rep1 with
 | @lst p XO _ hq rr =>
   cases rv
   show wpAny _ _ (call (.builtin "sorted") [.ref p] [(Str.ofString "key", .ref f)]) _ _ s2
   have hlen := rr.length
   refine Qh (J := fun H3 => ∃ Z3, aQ H2 H3 /\ aQ H2 Z3 /\ aQ Z3 H3 /\ ∀ a o, H3 a = some o -> jY o = true -> Z3 a = some o) (kz := ds.map g) I2 (k2.seq hq) (by rw [amh, hlen]) y0.b
     ⟨H2, .refl _, .refl _, .refl _, fun _ _ q _ => q⟩ (fun i x kk hx hkk kC s' u H3 I3 zz rx => ?_) fun D H3 zz hD => ?_
   . obtain ⟨Z3, a1, a2, a3, a4⟩ := zz
     obtain ⟨d, hd, rd⟩ := rr.SV hx
     have ek : kk = g d := by
       rw [amT, hd] at hkk
       exact (amK hkk).symm
     subst ek
     refine T6 sc I3 I3.ok.frames (I3.ok.hd g0.calm) dp (a1 _ _ hf) (a1 _ _ hc) rx Ih hco acm ?_
     have S0 : cj X.K CL ⟨H3, Z3⟩ H3 Z3 (some (.sh d) :: B7 δ1 ix) (wQ σ ix (some x)) [] [] :=
       ⟨⟨[] ++ [], [], .cons (.sh (rd.mono (k2.trans a2))) ((zQ S1 ix H3).mono (k2.trans a2) fun a ha => by cases ha), .nil, anD, fun a ha => by cases ha⟩, .refl _, .refl _, a3, fun a o q z => (by have z' : Z3 a = none := z; rw [show Z3 a = some o from q] at z'; cases z'), a4, S1.KQ.mono (k2.trans a2)⟩
     refine inner f c s' H3 ⟨H3, Z3⟩ d (anb hd) H3 Z3 _ [] [] _ S0 fun v H5 Z5 z5 k5 S5 r5 => ⟨?_, Z5, a1.trans k5, a2.trans z5, S5.zh, S5.tp⟩
     cases r5
     rfl
   . obtain ⟨Z3, a1, a2, a3, a4⟩ := zz
     obtain ⟨Z', z', S4⟩ := S1.back (t := .sh (.int 0)) (v := .int 0) (fp := []) (k2.trans a1) S1.zh (k2.trans a2) a3 (fun a o q z => z) a4 (.sh (.int 0)) anD (fun a ha => by cases ha) y0.bn
     obtain ⟨c5, S5⟩ := (cj.sZ (Qk (g := g) ((aX.oW S1.tp hi rr).mono z')) S4.pop).qA (g0 := []) (by simp [tu, rW, hlen]) hD
     exact k _ _ _ (z1.trans z') ((k1.trans (k2.trans a1)).trans c5) S5
variable {A : Around} {f c : Addr} {s : Shared} {H : Hp} {i : Nat} {x : Str}
theorem acq (h1 : Nc[i]? = some x) (h2 : scope.names.lookup x = some .local) (hd : (x == ("__debug__" : Str)) = false := by decide) (ko : y0.q = false := by decide) : Vn (zZ X A q scope Nc f c s H) i x := ⟨h1, .inl h2, hd, ko⟩
theorem T9 (h1 : Nc[i]? = some x) (h2 : scope.names.lookup x = some .free) (hd : (x == ("__debug__" : Str)) = false := by decide) (ko : y0.q = false := by decide) : Vn (zZ X A q scope Nc f c s H) i x := ⟨h1, .inr (.inr h2), hd, ko⟩
theorem acr (h2 : scope.names.lookup x = some .globalImplicit) : Gl (zZ X A q scope Nc f c s H) x := h2
end
theorem XQ {P : Program} {w : World} {K : PySem.W.Frag} {mg : Str -> Option Value} {base : Heap} {x qual : Str} {st : Stmt} {f : Addr} {fd : FuncData} {N ps : List Str} {k : Nat} {sp : Sp} (F : kY K x qual st f fd) (S : bC N ps (aF st)) (len : ∀ vs H Q E, sp vs H Q E -> vs.length = ps.length)
   (Ht : ∀ (eo : Value) (A : Around) (outer : List Env) (s : Shared) (H : Hp) (vs : List V) (Q : VK) (E : XK), fd.code = eo -> gb k (A.deeper y0.Z) -> sp vs H Q E →
     ∃ t, Kr (wI iT P w K mg base N qual (aF st) f eo A outer s H E).Wn (fK st) t /\ t { nx := fun _ H' => Q .non H', rt := Q } (L2.start N vs) H) : cV P w K mg base iT (k + 1) f fd ps sp := by
 obtain ⟨oc, od, kV, doc, pm, an, eo, ct, Pr, rfl, lk, ko⟩ := F.ex
 refine Sl lk ko S len fun A outer s H vs Q E hr Kg => ?_
 obtain ⟨t, h, q⟩ := Ht eo A outer s H vs Q E rfl hr Kg
 exact ⟨t, h.Wn, q⟩
theorem Ua {P : Program} {w : World} {K : PySem.W.Frag} {mg : Str -> Option Value} {base : Heap} {CL : Str -> Addr} {x qual : Str} {st : Stmt} {f : Addr} {fd : FuncData} {N ps : List Str} {k : Nat} {A : Type} {arg : A -> List D} {Pre : A -> Prop} {res : A -> T} (F : kY K x qual st f fd) (S : bC N ps (aF st))
   (hb : ∀ (eo : Value) (Ar : Around) (outer : List Env) (s : Shared) (H : Hp) (E : XK) (b : Bx) (a : A), fd.code = eo -> gb k (Ar.deeper y0.Z) -> Pre a →
     fD (wI iT P w K mg base N qual (aF st) f eo Ar outer s H E).Wn CL b (fK st) (entry N (arg a)) { nx := fun _ => res a = .sh .non, rt := fun t _ => t = res a }) :
   cV P w K mg base iT (k + 1) f fd ps (n8 K CL ps.length arg Pre res) := by
 refine XQ F S (fun vs H Q E h => ?_) (fun eo Ar outer s H vs Q E ko hr h => ?_)
 . obtain ⟨W, a, _, _, r, hl, _⟩ := h
   rw [← r.length]; exact hl
 . obtain ⟨W, a, wh, tp, r, hl, hp, tb, kk⟩ := h
   refine ⟨_, RQ, hb eo Ar outer s H E ⟨H, W⟩ a ko hr hp H W _ [] [] _ ⟨⟨[], [], ?_, .nil, anD, fun a ha => by cases ha⟩, .refl _, .refl _, wh, fun a o q z => ?_, tp, tb⟩ ⟨fun δ' σ' H' Z' s' S' e => ?_, fun t v H' Z' δ' σ' s' S' e => ?_, fun _ _ _ _ _ _ e => e.elim, fun _ _ _ _ _ _ e => e.elim⟩⟩
   . unfold entry L2.start
     rw [← r.length]
     exact jv _ r
   . have q' : W a = some o := q
     have z' : W a = none := z
     rw [q'] at z'; cases z'
   . exact kk .non H' Z' [] S'.bh S'.zz S'.zh S'.new S'.tp (by rw [show res a = .sh .non from e]; exact .sh .non) anD fun a ha => by cases ha
   . have e' : t = res a := e
     subst e'
     obtain ⟨fp, gp, _, r', nd, own⟩ := S'.rep
     cases r' with
     | @cons _ _ _ _ f1 f2 r1 r2 =>
       have h1 := (anh.mp nd).2.1
       exact kk v H' Z' f1 S'.bh S'.zz S'.zh S'.new S'.tp r1 (anh.mp h1).1 fun a ha => own a (ami _ (amw _ ha))
def z6 (mg : Str -> Option Value) (base : Heap) : Prop := ∃ bm o, mg "__builtins__" = some (.ref bm) /\ bm ≠ builtinsNs /\ bm ≠ mainGlobals /\ base.get? bm = some o /\ o.cls = .type "module" /\ o.dict = some builtinsNs /\ o.data = .plain
theorem ait {CX : RP} {P : Program} {w : World} {K : PySem.W.Frag} {mg : Str -> Option Value} {base : Heap} {N : List Str} {qual : Str} {scope : Scope} {f c : Addr} {eo : Value} {A : Around} {outer : List Env} {s : Shared} {H : Hp} {E : XK} {CL : Str -> Addr} {tx q : Str} {fd : FuncData}
   (bl : z6 mg base) (kb : K.In base) (hc : fd.code = eo) (hf : fd.code = .ref c) (hd : PySem.W.codeHdIn K c (CL tx) = true) (h0 : CL tx ≠ 0) (hq : PL tx = q := by decide +kernel) (ht : HJ tx = true := by decide +kernel) (hn : qual ++ ".<locals>." ++ "<lambda>" = q := by decide +kernel) :
   XI (wI CX P w K mg base N qual scope f eo A outer s H E).Wn CL tx q :=
 ⟨⟨c, hc.symm.trans hf, PySem.W.codeHd_of_K kb hd⟩, bl, hn, ht, h0, hq⟩
def spT (K : PySem.W.Frag) (ts : List (Addr × Str)) {A : Type} (n : Nat) (arg : A -> List D) (Pre : A -> Prop) (res : A -> T) : Sp := fun vs H Q _ =>
 ∃ (W : Hp) (a : A), aQ W H /\ (∀ c o, H c = some o -> jY o = true -> W c = some o) /\ aX K (fun _ => 0) W (arg a) vs /\ (arg a).length = n /\ Pre a /\ (∀ p ∈ ts, W p.1 = some (.tabs p.2)) ∧
   ∀ v H' W' fp, aQ H H' -> aQ W W' -> aQ W' H' -> (∀ c o, W' c = some o -> W c = none -> H c = none) -> (∀ c o, H' c = some o -> jY o = true -> W' c = some o) →
     dR K (fun _ => 0) H' W' (res a) v fp -> fp.Nodup -> (∀ c ∈ fp, W' c = none /\ H c = none) -> Q v H'
theorem XR {K : PySem.W.Frag} {CL : Str -> Addr} {ts : List (Addr × Str)} {arg : List Int -> List D} {pre : List Int -> Prop} {res : List Int -> T} (ha : ∀ a, arg a = [.lst (a.map .int)]) (hr : ∀ a, res a = .sh (.bl true)) (h0 : ∀ x, HJ x = true -> CL x ≠ 0 -> (CL x, PL x) ∈ ts) :
   ∀ (vs : List V) (H : Hp) (Q : VK) (E : XK), spT K ts 1 arg pre res vs H Q E -> n8 K CL 1 arg pre res vs H Q E := by
 rintro vs H Q E ⟨W, a, h1, h2, h3, h4, h5, h6, k⟩
 have acs : ∀ {l : List Int} {us : List V}, aX K (fun _ => 0) W (l.map .int) us -> aX K CL W (l.map .int) us := by
   intro l
   induction l with
   | nil => intro us r; cases r; exact .nil
   | cons i l ih =>
     intro us r
     cases r with
     | cons r t => cases r; exact .cons (.int i) (ih t)
 refine ⟨W, a, h1, h2, ?_, h4, h5, fun x hx e => h6 _ (h0 x hx e), fun v H' W' fp a1 a2 a3 a4 a5 r nd own => k v H' W' fp a1 a2 a3 a4 a5 ?_ nd own⟩
 . rw [ha] at h3 ⊢
   cases h3 with
   | cons r t =>
     cases t
     cases r with
     | lst q rr => exact .cons (.lst q (acs rr)) .nil
 . rw [hr] at r ⊢
   cases r with
   | sh r => cases r; exact .sh (.bl _)
theorem XS {K : PySem.W.Frag} {H : Hp} {a : Addr} {ts : List (Addr × Str)} {arg : List Int -> List D} {pre : List Int -> Prop} {res : List Int -> T} {ns : List Int} (ha : arg ns = [.lst (ns.map D.int)]) (hp : pre ns) (hr : res ns = .sh (.bl true)) (hS : qk K H a (ns.map V.int)) (ht : ∀ p ∈ ts, H p.1 = some (.tabs p.2)) :
   spT K ts 1 arg pre res [.ref a] H (fun v H' => v = .bl true /\ ∀ p ∈ ts, H' p.1 = some (.tabs p.2)) fun _ _ _ => False :=
 ⟨H, ns, .refl _, fun _ _ q _ => q, by rw [ha]; exact .cons (.lst hS (HQ ns)) .nil, by rw [ha]; rfl, hp, ht, fun v H' W' fp hh _ _ _ _ r _ _ => by
   refine ⟨?_, fun p hp => hh _ _ (ht p hp)⟩
   rw [hr] at r
   cases r with
   | sh r => exact r.sc rfl⟩
theorem oq : ∀ {ts : List (Addr × Str)} {b : Addr} {q : Str}, ts.lookup b = some q -> (b, q) ∈ ts
 | [], _, _, e => by cases e
 | (c, x) :: r, b, q, e => by
   rw [am4] at e
   cases hb : b == c with
   | true => rw [hb] at e; cases e; rw [eq_of_beq hb]; exact .head _
   | false => rw [hb] at e; exact .tail _ (oq e)
theorem Ql {P : Program} {w : World} {K : PySem.W.Frag} {mg mb : Str -> Option Value} {k : Nat} {fa a : Addr} {fd : FuncData} {x : Str} {sp : Sp} {s₁ : Shared} {vs : List Value} {ns : List Int} {ts : List (Addr × Str)}
   (KX : K.In s₁.heap) (hns : s₁.heap.Ns mainGlobals mg) (hb : s₁.heap.Ns builtinsNs mb) (hbb : ∀ x : Str, x ≠ "__name__" -> mb x = bootBuiltins x) (aiu : s₁.heap.NoLimit) (hg : s₁.gens = #[]) (hbl : z6 mg s₁.heap)
   (ha : s₁.heap.get? a = some { cls := .type "list", data := .seq vs.toArray }) (hi : IntsAre vs ns) (hl : ns.length <= sizeLine) (hr : gb k callerA)
   (hT : ∀ p ∈ ts, s₁.heap.get? p.1 = some (PySem.W.tabObj #[]) /\ ts.lookup p.1 = some p.2 /\ K.lookup p.1 = none /\ ∃ c, PySem.W.CodeHd s₁.heap c p.1)
   (F : ∀ base : Heap, K.In base -> base.Ns mainGlobals mg -> z6 mg base -> cV P w K mg base iT k fa fd [x] sp) (Ih : ∀ (s : Shared) (u : Value), BindsTo s fd ⟨[u], []⟩ [(x, u)])
   (Kg : ∀ H : Hp, qk K H a (ns.map V.int) -> (∀ p ∈ ts, H p.1 = some (.tabs p.2)) -> sp [.ref a] H (fun v H' => v = .bl true /\ ∀ p ∈ ts, H' p.1 = some (.tabs p.2)) fun _ _ _ => False) :
   codeAny (model P w) callerA (.call (.ref fa) ⟨[.ref a], []⟩) y0.V s₁ := by
 have rv := Dv hi
 have aiv := hi.length
 have aT : ∀ p ∈ ts, p.1 ≠ a := fun p hp z => by
   have := (hT p hp).1
   rw [z, ha] at this; cases this
 have core : ∀ H : Hp, (∀ b, H b = none \/ (∃ o xs, b = a /\ H b = some (.eF o (.lst xs))) \/ ∃ p ∈ ts, b = p.1 /\ H b = some (.tabs p.2)) -> qk K H a (ns.map V.int) -> (∀ p ∈ ts, H p.1 = some (.tabs p.2)) -> qo P w H s₁.heap -> (H a ≠ none -> K.lookup a = none) →
     codeAny (model P w) callerA (.call (.ref fa) ⟨[.ref a], []⟩) y0.V s₁ := by
   intro H hO hS hH dM hK
   have noA : ∀ {b : Addr} {o : Obj}, s₁.heap.get? b = some o -> o ≠ { cls := .type "list", data := .seq vs.toArray } -> o ≠ PySem.W.tabObj #[] -> H b = none := fun {b o} e d1 d2 => by
     rcases hO b with q | ⟨_, _, z, _⟩ | ⟨p, hp, z, _⟩
     . exact q
     . rw [z, ha] at e; exact absurd (amK e).symm d1
     . rw [z, (hT p hp).1] at e; exact absurd (amK e).symm d2
   have EL : ∀ {b : Addr} {o : Obj}, s₁.heap.get? b = some o -> H b = none -> (B3 s₁.heap H).get? b = some o := fun e n => R0 e n
   have nsK : ∀ {b : Addr} {m : Str -> Option Value}, s₁.heap.Ns b m -> (B3 s₁.heap H).Ns b m := fun {b m} ⟨o, es, ep, e, d, r⟩ => ⟨o, es, ep, EL e (noA e (fun z => by rw [z] at d; cases d) fun z => by rw [z] at d; cases d), d, r⟩
   have hKb : K.In (B3 s₁.heap H) := fun b o e => EL (KX b o e) (by
     rcases hO b with q | ⟨_, _, z, q⟩ | ⟨p, hp, z, _⟩
     . exact q
     . subst z
       rw [hK (by rw [q]; simp)] at e; cases e
     . rw [z, (hT p hp).2.2.1] at e; cases e)
   have hM : Mod K mg (B3 s₁.heap H) := ⟨hKb, nsK hns, ⟨mb, nsK hb, hbb⟩, let ⟨mc, h1, h2⟩ := aiu; ⟨mc, nsK h1, h2⟩⟩
   have hBb : z6 mg (B3 s₁.heap H) := by
     obtain ⟨bm, o, b1, b2, b3, b4, b5, b6, b7⟩ := hbl
     exact ⟨bm, o, b1, b2, b3, EL b4 (noA b4 (fun z => by rw [z] at b7; cases b7) fun z => by rw [z] at b7; cases b7), b5, b6, b7⟩
   have e0 : KG P w K mg (B3 s₁.heap H) callerA [] s₁ H := ⟨rfl, hM, fun b o e => Wu e, Nat.le_of_eq (O1 _ _), trivial, fun b hb => absurd (show b ∈ ([] : List Addr) from hb) y0.C, dM, .of_eq hg⟩
   refine codeAny_mono ((F _ hKb (nsK hns) hBb).run callerA [] s₁ H ⟨[.ref a], []⟩ [.ref a] [.ref a] _ _ hr e0 (Ih s₁ (.ref a)) (.cons rfl .nil) (Kg H hS hH)) fun r s' h => ?_
   cases r with
   | error e => exact h.elim
   | ok fl =>
     cases fl with
     | next => exact False.elim h
     | brk => exact False.elim h
     | cont => exact False.elim h
     | ret u =>
       obtain ⟨v, H', os, bare, un, afM, r', q, qt⟩ := h
       subst q
       obtain rfl : u = Value.bool true := r'
       have tabAt : ∀ p ∈ ts, ∃ ps : Array Value, s'.heap.get? p.1 = some (PySem.W.tabObj ps) := fun p hp => by
         obtain ⟨ps, e, _⟩ := afM _ _ (qt p hp)
         exact ⟨ps, e⟩
       have keep : ∀ b o, s₁.heap.get? b = some o -> (∀ p ∈ ts, b ≠ p.1) -> s'.heap.get? b = some o := fun b o e nt => by
         rcases hO b with q | ⟨ob, xs, z, q⟩ | ⟨p, hp, z, _⟩
         . exact un.keep b o e q (by intro z; exact absurd (show b ∈ ([] : List Addr) from z) y0.C) y0.C
         . have z2 := un.dQ b ob _ q
           obtain ⟨e1, _⟩ := dM b _ q
           obtain ⟨e2, _⟩ := afM b _ z2
           rw [e] at e1; cases e1
           exact e2
         . exact absurd z (nt p hp)
       refine ⟨rfl, ⟨fun b o e => ?_, fun b o e => ?_⟩, os, bare⟩
       . by_cases nt : ∀ p ∈ ts, b ≠ p.1
         . exact .inl (keep b o e nt)
         . obtain ⟨p, hp, rfl⟩ : ∃ p ∈ ts, b = p.1 := Classical.byContradiction fun q => nt fun p hp z => q ⟨p, hp, z⟩
           obtain ⟨h1, _, _, c, hc⟩ := hT p hp
           obtain ⟨ps, e2⟩ := tabAt p hp
           rw [h1] at e; cases e
           exact .inr (.inl ⟨(hc.tab h1).isCodeTable, rfl, #[], ps, rfl, by rw [Array.empty_append]; exact e2⟩)
       . by_cases nt : ∀ p ∈ ts, b ≠ p.1
         . exact ⟨o, keep b o e nt⟩
         . obtain ⟨p, hp, rfl⟩ : ∃ p ∈ ts, b = p.1 := Classical.byContradiction fun q => nt fun p hp z => q ⟨p, hp, z⟩
           obtain ⟨ps, e2⟩ := tabAt p hp
           exact ⟨_, e2⟩
 have tok : ∀ {H : Hp} {b : Addr} {q : Str}, ts.lookup b = some q -> fB P w H s₁.heap b (.tabs q) := fun {H b q} e => by
   obtain ⟨h1, _⟩ := hT (b, q) (oq e)
   exact ⟨#[], h1, trivial, fun pos cv z => by simp [codeAmong] at z⟩
 cases hk : K.lookup a with
 | some o =>
   have e := KX a o hk
   rw [ha] at e
   cases e
   refine core (fun b => (ts.lookup b).map HO.tabs) (fun b => ?_) (.inr ⟨_, vs.toArray, _, hk, rfl, rfl, rfl, by rw [List.size_toArray, aiv]; exact hl, by simpa using rv⟩) (fun p hp => ?_) (fun b u z => ?_) fun z => ?_
   . cases q : List.lookup b ts with
     | none => left; rfl
     | some t => right; right; exact ⟨(b, t), oq q, rfl, rfl⟩
   . show (ts.lookup p.1).map HO.tabs = _
     rw [(hT p hp).2.1]; rfl
   . have z' : (ts.lookup b).map HO.tabs = some u := z
     cases q : List.lookup b ts with
     | none => rw [q] at z'; cases z'
     | some t => rw [q] at z'; cases z'; exact tok q
   . exfalso
     apply z
     show (ts.lookup a).map HO.tabs = none
     cases q : ts.lookup a with
     | none => rfl
     | some t => exact absurd rfl (aT (a, t) (oq q))
 | none =>
   refine core (fun b => if b = a then some (.eF { cls := .type "list", data := .seq vs.toArray } (.lst (ns.map V.int))) else (ts.lookup b).map HO.tabs) (fun b => ?_) (.inl (.inr ⟨{ cls := .type "list", data := .seq vs.toArray }, aml rfl⟩)) (fun p hp => ?_) (fun b u z => ?_) fun _ => hk
   . by_cases hb : b = a
     . exact .inr (.inl ⟨_, _, hb, aml hb⟩)
     . cases q : List.lookup b ts with
       | none => left; rw [amg hb]; rfl
       | some t => right; right; exact ⟨(b, t), oq q, rfl, by rw [amg hb]; rfl⟩
   . show (if p.1 = a then _ else (ts.lookup p.1).map HO.tabs) = _
     rw [amg (aT p hp), (hT p hp).2.1]; rfl
   . by_cases hb : b = a
     . have z' := (aml hb).symm.trans z
       cases z'
       subst hb
       exact ⟨ha, by rw [amh]; exact hl, vs, _, rv, ha⟩
     . have z' : (ts.lookup b).map HO.tabs = some u := (amg hb).symm.trans z
       cases q : List.lookup b ts with
       | none => rw [q] at z'; cases z'
       | some t => rw [q] at z'; cases z'; exact tok q
theorem Ub {l : PySem.W.OpenLaw} {n k : Nat} {q : Program} {loose : List Str} {XP : (Str -> Option Value) -> Heap -> Prop} {YP : World -> Heap -> Prop} {d : DefRec} {K : Params -> PySem.W.Frag} {sp : World -> List (Addr × Str) -> Sp} {x : Str} {T0 : List Addr}
   (hn : l.most = some n) (hn2 : n <= sizeLine) (hdf : d.params.defaults = []) (hr : gb k callerA)
   (hY : ∀ (w : World) (h : Heap), YP w h -> (K w.params).In h) (hT : ∀ (w : World) (h : Heap), YP w h -> ∀ P ∈ T0, h.get? P = some (PySem.W.tabObj #[]))
   (F : ∀ (w : World) (mg : Str -> Option Value) (fa : Addr) (h : Heap), (K w.params).In h -> h.Ns mainGlobals mg -> mg d.name = some (.ref fa) →
     ∃ (fd : FuncData) (ts : List (Addr × Str)), (∀ p ∈ ts, p.1 ∈ T0 /\ ts.lookup p.1 = some p.2 /\ (K w.params).lookup p.1 = none /\ ∃ c, PySem.W.CodeHd h c p.1) /\ (∀ (s : Shared) (u : Value), BindsTo s fd ⟨[u], []⟩ [(x, u)]) ∧
       ∀ base : Heap, (K w.params).In base -> base.Ns mainGlobals mg -> z6 mg base -> cV l.prog w (K w.params) mg base iT k fa fd [x] (sp w ts))
   (Kg : ∀ (w : World) (ts : List (Addr × Str)) (H : Hp) (a : Addr) (ns : List Int), ns.length <= n -> qk (K w.params) H a (ns.map V.int) -> (∀ p ∈ ts, H p.1 = some (.tabs p.2)) -> sp w ts [.ref a] H (fun v H' => v = .bl true /\ ∀ p ∈ ts, H' p.1 = some (.tabs p.2)) fun _ _ _ => False) :
   PySem.W.WalkO q loose XP YP l.row.toRowW d [] (fun f vs => PySem.call f vs) := by
 refine Att.Hx hn hdf fun w s₀ s₁ mg mb fa o pm cd doc a vs ns G Y ho hd ko hmg abF hints hlen hg => ?_
 have KX := hY w _ Y
 obtain ⟨fd, ts, hts, hb, hF⟩ := F w mg fa _ KX G.T.g hmg
 obtain ⟨bm, ob, b1, b2, b3, b4, b5, b6⟩ := G.T.bmain
 have hbG : bm ≠ mainGlobals := fun q => by
   obtain ⟨o, es, ep, e, hd, _⟩ := G.T.g
   rw [q, e] at b3; cases b3; rw [hd] at b6; cases b6
 exact Ql KX G.T.g G.T.b G.T.builtins G.T.nolimit hg ⟨bm, ob, b1, b2, hbG, b3, b4, b5, b6⟩ abF hints (anB hlen hn2) hr (fun p hp => ⟨hT w _ Y _ (hts p hp).1, (hts p hp).2⟩) hF hb fun H hS ht => Kg w ts H a ns hlen hS ht
def aiw (y : Int) : Value -> Bool
 | .int i _ => i == y
 | _ => false
section
variable {X : Cx}
theorem Uc : MtR X "list.index" (fun x xs H Q => ∃ (p : Addr) (l : List Int) (y : Int) (j : Nat), x = .ref p /\ xs = [.int y] /\ qk X.K H p (l.map .int) /\ l[j]? = some y /\ (∀ i, i < j -> l[i]? ≠ some y) /\ Q (.int (j : Int)) H) := by
 intro pins s σ H x xs v us Q I rx rs h
 obtain ⟨p, l, y, j, rfl, rfl, hq, hj, hno, q⟩ := h
 cases rx
 obtain ⟨u, rfl, ru⟩ := rs.one
 obtain ⟨t, rfl⟩ := ru
 obtain ⟨its, r, ⟨⟨oc, od, oda, Pr⟩, n, e, hc, hd, hs⟩, hz⟩ := I.list hq
 dsimp only at hc hd hs
 subst hc hd hs
 have hi := intsAre_of r
 have at' : ∀ {i : Nat} (hi : i < its.toArray.size), ∃ k t, its.toArray[i] = .int k t /\ l[i]? = some k := fun {i} tV => by
   have aiy : i < its.length := by simpa using tV
   have hl : i < l.length := by have := r.length; rw [amh] at this; omega
   obtain ⟨u, e1, e2⟩ := r.get (i := i) (x := .int l[i]) (by rw [amT, amq hl]; rfl)
   obtain ⟨t, rfl⟩ := e2
   refine ⟨l[i], t, ?_, amq hl⟩
   rw [amq aiy] at e1
   simpa using Option.some.inj e1
 have qi : j < its.toArray.size := by
   have h1 := (amU.mp hj).1
   have := r.length
   rw [amh] at this
   simp; omega
 have hsz : its.toArray.size <= sizeLine := by
   have := r.length
   rw [amF, ← this]; exact hz
 refine call_meets F.slot_list_index ⟨_, e, rfl⟩ F.entry_list_index (F.args_list_index_2 _ _) (SeqAt.list_indexAt p its.toArray n none Pr (.int y t) (aiw y) j qi (by rw [amV] at hsz; omega) ?hit fun m hm hmj => ?no) ⟨e, fun w hw => ?eqs, ?_⟩
 case hit =>
   obtain ⟨k, t', e1, e2⟩ := at' qi
   rw [e1]
   rw [hj] at e2
   cases e2
   exact an9 y
 case no =>
   obtain ⟨k, t', e1, e2⟩ := at' hm
   rw [e1]
   exact anJ.mpr fun z => hno m hmj (by rw [e2, z])
 case eqs =>
   obtain ⟨i, tV, rfl⟩ := Array.mem_iff_getElem.mp hw
   obtain ⟨k, t', e1, e2⟩ := at' tV
   rw [e1]
   exact SeqAt.EqAt.int_int k t' y t
 exact ⟨.int (j : Int), H, I.tok _, ⟨_, rfl⟩, q⟩
end
section
variable {X : Cx} {CL : Str -> Addr} {b : Bx} {δ δ1 δ2 : List (Option T)} {o e : Expr} {apos pos : Pos}
theorem Ud {l : List Int} {y : Int} {j : Nat} (h1 : d9 X CL b o δ (.lst (l.map .int)) δ1) (h2 : d9 X CL b e δ1 (.int y) δ2) (hj : l[j]? = some y) (hno : ∀ i, i < j -> l[i]? ≠ some y)
   (oh : attributeBase o "index" X.env (eval o X.env) = eval o X.env := by rfl) (Es : ((backTo pos (starEach [e] X.env)).all (fun x => !x.1) && (backToKw pos y0.bv).all y0.bE
     && decide (([e] : List Expr).length + ([] : List Keyword).length + y0.U < 30)) = true := by rfl)
   (hline : (apos.endLine == pos.line) = true := by rfl) (hs : starEach [e] X.env = (false, eval e X.env) :: starEach [] X.env := by exact bR rfl) (KL : (backTo pos (starEach [] X.env)).any (·.1) = false := by rfl) :
   cW X CL b (.Call (.Attribute o "index" apos) [e] [] pos) δ (.sh (.int (j : Int))) δ2 := fun H Z σ ts vs Q S k =>
 dG (Sy (T := "list") (id := "list.index") F.plainAttrs_list F.slot_list_index F.type_list_index Uc eS y0.bb oh Es hline hs KL) (h1 H Z σ ts vs _ S fun v1 H1 Z1 z1 k1 S1 r1 => by
   cases r1 with
   | @lst a us _ hq rr =>
     have := DG rr
     subst this
     refine ⟨?_, h2 H1 Z1 σ ts vs _ S1 fun v2 H2 Z2 z2 k2 S2 r2 => ?_⟩
     . exact .inl ⟨rfl, _, hq⟩
     . cases r2
       exact ⟨a, l, y, j, rfl, rfl, k2.seq hq, hj, hno, k _ H2 Z2 y0.F y0.S (S2.push (.int _))⟩)
end
section
variable {X : Cx} {CL : Str -> Addr} {b : Bx} {δ : List (Option T)} {e : Expr} {es : List Expr} {d : L3.D} {ds : List L3.D}
end
theorem XT {k : Nat} {A : Around} (r : gb k A) : A.depth < recursionLimit := by
 have := r.dp
 omega
section
variable {X : Cx} {CL : Str -> Addr} {b : Bx} {δ δ1 : List (Option T)} {scope : Scope} {y : Str} {Nc : List Str} {ix : List Nat} {elt iter : Expr} {ifs : List Expr} {px pos : Pos} {p : L3.D -> Bool} {g : L3.D -> T} {ds : List L3.D}
end
section
variable {X : Cx}
theorem Ik : bootBuiltins "range" = some (.type "range") := by decide +kernel
theorem Il : kU X (.type "range") (fun xs H Q => ∃ n, xs = [.int n] /\ ∀ r, H r = none -> Q (.ref r) (upd H r (.rng 0 n))) := by
 intro pins s σ H xs us Q I r h
 obtain ⟨n, rfl, q⟩ := h
 obtain ⟨u, rfl, ru⟩ := vals1 r
 obtain ⟨t, rfl⟩ := ru
 exact call_range_1 ⟨.ref s.heap.objs.size, _, I.laid (t' := s.toks + 1 + 1) (o := .rng 0 n) (fun b o e => amy _ e) (amo _) ⟨_, _, _, amY _ rfl⟩, rfl, q _ y0.bm⟩
theorem DK : ∀ (l : List Value) (k : Nat), (∀ j v, l[j]? = some v -> ∃ t, v = Value.int ((k + j : Nat) : Int) t) -> Vals ((List.range' k l.length).map fun (i : Nat) => V.int (i : Int)) l
 | [], _, _ => .nil
 | v :: l, k, h => by
   rw [amB, List.range'_succ, amD]
   refine .cons (h 0 v rfl) (DK l (k + 1) fun j w e => ?_)
   obtain ⟨t, ht⟩ := h (j + 1) w y0.aP
   exact ⟨t, by rw [ht]; congr 1; omega⟩
theorem Lf {acc : Array Value} {n : Nat} (h : ItemsOf (fun i v => ∃ t, v = Value.int (0 + i * 1) t) acc n) : Vals ((List.range n).map fun (i : Nat) => V.int (i : Int)) acc.toList := by
 have := DK acc.toList 0 fun j v e => by
   rw [anO] at e
   obtain ⟨t, ht⟩ := h.2 j v e
   exact ⟨t, by rw [ht]; congr 1; omega⟩
 rw [anK, h.1] at this
 rw [List.range_eq_range']
 exact this
theorem ER (hc : X.calm = true) : kU X (.type "list") (fun xs H Q => ∃ (p : Addr) (n : Nat), xs = [.ref p] /\ H p = some (.rng 0 (n : Int)) /\ n <= 1000 /\ ∀ l, H l = none -> Q (.ref l) (upd H l (.lst ((List.range n).map fun (i : Nat) => V.int (i : Int))))) := by
 intro pins s σ H xs us Q I r h
 obtain ⟨p, n, rfl, hp, hn, q⟩ := h
 obtain ⟨u, rfl, ru⟩ := vals1 r
 cases ru
 obtain ⟨t, u, v, e⟩ := I.dM p _ hp
 refine call_list_range (n := n) (I.ok.hd hc) e (small_one y0.b y0.b y0.b y0.b) (by rw [rangeSize_one]; split <;> omega) y0.b fun h' tk aiz c' hk hS' items => ?_
 refine ⟨.ref s.heap.objs.size, _, I.laid (t' := tk) (o := .lst ((List.range n).map fun (i : Nat) => V.int (i : Int))) hk (Nat.le_refl _) ⟨?_, aiz.toList, c', Lf items, by simpa using hS'⟩, rfl, q _ (I.dM.fresh (Nat.le_refl _))⟩
 rw [amh, anc]
 exact anf (cQ hn)
end
section
variable {X : Cx} {CL : Str -> Addr} {b : Bx} {δ δ1 : List (Option T)} {e : Expr} {pos pp pq pr : Pos}
theorem Ue {n : Nat} (g : Gx X) (hm : X.mg "list" = none) (hmr : X.mg "range" = none) (h : d9 X CL b e δ (.int (n : Int)) δ1) (hn : n <= 1000) (hg : Gl X "list") (hgr : Gl X "range") (hs : starEach [e] X.env = (false, eval e X.env) :: starEach [] X.env := by exact bR rfl) :
   cW X CL b (.Call (.Name "list" pp) [.Call (.Name "range" pq) [e] [] pr] [] pos) δ (.lst ((((List.range n).map fun (i : Nat) => (i : Int)).map D.int).map T.sh)) δ1 := fun H Z σ ts vs Q S k =>
 dG (jt (ER g.calm) hg hm cC (dc (jt Il hgr hmr Ik y0.bb (he := hs)) fC (bR rfl)) (he := bR rfl)) (h H Z σ ts vs _ S fun v H1 Z1 z1 k1 S1 r => by
   cases r
   refine ⟨_, rfl, fun r hr => ⟨r, n, rfl, bw, hn, fun p hp => ?_⟩⟩
   have same : aQ H1 (upd H1 r (.rng 0 (n : Int))) := aQ.upd hr
   obtain ⟨Z', z', S2⟩ := S1.back (t := .sh (.int 0)) (v := .int 0) (fp := []) (W := Z1) (W' := Z1) same y0.B y0.B (S1.zh.trans same) (fun a o q z => by rw [q] at z; cases z) (fun a o q im => by
     by_cases ha : a = r
     . subst ha; rw [bw] at q; cases q; cases im
     . rw [aO ha] at q; exact S1.tp a o q im) (.sh (.int 0)) anD (fun a ha => by cases ha) y0.az
   have ev : ((List.range n).map fun (i : Nat) => V.int (i : Int)) = ((List.range n).map fun (i : Nat) => (i : Int)).map V.int := by rw [amO]; rfl
   rw [ev]
   obtain ⟨c, S3⟩ := (cj.sZ (ints_rep ((List.range n).map fun (i : Nat) => (i : Int))) S2.pop).qA (g0 := []) y0.C hp
   exact k _ _ _ (z1.trans z') ((k1.trans same).trans c) S3)
end
section
variable {X : Cx} {CL : Str -> Addr} {b : Bx} {δ δ1 : List (Option T)} {ds : List L3.D} {i q : Nat} {x y : Str} {pos pp pos' : Pos}
end
section
variable {X : Cx} {CL : Str -> Addr} {b : Bx} {e o : Expr} {δ δ1 δ2 : List (Option T)} {pos apos : Pos}
end
section
variable {X : Cx} {tg : Expr}
end
section
variable {X : Cx} {CL : Str -> Addr} {b : Bx} {δ δ1 δ2 δ3 : List (Option T)} {e e1 e2 e3 : Expr} {ds uP : List L3.D} {pos p2 pr pc : Pos} {tg : Expr}
end
section
variable {X : Cx} {elts : List Expr} {kk : Nat} {pt : Pos}
end
section
variable {X : Cx} {CL : Str -> Addr} {b : Bx} {δ δ1 δ2 : List (Option T)} {e e1 e2 : Expr} {ds es : List D} {elts : List Expr} {kk : Nat} {pt pr pc pos apos : Pos}
end
section
variable {X : Cx} {CL : Str -> Addr} {b : Bx} {δ δ1 δ2 : List (Option T)} {e e2 : Expr} {t : T} {tl Tc tt tt0 : List T} {DD : dN} {fJ : List Stmt} {x : Str} {i : Nat} {pos pp pa pb ps : Pos}
theorem Ug {ds : List L3.D} (h : d9 X CL b e δ (.lst ds) δ1) (he : ∀ whole, isTrue e X.env whole = (do let v ← whole; standAt e.pos; holding [v] (truthy v)) := by intro _; rfl) : yf X CL b e δ (!ds.isEmpty) δ1 := fun H Z σ ts vs Q S k =>
 HG (Sd eS he) (h H Z σ ts vs _ S fun v H1 Z1 z1 k1 S1 r => by
   cases r with
   | @lst a us _ hq rr =>
     refine ⟨_, .inl ⟨us, hq, rfl⟩, ?_⟩
     have e : us.isEmpty = ds.isEmpty := by
       have := rr.length
       cases us <;> cases ds <;> simp at this ⊢
     rw [e]
     exact k H1 Z1 z1 k1 S1)
end
section
variable {X : Cx}
end
section
variable {X : Cx} {CL : Str -> Addr} {b : Bx} {δ δ1 δ2 : List (Option T)} {o e : Expr} {apos pos : Pos}
end
section
variable {K : PySem.W.Frag} {CL : Str -> Addr} {b : Bx} {H Z : Hp} {δ : List (Option T)} {σ : L2.St} {ts tl : List T} {vs : List V} {t : T} {v : V} {d : D}
end
section
variable {X : Cx} {CL : Str -> Addr} {b : Bx} {δ δ1 δ2 : List (Option T)} {e e1 e2 : Expr} {t : T} {d : L3.D} {DD : dN} {pos pp ps : Pos} {i : Nat} {x : Str} {fJ : List Stmt} {bH : List (List Key × L3.D)} {k : List Key}
end
section
variable {X : Cx}
end
section
variable {X : Cx} {CL : Str -> Addr} {b : Bx} {δ δ1 : List (Option T)} {e : Expr} {pos pp pq pr : Pos}
end
section
variable {X : Cx} {CL : Str -> Addr} {b : Bx} {δ δ1 δ2 : List (Option T)} {e1 e2 e3 : Expr} {pos : Pos}
end
section
variable {prog : Program} {w : World} {A : Around} {E : Value -> Shared -> Prop} {s : Shared}
end
section
variable {X : Cx}
end
section
variable {X : Cx} {CL : Str -> Addr} {b : Bx} {δ δ1 : List (Option T)} {e : Expr} {pos pp pq pr : Pos}
end
section
variable {X : Cx} {CL : Str -> Addr} {b : Bx} {δ δ1 δ2 : List (Option T)} {e1 e2 : Expr} {pos : Pos} {bH : List (Key × D)}
end
section
variable {X : Cx} {CL : Str -> Addr} {b : Bx} {δ δ1 δ2 : List (Option T)} {e1 e2 : Expr} {pos : Pos}
end
section
variable {X : Cx} {CL : Str -> Addr} {b : Bx} {δ δ1 : List (Option T)} {i q : Nat} {x y : Str} {pos pp pos' : Pos}
variable {K : PySem.W.Frag} {H Z : Hp} {σ : L2.St} {ts tl : List T} {vs us : List V} {t u : T} {v w : V} {a : Addr}
end
section
variable {K : PySem.W.Frag} {CL : Str -> Addr} {b : Bx} {H Z : Hp} {δ : List (Option T)} {σ : L2.St} {ts tl : List T} {vs : List V} {t : T} {i : Nat}
theorem z7 {H Z : Hp} : ∀ {tl : List T} {us : List V} {g : List Addr}, bI K CL H Z (tl ++ [t]) us g -> ∃ XO u g1 g2, us = XO ++ [u] /\ g = g1 ++ g2 /\ bI K CL H Z tl XO g1 /\ dR K CL H Z t u g2
 | [], _, _, .cons (v := v) (fp := fp) r .nil => ⟨[], v, [], fp, rfl, amH _, .nil, r⟩
 | _ :: _, _, _, .cons (v := v) (fp := fp) r rr => by
   obtain ⟨XO, u, g1, g2, e1, e2, r1, r2⟩ := z7 rr
   subst e1 e2
   exact ⟨v :: XO, u, fp ++ g1, g2, rfl, (amr ..).symm, .cons r r1, r2⟩
theorem cj.XU (S : cj K CL b H Z δ σ ts vs) (hi : δ[i]? = some (some (.lst (tl ++ [t])))) :
   ∃ a us u, σ[i]? = some (some (.ref a)) /\ H a = some (.lst (us ++ [u])) /\ cj K CL b (upd H a (.lst us)) Z (δ.set i (some (.lst tl))) σ (t :: ts) (u :: vs) := by
 obtain ⟨fp, gp, e, r, nd, k⟩ := S.rep
 obtain ⟨v0, f1, f2, f3, hv, uO, rt, put, _⟩ := e.get hi
 subst uO
 cases rt with
 | @lst a us _ g ha rs =>
   obtain ⟨XO, u, g1, g2, e1, e2, r1, r2⟩ := z7 rs
   subst e1 e2
   have ne : ∀ c ∈ (f1 ++ ((g1 ++ g2) ++ f3)) ++ gp, c ≠ a := fun c hc e => by
     subst e
     have hp : ((f1 ++ ((c :: (g1 ++ g2)) ++ f3)) ++ gp).Perm (c :: ((f1 ++ ((g1 ++ g2) ++ f3)) ++ gp)) := by
       rw [amL, ← amL]
       exact (ant.append_right _)
     exact (ank.mp y0.bp).1 hc
   refine ⟨a, XO, u, hv, ha, ?_⟩
   have q1 : dR K CL (upd H a (.lst XO)) Z (.lst tl) (.ref a) (a :: g1) := .lst bw (r1.mono y0.B fun c hc => aO y0.N)
   have e2 := put (H' := upd H a (.lst XO)) y0.B (fun c hc => aO (ne c (by
     rcases amx.mp hc with h | h
     . simp [h]
     . simp [h]))) q1
   rw [oj hv] at e2
   have hp : ((f1 ++ ((a :: g1) ++ f3)) ++ (g2 ++ gp)).Perm ((f1 ++ ((a :: (g1 ++ g2)) ++ f3)) ++ gp) := by
     simp only [amL, amr]
     refine am2 f1 (List.Perm.cons a (am2 g1 ?_))
     rw [← amr, ← amr]
     exact am6.append_right gp
   exact S.write nd k (amj) ⟨_, ha⟩ e2 (.cons (r2.mono y0.B fun c hc => aO y0.N) (r.mono y0.B fun c hc => aO y0.N)) (hp.nodup_iff.mpr nd) fun c hc => hp.mem_iff.mp hc
end
section
variable {X : Cx} {CL : Str -> Addr} {b : Bx} {δ δ1 δ2 : List (Option T)} {e e1 e2 : Expr} {t : T} {tl : List T} {ds uP : List L3.D} {D : dN} {pos pp pa : Pos} {fJ : List Stmt} {i : Nat} {x : Str}
theorem Uh (n : Vn X i x) (h : δ[i]? = some (some (.lst (tl ++ [t])))) (oh : attributeBase (.Name x pp) "pop" X.env (eval (.Name x pp) X.env) = eval (.Name x pp) X.env := by rfl) (hline : (pa.endLine == pos.line) = true := by rfl) :
   TEm X CL b (.Call (.Attribute y0.J "pop" pa) [] [] pos) δ t (δ.set i (some (.lst tl))) := fun H Z σ ts vs Q S k =>
 dG (abC aov PySem.F.slot_list_pop PySem.F.type_list_pop abE (m7 n.hi n.hv n.hd n.ko) oh hline) (by
   obtain ⟨a, us, u, hv, ha, S2⟩ := S.XU h
   refine ⟨_, hv, .inl ⟨rfl, _, .inl (.inl ha)⟩, ?_⟩
   refine ⟨a, us ++ [u], u, rfl, rfl, ha, by simp, ?_⟩
   rw [List.dropLast_concat]
   exact k u _ Z y0.B S2)
theorem aaF {d : L3.D} (h : δ[i]? = some (some t)) (q : t.eF = d) (k : fD X CL b fJ (δ.set i (some (.sh d))) D) : fD X CL b fJ δ D := fun H Z σ ts vs E S M => by
 subst q
 obtain ⟨v, Z', _, z, S'⟩ := S.N1 h
 exact k H Z' σ ts vs E S'.pop (M.mono z)
theorem Im : yJ X (binaryOp .Add) (fun x y H Q => ∃ a b ys, x = .ref a /\ y = .ref b /\ uM X.K H a [] /\ uM X.K H b ys /\ Q (.ref b) H) := by
 intro pins s σ H x y v u Q I rx ry h
 obtain ⟨a, b, ys, rfl, rfl, ha, hb, q⟩ := h
 cases rx
 cases ry
 obtain ⟨its, r1, p1, _⟩ := I.tuple ha
 obtain ⟨zM, r2, p2, _⟩ := I.tuple hb
 have e1 := r1.yS.mpr rfl
 subst e1
 obtain ⟨⟨cls, dd, data, sl⟩, ho, hc, n, hd⟩ := id p1
 obtain ⟨⟨ahF, dd2, data2, Wo⟩, Wq, wJ, n2, hd2⟩ := id p2
 simp only at hc hd wJ hd2
 subst hc hd wJ hd2
 exact concat_meets ⟨_, ho, rfl⟩ ⟨_, Wq, rfl⟩ noFill_tuple_add seq_tuple_add PySem.F.slot_tuple_add aou (aop _ _)
     (tuple_addW0 a b #[] zM.toArray n n2 dd dd2 sl Wo rfl) ⟨ho, Wq, .ref b, H, I, rfl, q⟩
theorem vf (h1 : cW X CL b e1 δ (.sh (.tup ds)) δ1) (h2 : cW X CL b e2 δ1 (.sh (.tup uP)) δ2) (n2 : uP ≠ []) (hz : ds.length + uP.length <= sizeLine) :
   cW X CL b (.BinOp e1 .Add e2 pos) δ (.sh (.tup (ds ++ uP))) δ2 := by
 cases ds with
 | cons d ds => exact TR h1 h2 (List.cons_ne_nil _ _) n2 hz
 | nil =>
     intro H Z σ ts vs Q S k
     exact dG (zJ Im eS eS) (h1 H Z σ ts vs _ S fun v1 H1 Z1 z1 k1 S1 => h2 H1 Z1 σ _ _ _ S1 fun v2 H2 Z2 z2 k2 S2 => by
       have r2 := S2.EJ
       have r1 := S2.pop.EJ
       cases r1 with
       | tup G7 K4 =>
         cases K4
         have r2' := r2
         cases r2 with
         | tup Xl Wr => exact ⟨_, _, _, rfl, rfl, aQ.HD S2.zh G7, aQ.HD S2.zh Xl, k _ _ Z2 y0.F y0.S (S2.pop.pop.push r2')⟩)
theorem Lg : kU X (.type "dict") (fun xs H Q => ∃ a bH, xs = [.ref a] /\ Rd H a (.dK bH) /\ ∀ p, H p = none -> Q (.ref p) (upd H p (.dK bH))) := by
 intro pins s σ H xs us Q I r h
 obtain ⟨a, bH, rfl, ha, q⟩ := h
 obtain ⟨u, rfl, ru⟩ := vals1 r
 cases ru
 exact SQ I ha fun p s' hp I' => ⟨.ref p, _, I', rfl, q p hp⟩
theorem cj.XW {p : Addr} {gs : List (Key × V)} {bH : List (Key × L3.D)} {K : PySem.W.Frag} {H Z : Hp} {σ : L2.St} {ts : List T} {vs : List V} (S : cj K CL b H Z δ σ ts vs) (hr : cH K CL Z bH gs) (hp : H p = none) : aQ H (upd H p (.dK gs)) /\ cj K CL b (upd H p (.dK gs)) Z δ σ (.kZ bH :: ts) (.ref p :: vs) := by
 obtain ⟨fp, gp, e, r, nd, k⟩ := S.rep
 have zp : Z p = none := S.zh.free hp
 have sh : aQ H (upd H p (.dK gs)) := aQ.upd hp
 have keep : ∀ a ∈ fp ++ gp, a ≠ p := fun a ha => by
   have : ∃ o, H a = some o := by
     rcases amx.mp ha with h | h
     . exact e.there a h
     . exact r.there a h
   obtain ⟨o, q⟩ := this
   exact aZ q hp
 refine ⟨sh, ⟨⟨fp, [p] ++ gp, e.mono y0.B y0.bh, .cons (.kZ bw hr) (r.mono y0.B fun a ha => aO (keep a y0.bB)), ?_, fun a ha => ?_⟩, S.bh.trans sh, S.zz, S.zh.trans sh, S.new, fun a o q i => ?_, S.tab⟩⟩
 . refine (ant (l₁ := fp) (l₂ := gp) (a := p)).nodup_iff.mpr (ank.mpr ⟨fun h => keep p h rfl, nd⟩)
 . rcases amt.mp ((ant (l₁ := fp) (l₂ := gp) (a := p)).mem_iff.mp ha) with h | h
   . subst h; exact ⟨zp, S.bh.free hp⟩
   . exact k a h
 . by_cases h : a = p
   . subst h
     rw [bw] at q
     cases q
     cases i
   . rw [aO h] at q
     exact S.tp a o q i
theorem Lh : bootBuiltins "dict" = some (.type "dict") := by decide +kernel
theorem Ui {bH : List (Key × L3.D)} (hm : X.mg "dict" = none) (h : cW X CL b e δ (.sh (.kZ bH)) δ1) (hg : Gl X "dict") (hs : starEach [e] X.env = (false, eval e X.env) :: starEach [] X.env := by exact bR rfl) : cW X CL b (.Call (.Name "dict" pp) [e] [] pos) δ (.kZ bH) δ1 := fun H Z σ ts vs Q S k =>
 dG (jt Lg hg hm Lh y0.bb (he := hs)) (h H Z σ ts vs _ S fun v H1 Z1 z1 k1 S1 => by
   have r := S1.EJ
   cases r with
   | @kZ a gs _ ha rr =>
     refine ⟨a, gs, rfl, .inl (S1.zh _ _ ha), fun p hp => ?_⟩
     obtain ⟨c, S2⟩ := S1.pop.XW rr hp
     exact k _ _ _ z1 (k1.trans c) S2)
end
end L3
namespace L2
open PySem PySem.Spec PyProof.Rows
abbrev EV : List Value := [.type "ValueError", .type "Exception", .type "BaseException", .type "object"]
def gk (fr : List Env) (h h' : Heap) : Prop := ∀ b ∈ qp fr, ∀ o, h.get? b = some o -> ∃ sl, h'.get? b = some { o with slots := sl }
def CX8 (P : Program) (w : World) : RP := fun outer H s E ev s' => ∃ (e C : Addr) (a0 : Value) (B : Heap) (H' : Hp), ev = .ref e /\ s'.os = s.os /\ AllBare s'.gens /\ Heap.FlyingW B outer e (.ref C) a0 s'.heap /\ qo P w H' B ∧
 (∀ h, B.StaysIn h -> gk outer s.heap h -> Un (qp outer) [] H H' s.heap h) /\ gk outer s.heap s'.heap /\ E (.ref C) none H'
def XE (X : Cx) (W : XK) : Value -> Shared -> Prop := fun ev s' => ∃ (e C : Addr) (pins : List y0.p) (σ : St) (H : Hp) (s : Shared), ev = .ref e /\ Inv X pins σ H s /\ W (.ref C) none H /\ s'.os = s.os /\ AllBare s'.gens ∧
 (Heap.MadeExcOf s.heap s'.heap e (.ref C) [] \/ ∃ a0, Heap.HeldW (PySem.W.hideAll s.heap (qp X.stack)) X.stack e (.ref C) a0 X.env.locals s'.heap /\ gk X.stack s.heap s'.heap)
section
variable {X : Cx} {pins : List (Addr × Obj)} {σ : St} {H : Hp} {s : Shared}
theorem gk.up {fr : List Env} {h h1 h2 base : Heap} (a : gk fr h h1) (f : h1.FunFrames base fr) (u : h1.UpToSlots h2) : gk fr h h2 := fun b hb o ho => by
 obtain ⟨sl, e⟩ := a b hb o ho
 obtain ⟨_, o', Nx, hd⟩ := f.mem hb
 rw [e] at Nx
 cases Nx
 obtain ⟨Wo, e2⟩ := u b _ e hd
 exact ⟨Wo, e2⟩
theorem Inv.Uj (I : Inv X pins σ H s) : qo X.prog X.w H (PySem.W.hideAll s.heap (qp X.stack)) := fun a o e => by
 refine (I.dM a o e).yG (fun b u hb q => anU _ q fun hm => ?_) (fun b q => q) (fun b xs q => q)
 have hn := I.yO b hm
 rcases hb with rfl | hb
 . rw [e] at hn; cases hn
 . rw [hb] at hn; cases hn
theorem Inv.Uk (I : Inv X pins σ H s) : s.heap.FunFrames (PySem.W.hideAll s.heap (qp X.stack)) X.stack := PySem.W.funFrames_hide I.stack fun env he a ha => aoo.mpr ⟨env, he, ha⟩
theorem Inv.Ul (I : Inv X pins σ H s) (qq : X.stack = X.env :: X.outer) (Km : X.env.frame = some X.env.locals) (hex : X.ex = []) (h : Heap) (st : (PySem.W.hideAll s.heap (qp X.stack)).StaysIn h) (fr : gk X.outer X.s₀.heap h) : Un (qp X.outer) [] X.H₀ H X.s₀.heap h := by
 have u := I.base
 rw [hex] at u
 have out : ∀ b o, X.s₀.heap.get? b = some o -> b ∉ qp X.outer -> b ∉ qp X.stack := fun b o hb hn hm => by
   rw [qq] at hm
   unfold qp at hm
   rw [anq, Km] at hm
   rcases amt.mp hm with z | z
   . have h1 := amG hb
     have h2 := I.ok.above
     rw [← z] at h2
     exact absurd h1 (Nat.not_lt.mpr h2)
   . exact hn z
 refine ⟨fun b o hb hH hf hx => ?_, fun b o hb hH hf hx => fr b hf o hb, u.free, fun b o hb hx => ?_, u.yH, u.dQ, u.yI⟩
 . exact st b o (anU _ (u.keep b o hb hH hf hx) (out b o hb hf))
 . obtain ⟨o', Nx⟩ := u.there b o hb hx
   by_cases hf : b ∈ qp X.outer
   . obtain ⟨sl, e⟩ := fr b hf o hb
     exact ⟨_, e⟩
   . exact ⟨o', st b o' (anU _ Nx (out b o hb hf))⟩
theorem Inv.Io (I : Inv X pins σ H s) (hex : X.ex = []) : gk X.outer X.s₀.heap s.heap := fun b hb o ho => I.base.slot b o ho (I.ok.Wk b hb) hb (by rw [hex]; exact amJ)
theorem acu {W : XK} {ev : Value} {s' : Shared} {E' : Value -> Shared -> Prop} (qq : X.stack = X.env :: X.outer) (Km : X.env.frame = some X.env.locals) (hex : X.ex = []) (h : XE X W ev s') :
   wpAny y0.d X.A (leaving X.env ev) (fun _ s'' => CX8 X.prog X.w X.outer X.H₀ X.s₀ W ev s'') E' s' := by
 obtain ⟨e, C, pins, σ, H, s, rfl, I, hw, ho, hg, hm⟩ := h
 have hfr : X.A.frames = some (X.env :: X.outer) := by rw [I.ok.frames, qq]
 have Um := I.Uk
 have hos : s'.os = X.s₀.os := ho.trans I.os
 rw [qq] at Um
 have sub : ∀ b, b ∈ qp X.outer -> b ∈ qp X.stack := fun b hb => by
   rw [qq]
   unfold qp at hb ⊢
   rw [anq, Km]
   exact amn _ hb
 rcases hm with hm | ⟨a0, hm, hs⟩
 . refine wpAny_leaves_madeW (base := PySem.W.hideAll s.heap (qp X.stack)) hfr Km (fun b o q => aon _ q) (by rw [qq]; exact Um) hm fun h' t x1 x2 x3 x4 => ?_
   refine ⟨e, C, .ref t, _, H, rfl, hos, hg, x1, I.Uj, I.Ul qq Km hex, ?_, hw⟩
   have f1 : gk X.outer X.s₀.heap s'.heap := fun b hb o hq => by
     obtain ⟨sl, q⟩ := I.Io hex b hb o hq
     exact ⟨sl, hm.keeps _ _ q⟩
   have f2 : s'.heap.FunFrames X.base X.outer := (show s.heap.FunFrames X.base X.outer from I.tR).of_keeps fun b o hb _ => ⟨o, hm.keeps b o hb, rfl⟩
   exact f1.up f2 x4
 . rw [qq] at hm
   unfold leaving
   refine ams (wpAny_noteFrame_againW Km hm.2.2.2 ?_)
   refine wpAny_landsW hm fun h' T8 hu => ?_
   obtain ⟨k1, k2, ⟨_, _, k3⟩, k4⟩ := T8
   refine ⟨e, C, a0, _, H, rfl, hos, hg, ⟨k1, k2, k3, k4⟩, ?_, ?_, ?_, hw⟩
   . rw [← qq]; exact I.Uj
   . intro h st fr
     rw [← qq] at st
     exact I.Ul qq Km hex h st fr
   . have f1 : gk X.outer X.s₀.heap s'.heap := fun b hb o hq => by
       obtain ⟨sl, q⟩ := I.Io hex b hb o hq
       obtain ⟨Wo, q2⟩ := hs b (sub b hb) _ q
       exact ⟨Wo, q2⟩
     obtain ⟨_, _, f2⟩ := hm.2.2.1
     exact f1.up f2 hu
theorem Uo {M : Model} {A : Around} {E : Value -> Shared -> Prop} {s : Shared} {base : Heap} {l : List Env} {env : Env} {e L : Addr} {cls a0 fl : Value} {Q : Unit -> Shared -> Prop} (hf : env.frame = some L)
   (hkb : base.StaysIn s.heap) (hen : base.get? e = none) (hl : s.heap.FunFrames base l) (ht : s.heap.TracedAtW base e cls a0 fl)
   (h : ∀ h', Heap.HeldW base l e cls a0 L h' -> s.heap.UpToSlots h' -> Q () { s with heap := h' }) :
   wpAny M A (do
     if (← field (.ref e) 1) == .none then unsupported "frame.own-activation:exception-without-traceback"
     setFlight (.ref e) env.frame) Q E s := by
 obtain ⟨oe, vs, T, oT, ts, he, R3, hd, h1, hnT, hTe, hT, hdT, h3⟩ := ht
 have afN : 3 < ts.size := (Array.getElem?_eq_some_iff.mp h3).1
 have XY : ∀ b, b ≠ T -> (s.heap.update T (Obj.mapFields (·.setIfInBounds 3 (rawInt L)))).get? b = s.heap.get? b := fun b hb => Heap.get?_update_other _ _ (an8 hb)
 have Up : ∀ b o, s.heap.get? b = some o -> (∀ vs, o.data ≠ .fields vs) -> b ≠ T := fun b o hb hnv q => by
   rw [q, hT] at hb; injection hb with hb; subst hb; exact hnv ts hdT
 refine ams (wpAny_field he hd h1 ?_)
 rw [amg (show ¬ ((Value.ref T == Value.none) = true) from by simp)]
 unfold setFlight
 refine ams (wpAny_field he hd h1 ?_)
 rw [aml (show (Value.ref T != Value.none) = true from by simp), hf]
 refine wpAny_setField hT hdT afN (h _ ⟨fun b o hbo => (XY b fun q => by rw [q, hnT] at hbo; cases hbo).trans (hkb b o hbo), hen, hl.of_keeps fun b o hb hnv => ⟨o, (XY b (Up b o hb hnv)).trans hb, rfl⟩, ?_⟩ fun b o hb hnv => ⟨o.slots, (XY b (Up b o hb hnv)).trans hb⟩)
 exact ⟨oe, vs, T, _, _, (XY e (an8 hTe)).trans he, R3, hd, h1, hnT, hTe, Heap.get?_update_self _ hT (Obj.isFreed_of_fields (Obj.data_mapFields hdT _)), Obj.data_mapFields hdT _, by simp [afN]⟩
theorem XZ {W : XK} (qq : X.stack = X.env :: X.outer) (Km : X.env.frame = some X.env.locals) : PassesOwn (model X.prog X.w) X.A X.env (XE X W) := fun ev s' h => by
 obtain ⟨e, C, pins, σ, H, s, rfl, I, hw, ho, hg, hm⟩ := h
 have hfr : X.A.frames = some (X.env :: X.outer) := by rw [I.ok.frames, qq]
 have Um := I.Uk
 rw [qq] at Um
 have back : ∀ {a0 : Value} {s2 : Shared}, s2.os = s'.os -> s2.gens = s'.gens -> Heap.HeldW (PySem.W.hideAll s.heap (qp X.stack)) X.stack e (.ref C) a0 X.env.locals s2.heap -> gk X.stack s.heap s2.heap -> cameBackBy y0.d X.A X.env (XE X W) (.ref e) s2 := fun {a0 s2} o2 g2 hh fs => by
   obtain ⟨k1, k2, k3, k4⟩ := hh
   refine Uo Km k1 k2 k3 k4 fun h' hh' hu => ?_
   exact ⟨e, C, pins, σ, H, s, rfl, I, hw, o2.trans ho, by show AllBare s2.gens; rw [g2]; exact hg, .inr ⟨a0, hh', fs.up k3 hu⟩⟩
 rcases hm with hm | ⟨a0, hm, hs⟩
 . obtain ⟨t, he, htn, ht⟩ := hm.there
   have fresh : ∀ b, s.heap.get? b = none -> (PySem.W.hideAll s.heap (qp X.stack)).get? b = none := fun b hb => by
     cases hq : (PySem.W.hideAll s.heap (qp X.stack)).get? b with
     | none => rfl
     | some o' => have := aon _ hq; rw [hb] at this; cases this
   have hf2 : s'.heap.FunFrames (PySem.W.hideAll s.heap (qp X.stack)) (X.env :: X.outer) := by
     rw [qq]
     exact Um.of_keeps fun b o hb _ => ⟨o, hm.keeps b o hb, rfl⟩
   unfold notedBy noteFrame
   simp only [Km]
   refine ams (wpAny_field (x := .none) he rfl rfl ?_)
   rw [amg y0.g]
   refine wpAny_entryW (base := PySem.W.hideAll s.heap (qp X.stack)) hfr hf2 Km he (fun b o hb => hm.keeps b o (aon _ hb)) (fresh e hm.new) rfl (show 1 < 6 by decide) rfl fun h' hN => ?_
   obtain ⟨k1, k2, k3, k4⟩ := hN
   rw [← qq] at k2
   refine back rfl rfl ⟨k1, fresh e hm.new, k2, k3⟩ ?_
   have f1 : gk X.stack s.heap s'.heap := fun b hb o hq => ⟨o.slots, hm.keeps _ _ hq⟩
   rw [← qq] at hf2
   exact f1.up hf2 k4
 . unfold notedBy
   exact wpAny_noteFrame_againW Km hm.2.2.2 (back rfl rfl hm hs)
structure z8 (K : PySem.W.Frag) (C : Addr) : Prop where
 ex : ∃ nm q N bs bm hdct sn sub ab col dd k0 k1 k2 k3 k5, K.lookup C = some (excClassObj nm q C N bs bm hdct sn sub ab col dd k0 k1 k2 k3 k5 "ValueError.__new__") /\ PySem.W.nsOkIn K N = true /\ PySem.W.nsIn K N "__init__" = some none /\ PySem.W.tailIn K EV bm = true
theorem Qm {W : XK} {x : Str} {C : Addr} {np oY pos : Pos} {D : Ends} (afP : X.calm = true) (hg : Gl X x) (hm : X.mg x = some (.ref C)) (O : z8 X.K C) (hw : W (.ref C) none H) (hd : (x == ("__debug__" : Str)) = false := by decide) :
   L3.W0 (X.wish (XE X W)) (.Raise (some (.Call (.Name x np) [] [] oY)) none pos) D σ H := fun pins s I => by
 have J : Inv X pins σ H s := I.kr
 obtain ⟨nm, q, N, bs, bm, hdct, sn, sub, ab, col, dd, k0, k1, k2, k3, k5, o1, o2, o3, o4⟩ := O.ex
 have tl := PySem.W.tail_of_in J.wB o4
 refine wpAny_Raise_call_subT (C := C) (nm := nm) (q := q) (N := N) (bs := bs) (bm := bm) (bmB := EV) (k0 := k0) (k1 := k1) (k2 := k2) (k3 := k3) (k5 := k5) (dd := dd) (col := col) (ab := ab) (sub := sub) (sn := sn) (hdct := hdct) PySem.F.excBase_ValueError (mN := s.heap.nsMap N) (tl.hasType (b := true) PySem.F.excBase_ValueError.hasBase) (J.ok.hd afP) rfl (PySem.W.nsMap_none_of_in J.wB o2 o3) (oX I hg hm ⟨rfl, ?_⟩ hd)
 exact evalArgs_empty ⟨rfl, amM _, J.wB _ _ o1, .of_isNs (PySem.W.isNs_of_in J.wB o2), tl, fun h' e hx => ⟨e, C, pins, σ, H, s, rfl, J, hw, rfl, J.bare, .inl hx⟩⟩
structure Lies (X : Cx) (pins : List (Addr × Obj)) (σ : St) (H : Hp) (s : Shared) (H' : Hp) (e C : Addr) (a0 : Value) (B : Heap) (s' : Shared) : Prop where
 inv : Inv X pins σ H s
 os : s'.os = s.os
 bare : AllBare s'.gens
 RV : Heap.FlyingW B X.stack e (.ref C) a0 s'.heap
 dM : qo X.prog X.w H' B
 un : ∀ h, B.StaysIn h -> gk X.stack s.heap h -> Un (qp X.stack) [] H H' s.heap h
 fr : gk X.stack s.heap s'.heap
section
variable {H' : Hp} {e C : Addr} {a0 : Value} {B : Heap} {s' : Shared}
theorem Lies.now (L : Lies X pins σ H s H' e C a0 B s') : Inv X pins σ H' s' := L.inv.aeJ L.os (L.un s'.heap L.RV.1 L.fr) (L.dM.kept L.RV.1) L.bare fun b z => absurd z amJ
theorem Lies.move (L : Lies X pins σ H s H' e C a0 B s') {h' : Heap} {t' : Nat} (hf : Heap.FlyingW B X.stack e (.ref C) a0 h') (u : s'.heap.UpToSlots h') : Lies X pins σ H s H' e C a0 B { s' with heap := h', toks := t' } :=
 ⟨L.inv, L.os, L.bare, hf, L.dM, L.un, L.fr.up L.RV.2.2.1 u⟩
abbrev Cx.hand (X : Cx) (e : Addr) : Cx := { X with A := X.A.mark (some (.ref e)), calm := false }
theorem Inv.hand (I : Inv X pins σ H s) (e : Addr) : Inv (X.hand e) pins σ H s :=
 ⟨⟨I.ok.mod, I.ok.kind, I.ok.glob, I.ok.blt, I.ok.above, I.ok.inj, I.ok.has, I.ok.cab, (fun h => by cases h), I.ok.frames, I.ok.stk, I.ok.exf, I.ok.bs, I.ok.RN, I.ok.Kq, I.ok.O2, I.ok.tR, I.ok.Wk⟩, I.os, I.bare, I.base, I.loc, I.cell, I.free, I.jX, I.pin, I.dM, I.len⟩
theorem Inv.acw {e : Addr} (ok : X.Ok) (I : Inv (X.hand e) pins σ H s) : Inv X pins σ H s := ⟨ok, I.os, I.bare, I.base, I.loc, I.cell, I.free, I.jX, I.pin, I.dM, I.len⟩
theorem aiD {Q : Flow -> Shared -> Prop} {E : Value -> Shared -> Prop} {hs : List ExceptHandler} (qq : X.stack = X.env :: X.outer) (Km : X.env.frame = some X.env.locals) (L : Lies X pins σ H s H' e C a0 B s')
   (k : ∀ s3, Lies X pins σ H s H' e C a0 B s3 -> wpAny y0.d X.A (handleBy (.ref e) X.env hs) Q E s3) :
   wpAny y0.d X.A (noteFrame (.ref e) X.env) (fun _ s₂ => wpAny y0.d X.A (setFlight (.ref e) none) (fun _ s₃ => wpAny y0.d X.A (handleBy (.ref e) X.env hs) Q E s₃) E s₂) E s' := by
 have hfr : X.A.frames = some (X.env :: X.outer) := by rw [L.inv.ok.frames, qq]
 have T8 := L.RV
 rw [qq] at T8
 refine wpAny_looks_onW hfr Km T8 fun h4 hh4 u4 => wpAny_landsW hh4 fun h5 hf5 u5 => k _ ?_
 rw [← qq] at hf5
 exact L.move hf5 (u4.trans u5)
end
end
section
variable {X : Cx}
abbrev Cx.pinned (X : Cx) (p : List (Addr × Obj)) : Cx := { X with pn := X.pn ++ p }
theorem Cx.Ok.pinned (ok : X.Ok) (p : List (Addr × Obj)) : (X.pinned p).Ok := ⟨ok.mod, ok.kind, ok.glob, ok.blt, ok.above, ok.inj, ok.has, ok.cab, ok.hd, ok.frames, ok.stk, ok.exf, ok.bs, ok.RN, ok.Kq, ok.O2, ok.tR, ok.Wk⟩
theorem Inv.aaG {pins : List (Addr × Obj)} {σ : St} {H : Hp} {s : Shared} (I : Inv X pins σ H s) : Inv (X.pinned pins) [] σ H s :=
 ⟨I.ok.pinned pins, I.os, I.bare, I.base, I.loc, I.cell, I.free, I.jX, (fun p hp => I.pin p (by rw [amH] at hp; exact hp)), I.dM, I.len⟩
theorem Inv.Uq {pins p2 : List (Addr × Obj)} {σ : St} {H : Hp} {s : Shared} (ok : X.Ok) (I : Inv (X.pinned pins) p2 σ H s) : Inv X pins σ H s :=
 ⟨ok, I.os, I.bare, I.base, I.loc, I.cell, I.free, I.jX, (fun p hp => I.pin p (amw _ hp)), I.dM, I.len⟩
end
end L2
namespace L3
open PySem PySem.Spec PyProof.Rows L2
def zb (b : Bx) (E : XK) (C : Addr) : Prop := ∀ H' Z' : Hp, aQ b.B H' -> aQ b.Z Z' -> aQ Z' H' -> (∀ a o, Z' a = some o -> b.Z a = none -> b.B a = none) -> (∀ a o, H' a = some o -> jY o = true -> Z' a = some o) -> E (.ref C) none H'
def spR (K : PySem.W.Frag) (CL : Str -> Addr) {A : Type} (n : Nat) (arg : A -> List D) (Pre : A -> Prop) (exc : A -> Str) : Sp := fun vs H _ E =>
 ∃ (W : Hp) (a : A), aQ W H /\ (∀ c o, H c = some o -> jY o = true -> W c = some o) /\ aX K CL W (arg a) vs /\ (arg a).length = n /\ Pre a /\ k6 CL W /\ zb ⟨H, W⟩ E (CL (exc a))
section
variable {X : Cx} {CL : Str -> Addr} {b : Bx} {δ δ1 δ2 : List (Option T)} {e : Expr} {es : List Expr} {fJ : List Stmt} {D : dN} {x c : Str} {i : Nat} {pos pp : Pos} {W : XK}
theorem X3 {np oY : Pos} (hc : X.calm = true) (hg : Gl X c) (hm : X.mg c = some (.ref (CL c))) (O : z8 X.K (CL c)) (hE : zb b W (CL c)) (hd : (c == ("__debug__" : Str)) = false := by decide) :
   fD (X.wish (XE X W)) CL b (.Raise (some (.Call (.Name c np) [] [] oY)) none pos :: fJ) δ D := dZ fun H Z σ ts vs E S M =>
 Qm hc hg hm O (hE H Z S.bh S.zz S.zh S.new S.tp) hd
theorem acy {P : Program} {w : World} {K : PySem.W.Frag} {mg : Str -> Option Value} {base : Heap} {qual : Str} {st : Stmt} {f : Addr} {fd : FuncData} {N ps : List Str} {k : Nat} {A : Type} {arg : A -> List L3.D} {Pre : A -> Prop} {exc : A -> Str} (F : kY K x qual st f fd) (S : bC N ps (aF st))
   (hb : ∀ (eo : Value) (Ar : Around) (outer : List Env) (s : Shared) (H : Hp) (E : XK) (b : Bx) (a : A), gb k (Ar.deeper y0.Z) -> Pre a -> zb b E (CL (exc a)) →
     fD ((wI (CX8 P w) P w K mg base N qual (aF st) f eo Ar outer s H E).wish (XE (wI (CX8 P w) P w K mg base N qual (aF st) f eo Ar outer s H E) E)) CL b (fK st) (entry N (arg a)) { nx := fun _ => False, rt := fun _ _ => False }) :
   cV P w K mg base (CX8 P w) (k + 1) f fd ps (spR K CL ps.length arg Pre exc) := by
 obtain ⟨oc, od, kV, doc, pm, an, eo, ct, Pr, rfl, lk, ko⟩ := F.ex
 refine Sl lk ko S (fun vs H Q E h => ?_) fun Ar outer s H vs Q E hr h => ?_
 . obtain ⟨W, a, _, _, r, hl, _⟩ := h
   rw [← r.length]; exact hl
 . obtain ⟨W, a, wh, tp, r, hl, hp, tb, hE⟩ := h
   have h0 : gf K CL H W (entry N (arg a)) (start N vs) [] := by
     unfold entry L2.start
     rw [← r.length]
     exact jv _ r
   have h1 : ∀ c o, W c = some o -> W c = none -> H c = none := fun c o q z => by rw [q] at z; cases z
   have body := hb eo Ar outer s H E ⟨H, W⟩ a hr hp hE H W (start N vs) [] [] { nx := fun _ _ => False, rt := fun _ _ => False } ⟨⟨[], [], h0, .nil, anD, fun c hc => by cases hc⟩, .refl _, .refl _, wh, h1, tp, tb⟩ ⟨fun _ _ _ _ _ _ z => z.elim, fun _ _ _ _ _ _ _ _ z => z.elim, fun _ _ _ _ _ _ z => z.elim, fun _ _ _ _ _ _ z => z.elim⟩
   refine ⟨KP _ (fK st), RQ, fun pins s1 I => ?_⟩
   refine ani (body pins s1 (I.wish _)) (fun fl s' z => ?_) fun ev s' z => acu rfl rfl rfl z
   cases fl with
   | next => obtain ⟨_, _, _, q⟩ := z; exact q.elim
   | brk => obtain ⟨_, _, _, q⟩ := z; exact q.elim
   | cont => obtain ⟨_, _, _, q⟩ := z; exact q.elim
   | ret u => obtain ⟨_, _, _, _, _, q⟩ := z; exact q.elim
structure FcR (X : Cx) (CL : Str -> Addr) (x : Str) (k n : Nat) {A : Type} (arg : A -> List L3.D) (Pre : A -> Prop) (exc : A -> Str) : Prop where
 ex : ∃ f fd ps, cV X.prog X.w X.K X.mg X.base (CX8 X.prog X.w) k f fd ps (spR X.K CL n arg Pre exc) /\ X.mg x = some (.ref f) /\ PySem.W.keepIn X.K (.ref f) = true /\ Binds X.K fd ps []
 room : gb k X.A
def EW (X : Cx) (CL : Str -> Addr) (b : Bx) (Z : Hp) (δ1 : List (Option T)) (ts : List T) (vs : List V) (C : Addr) (ev : Value) (s' : Shared) : Prop :=
 ∃ (e : Addr) (a0 : Value) (B : Heap) (pins : List y0.p) (σ : L2.St) (H : Hp) (s : Shared) (H' Z' : Hp), ev = .ref e /\ Lies X pins σ H s H' e C a0 B s' /\ aQ Z Z' /\ cj X.K CL b H' Z' δ1 σ ts vs
def TRv (X : Cx) (CL : Str -> Addr) (b : Bx) (e : Expr) (δ : List (Option T)) (c : Str) (δ1 : List (Option T)) : Prop :=
 ∀ (H Z : Hp) (σ : L2.St) (ts : List T) (vs : List V), cj X.K CL b H Z δ σ ts vs -> zN (X.wish (EW X CL b Z δ1 ts vs (CL c))) e σ H fun _ _ => False
def TRs (X : Cx) (CL : Str -> Addr) (b : Bx) (st : List Stmt) (δ : List (Option T)) (c : Str) (δ1 : List (Option T)) : Prop :=
 ∀ (H Z : Hp) (σ : L2.St) (ts : List T) (vs : List V) (D : Ends), cj X.K CL b H Z δ σ ts vs -> KP (X.wish (EW X CL b Z δ1 ts vs (CL c))) st D σ H
theorem Qn {H : Hp} {σ : L2.St} {Q : List V -> Hp -> Prop} {E : Value -> Shared -> Prop} (hx : X.xe = fun _ _ => False) (h : HF X es σ H Q) : HF (X.wish E) es σ H Q := fun pos pins s I =>
 ani (h pos pins s I.kr) (fun us s' ⟨vs, H', I', r, q⟩ => ⟨vs, H', I'.wish E, r, q⟩) fun ev s' z => by rw [hx] at z; exact z.elim
theorem cj.grown {K : PySem.W.Frag} {H H' Z W W' : Hp} {σ : L2.St} {ts : List T} {vs : List V} (S : cj K CL b H Z δ σ ts vs) (hh : aQ H H') (zw : aQ Z W) (ww : aQ W W') (wh : aQ W' H') (new : ∀ a o, W' a = some o -> W a = none -> H a = none)
   (tp : ∀ a o, H' a = some o -> jY o = true -> W' a = some o) : ∃ Z', aQ Z Z' /\ cj K CL b H' Z' δ σ ts vs := by
 obtain ⟨Z', z, S'⟩ := S.back (t := .sh .non) (v := .non) (fp := []) hh zw ww wh new tp (.sh .non) anD (fun a ha => by cases ha) y0.bn
 exact ⟨Z', z, S'.pop⟩
theorem acz {k n : Nat} {A : Type} {arg : A -> List L3.D} {Pre : A -> Prop} {exc : A -> Str} (a : A) (hx : X.xe = fun _ _ => False) (F : FcR X CL x k n arg Pre exc) (hg : Gl X x) (h : RT X CL b y0.ag δ (arg a) δ1) (hp : Pre a) (hn : (arg a).length = n := by rfl)
   (wH : y0.i = false := by decide) (he : starEach y0.ag X.env = (false, eval e X.env) :: starEach es X.env := by exact bR rfl) (hpl : (backTo pos y0.M).any (·.1) = false := by rfl) :
   TRv X CL b y0.bO δ (exc a) δ1 := fun H Z σ ts vs S pins s I => by
 obtain ⟨f, fd, ps, F1, hm, hk, hb⟩ := F.ex
 have hA : HF X y0.ag σ H fun us H1 => ∃ Z1, aQ Z Z1 /\ cj X.K CL b H1 Z1 δ1 σ ts vs /\ aX X.K CL H1 (arg a) us := h H Z σ ts vs _ S fun us H1 Z1 z1 k1 S1 r => ⟨Z1, z1, S1, r⟩
 refine anN (oX I hg hm ?_ wH)
 refine PySem.W.callWith_K (h₀ := X.base) I.ok.mod.R1 hk (fu (Qn hx hA pos pins s I) fun us s1 ⟨ws, H1, I1, r, Z1, z1, S1, rf⟩ => ⟨I1.wB, ?_⟩) he hpl
 let E0 : XK := fun cv _ H' => cv = .ref (CL (exc a)) /\ ∃ Z', aQ Z Z' /\ cj X.K CL b H' Z' δ1 σ ts vs
 have Kg : spR X.K CL n arg Pre exc ws H1 y0.ad E0 := ⟨H1, a, .refl _, fun _ _ q _ => q, rf, hn, hp, S1.KQ, fun H' Z' hh ww wh nw tp => ⟨rfl, by
   obtain ⟨Z2, z2, S2⟩ := S1.grown hh S1.zh ww wh nw tp
   exact ⟨Z2, z1.trans z2, S2⟩⟩⟩
 have hl : us.length = ps.length := by rw [← r.length]; exact F1.len _ _ _ _ Kg
 have hbd := hb s1 us I1.wB (by rw [amH]; exact hl)
 rw [amH] at hbd
 refine wpAny_call (codeAny_mono (F1.run X.A X.stack s1 H1 ⟨us, []⟩ us ws y0.ad E0 F.room I1.kr.abw hbd r Kg) fun rr s' hq => ?_)
 cases rr with
 | error ev =>
   obtain ⟨e1, C, a0, B, H', rfl, o1, o2, o3, o4, o5, o6, hC, Z', z', S'⟩ := hq
   cases hC
   exact ⟨e1, a0, B, pins, σ, H1, s1, H', Z', rfl, ⟨I1.kr, o1, o2, o3, o4, o5, o6⟩, z', S'⟩
 | ok fl =>
   cases fl with
   | ret u =>
     obtain ⟨v, H', _, _, _, _, _, q⟩ := hq
     exact q.elim
   | next => exact False.elim hq
   | brk => exact False.elim hq
   | cont => exact False.elim hq
theorem TRv.any {H Z : Hp} {σ : L2.St} {ts : List T} {vs : List V} {Q : VK} (h : TRv X CL b e δ c δ1) (S : cj X.K CL b H Z δ σ ts vs) : zN (X.wish (EW X CL b Z δ1 ts vs (CL c))) e σ H Q := fun pins s I =>
 ani (h H Z σ ts vs S pins s I) (fun _ _ ⟨_, _, _, _, q⟩ => q.elim) fun _ _ z => z
theorem acA (h : TRv X CL b e δ c δ1) (hs : swapsWith e none pos.line X.env = pure false := by rfl) : TRs X CL b (.Expr e pos :: fJ) δ c δ1 := fun H Z σ ts vs D S => W2 (zH psS RQ) (wM (Ek (X := X.wish (EW X CL b Z δ1 ts vs (CL c))) eS hs) (h.any S))
theorem Vn.pin {p : List (Addr × Obj)} (h : Vn X i x) : Vn (X.pinned p) i x := ⟨h.hi, h.hv, h.hd, h.ko⟩
theorem FcR.pin {p : List (Addr × Obj)} {k n : Nat} {A : Type} {arg : A -> List L3.D} {Pre : A -> Prop} {exc : A -> Str} (F : FcR X CL x k n arg Pre exc) : FcR (X.pinned p) CL x k n arg Pre exc := ⟨F.ex, F.room⟩
end
end L3
namespace L2
open PySem PySem.Spec PyProof.Rows
structure qF (K : PySem.W.Frag) (D : Addr) : Prop where
 ga : PySem.W.findIn K (.ref D) "__getattribute__" = some (some (.builtin "BaseException.__getattribute__"))
 gn : PySem.W.findIn K (.ref D) "__getattr__" = some none
 hd : PySem.W.hasDictIn K D = true
 fi : PySem.W.findIn K (.ref D) "__class__" = some (some y0.ae)
 sp : PySem.W.specialIn K y0.ae "__get__" = some (some y0.aY)
 tk : PySem.W.takesIn K y0.ae = some true
 mr : PySem.W.mroIn K D (.type "object") = some true
 mb : PySem.W.mroIn K D (.type "BaseException") = some true
def excAt (e D : Addr) (h : Heap) : Prop := ∃ o, h.get? e = some o /\ o.cls = .ref D
section
variable {prog : Program} {w : World} {A : Around} {E : Value -> Shared -> Prop} {s : Shared} {K : PySem.W.Frag} {x D : Addr}
open PySem.W in
theorem Ur {M : Model} {nameV : Value} {Q : Unit -> Shared -> Prop} (ty : Looks M s.heap (typeOf (.ref x)) (.ref D)) (f7 : Looks M s.heap (isSubtype (.ref D) (.type "BaseException")) true) (hq : Q () s) : wpAny M A (checkBuiltinCall "BaseException.__getattribute__" ⟨[.ref x, nameV], []⟩) Q E s := by
 obtain ⟨hp, gn, dr, tk, os⟩ := s
 have hk : builtinKind "BaseException.__getattribute__" = some .slot := by decide +kernel
 have Kg : splitId "BaseException.__getattribute__" = some ("BaseException", "__getattribute__") := by decide +kernel
 have ha := F.args_bexc_ga (.ref x) nameV
 simp only [checkBuiltinCall, hk, Kg]
 refine ams ?_
 unfold isInstance
 refine ams (ty.at (f7.at ?_))
 repeat (first | wp_step)
 exact hq
open PySem PySem.Calls PyProof.Rows Builtin Builtin.ObjectAttr Builtin.Getset_descriptor PySem.W PySem.Builtin.ObjectAttr in
theorem Qo {Q : Option Value -> Shared -> Prop} (O : qF K D) (X : K.In s.heap) (hx : excAt x D s.heap) (h : Q (some (.ref D)) { s with toks := s.toks + 1 }) : wpAny y0.w A (getAttr? (.ref x) "__class__") Q E s := by
 obtain ⟨hp, gn, dr, tk, os⟩ := s
 obtain ⟨ox, hx1, hx2⟩ := hx
 have ty : Looks y0.w hp (typeOf (.ref x)) (.ref D) := hx2 ▸ (Looks.ld hx1).andThen .now
 have f1 := looks_findIn (M := model prog w) X O.ga
 have f2 := looks_findIn (M := model prog w) X O.gn
 have f3 := looks_findIn (M := model prog w) X O.fi
 have f4 := looks_specialIn (M := model prog w) X O.sp
 have f5 := looks_takesIn (M := model prog w) X O.tk
 have f6 := looks_mroIn (M := model prog w) X O.mr
 have f7 := looks_mroIn (M := model prog w) X O.mb
 have fd : Looks y0.w hp (find (.ref x) (.ref D) "__class__") (.bind y0.aY y0.ae) :=
   f3.andThen (f4.andThen ((show Looks y0.w hp (dataDescriptor? (some y0.ae) (some y0.aY)) (some (.builtin "getset_descriptor.__get__", .builtin "object.__class__")) from f5.andThen .now).andThen (Looks.tag .now)))
 have fb := F.excAttr_ValueError.ga.bind (.ref x)
 have hk : builtinKind "BaseException.__getattribute__" = some .slot := by decide +kernel
 have Kg : splitId "BaseException.__getattribute__" = some ("BaseException", "__getattribute__") := by decide +kernel
 unfold getAttr? getAttrBy? getAttrBy
 refine ams (wpAny_mkText (ams (wpAny_attempt (an0 (ams (ty.at (ams (f1.at ?_))))))))
 dsimp only
 rw [amg (fun q => by rw [am1] at q; exact absurd q.2 y0.a)]
 unfold getAttrByItsOwn hookBefore
 rw [aml (show onTheHeap (.ref D) = true from rfl)]
 refine ams (f2.at ?_)
 refine ams (wpAny_attempt (an0 ?_))
 unfold callGetattribute
 rw [amg y0.g]
 unfold boundAndCalled
 rw [fb]
 refine ams (amW ?_)
 refine wpAny_call (codeAny_call_builtin F.excAttr_ValueError.ga.plain F.entry_bexc_ga (Ur ty f7 ?_))
 unfold Builtin.«object.__getattribute__»
 iterate 10 lk
 refine ams (amW (a := ("__class__" : Str)) (ams (ty.at (ams (fd.at ?_)))))
 show wpAny _ _ (holding [_] (call _ [_, .ref x, .ref D]) >>= ret) _ _ _
 refine ams (an0 (wpAny_call ?_))
 refine codeAny_call_builtin KF.slot_gs.plain KF.entry_gs (KF.slot_gs.check _ _ _ _ _ _ _ _ KF.type_class (KF.args_gs _ _ _) ?_)
 unfold Builtin.«getset_descriptor.__get__» descrGet
 rw [dga_obj]
 refine ams (amW ?_)
 unfold descrGetter descrCheckInstance descrNameAndClass isInstance
 simp only [KF.owner_class]
 repeat lk
 refine ⟨Code.quiet_builtin _ y0.a, codeAny_builtin KF.entry_class ?_⟩
 unfold Builtin.«object.__class__» shownTypeOf
 repeat lk
 first | exact h | exact handed_on rfl h | exact amW (handed_on rfl (amW h))
theorem qF.there (O : qF K D) : ∃ c d cd sl, K.lookup D = some ⟨c, d, .cls cd, sl⟩ := by
 obtain ⟨cd, q, _⟩ := PySem.W.any_some O.hd
 unfold PySem.W.clsIn at q
 split at q
 . rename_i c d cd' sl e; exact ⟨c, d, cd', sl, e⟩
 . cases q
theorem Iq (O : qF K D) : PySem.W.KitX K (.ref x) (.ref D) (excAt x D) := by
 obtain ⟨c, d, cd, sl, e⟩ := O.there
 refine ⟨fun _ _ _ ⟨o, h1, h2⟩ => h2 ▸ (PySem.W.Looks.ld h1).andThen .now, fun _ _ R1 _ A' Q' E' s' k q => ?_, fun h tp dd its n sl' R1 htp => ?_, fun R1 p k => Qo O R1 p k⟩
 . unfold isType loadHead
   exact ams (wpAny_loadPart (k _ _ (R1 _ _ e)) (amW q))
 . cases hq : (Value.ref D == Value.ref tp) with
   | false => rfl
   | true =>
     cases Value.ref.inj (aos.mp hq)
     have z := (R1 _ _ e).symm.trans htp
     cases z
def DL : V -> Bool
 | .ref _ => true
 | .ty _ => true
 | _ => false
def clsOf : V -> Value
 | .ref a => .ref a
 | .ty n => .type n
 | _ => .none
theorem DM {v : V} {u : Value} (hc : DL v = true) (r : RelV v u) : u = clsOf v := by
 cases v <;> first | exact r | cases hc
theorem DN : ∀ {vs : List V} {us : List Value}, vs.all DL = true -> Vals vs us -> us = vs.map clsOf
 | _, _, _, .nil => rfl
 | _, _, hc, .cons r t => by
   rw [aox, am1] at hc
   rw [amD, DM hc.1 r, DN hc.2 t]
theorem Qp {cs : List Value} {t : Value} (h : ∀ c ∈ cs, PySem.W.kitOne K t c = some false) : PySem.W.kitAny K t cs = some false := by
 induction cs with
 | nil => rfl
 | cons c r ih =>
   unfold PySem.W.kitAny
   rw [h c (amj ..)]
   exact ih fun z hz => h z (amn _ hz)
def aaH (K : PySem.W.Frag) (H : Hp) (D : Addr) (y : V) (bb : Bool) : Prop :=
 (DL y = true /\ PySem.W.kitOne K (.ref D) (clsOf y) = some bb) \/ ∃ tp vs, y = .ref tp /\ uM K H tp vs /\ vs.all DL = true /\ PySem.W.kitAny K (.ref D) (vs.map clsOf) = some bb
variable {X : Cx}
theorem Us : kU X (.builtin "isinstance") (fun xs H Q => ∃ (e D : Addr) (y : V) (bb : Bool), xs = [.ref e, y] /\ H e = some (.ext (excAt e D)) /\ qF X.K D /\ aaH X.K H D y bb /\ Q (.bl bb) H) := by
 intro pins s σ H xs us Q I r h
 obtain ⟨e, D, y, bb, rfl, he, O, ha, q⟩ := h
 obtain ⟨u, u2, rfl, ru, ru2⟩ := r.two
 cases (show u = Value.ref e from ru)
 have fin : ∀ tk, EP X pins σ Q (.bool bb) { s with toks := tk } := fun tk => ⟨.bl _, H, I.tok tk, rfl, q⟩
 have ex : excAt e D s.heap := (I.dM e _ he).1
 rcases ha with ⟨hc, ha⟩ | ⟨tp, vs, rfl, hs, hc, ha⟩
 . rw [DM hc ru2]
   exact anZ (Iq O) I.wB ex ha y0.bo fin
 . cases (show u2 = Value.ref tp from ru2)
   obtain ⟨its, rv, ⟨o, g, cl, n, dt⟩, _⟩ := I.tuple hs
   obtain ⟨c0, d0, t0, s0⟩ := o
   dsimp only at cl dt
   subst cl dt
   rw [← DN hc rv] at ha
   exact PySem.W.kia_tup (Iq O) I.wB ex g ha y0.bo fin
theorem fB.got {P : Program} {w : World} {H : Hp} {h : Heap} {a : Addr} {o : HO} (x : fB P w H h a o) : ∃ u, h.get? a = some u := by
 cases o with
 | lst xs => obtain ⟨_, _, _, _, z⟩ := x; exact ⟨_, z⟩
 | tup xs => obtain ⟨_, _, _, _, z, _⟩ := x; exact ⟨_, z⟩
 | dK bH => obtain ⟨_, _, _, _, _, _, _, z, _⟩ := x; exact ⟨_, z⟩
 | dT bH => obtain ⟨_, _, _, _, _, _, _, z, _⟩ := x; exact ⟨_, z⟩
 | set S n => obtain ⟨_, _, _, _, z, _⟩ := x; exact ⟨_, z⟩
 | ins C dx fs => obtain ⟨_, _, _, z, _⟩ := x; exact ⟨_, z⟩
 | own y => exact x
 | xd fs => obtain ⟨_, ⟨_, _, _, z, _⟩, _⟩ := x; exact ⟨_, z⟩
 | rng lo hi => obtain ⟨_, _, _, z⟩ := x; exact ⟨_, z⟩
 | eF ob u => exact ⟨_, x.1⟩
 | tbl ps => exact ⟨_, x⟩
 | tabs q => obtain ⟨_, z, _⟩ := x; exact ⟨_, z⟩
 | Nv q => obtain ⟨_, _, _, z, _⟩ := x; exact ⟨_, z⟩
 | met f y => exact ⟨_, x⟩
 | ext φ => exact x.2.1
section
variable {pins : List (Addr × Obj)} {σ : St} {H H' : Hp} {s s' : Shared} {e C : Addr} {a0 : Value} {B : Heap}
theorem Lies.fresh (L : Lies X pins σ H s H' e C a0 B s') : s.heap.get? e = none := by
 cases hq : s.heap.get? e with
 | none => rfl
 | some o =>
   have ne : e ∉ qp X.stack := fun hb => by
     obtain ⟨_, o1, h1, d1⟩ := L.RV.2.2.1.mem hb
     obtain ⟨o2, vs, _, _, _, h2, _, d2, _⟩ := L.RV.2.2.2
     rw [h1] at h2
     cases h2
     exact d1 _ d2
   obtain ⟨o', h'⟩ := (L.un (PySem.W.hideAll s'.heap [e]) (fun b u hb => anU _ (L.RV.1 b u hb) fun z => by
     rw [amQ] at z
     rw [z, L.RV.2.1] at hb
     cases hb) fun b hb u hu => by
       obtain ⟨sl, z⟩ := L.fr b hb u hu
       exact ⟨sl, anU _ z fun q => ne (by rw [amQ] at q; rw [← q]; exact hb)⟩).there e o hq amJ
   rw [PySem.W.hideAll_none _ (amQ.mpr rfl)] at h'
   cases h'
theorem Lies.no (L : Lies X pins σ H s H' e C a0 B s') : H' e = none := by
 cases hq : H' e with
 | none => rfl
 | some o =>
   obtain ⟨u, z⟩ := (L.dM e o hq).got
   rw [L.RV.2.1] at z
   cases z
theorem Lies.taken (L : Lies X pins σ H s H' e C a0 B s') (hex : X.ex = []) : Inv X pins σ (upd H' e (.ext (excAt e C))) s' := by
 have I := L.now
 have J := L.inv
 have fr := L.fresh
 have no : ∀ {b : Addr} {o : Obj}, s.heap.get? b = some o -> b ≠ e := fun {b o} q z => by rw [z, fr] at q; cases q
 have up : ∀ {b : Addr}, b ≠ e -> upd H' e (.ext (excAt e C)) b = H' b := fun {b} q => amg q
 have keep : ∀ {b : Addr} {v : HO}, H' b = some v -> upd H' e (.ext (excAt e C)) b = some v := fun {b v} q => by
   rw [up fun z => by rw [z, L.no] at q; cases q]
   exact q
 obtain ⟨ob, X4, Wm⟩ := L.RV.there
 have first : ∀ {b : Addr} {o : Obj}, X.s₀.heap.get? b = some o -> b ≠ e := fun {b o} q => by
   obtain ⟨o', z⟩ := J.base.there b o q (by rw [hex]; exact amJ)
   exact no z
 refine ⟨I.ok, I.os, I.bare, ⟨I.base.keep, I.base.slot, fun b o h1 h2 h3 => by rw [up (first h1)]; exact I.base.free b o h1 h2 h3, I.base.there, fun b xs q => keep (I.base.yH b xs q), fun b o u q => keep (I.base.dQ b o u q), fun b ps q => ?_⟩, I.loc, I.cell, ?_, fun x c q => ?_, fun p hp => ?_, fun a o q => ?_, I.len⟩
 . obtain ⟨more, z⟩ := I.base.yI b ps q
   exact ⟨more, keep z⟩
 . obtain ⟨m, ⟨oL, _, _, hoL, _⟩, _⟩ := J.loc
   rw [up (no hoL)]
   exact I.free
 . obtain ⟨v, z⟩ := J.cell x c q
   obtain ⟨oc, aiF, _⟩ := z
   rw [up (no aiF)]
   exact I.jX x c q
 . obtain ⟨z1, z2, z3⟩ := I.pin p hp
   refine ⟨z1, ?_, z3⟩
   rw [up (no (J.pin p hp).1)]
   exact z2
 . by_cases ha : a = e
   . subst ha
     rw [show upd H' a (.ext (excAt a C)) a = some (.ext (excAt a C)) from aml rfl] at q
     cases q
     exact ⟨⟨ob, X4, Wm⟩, ⟨ob, X4⟩, fun h1 h2 ⟨o, z1, z2⟩ k => ⟨o, k _ z1, z2⟩⟩
   . rw [up ha] at q
     exact (I.dM a o q).yG (fun _ _ _ z => z) (fun b z => keep z) (fun b xs z => keep z) fun b u z => keep z
theorem X5 {M : Model} {A : Around} {E : Value -> Shared -> Prop} {i : Nat} {x : Str} {ps : Pos} {Q : Unit -> Shared -> Prop} (I : Inv X pins σ H s) (hN : X.N.Nodup) (hi : X.N[i]? = some x) (hk : X.env.kindOf x = some .local)
   (h : ∀ s2, Inv X pins (σ.set i none) H s2 -> Q () s2) : wpAny M A (do bindName X.env x .none; unbindBehindTheSuite X.env x ps) Q E s := by
 obtain ⟨m, hn, hl⟩ := id I.loc
 have R3 : (X.env.scope.kind == .class || (X.env.scope.kind == .module && X.env.locals != X.env.globals)) = false := by rw [I.ok.kind]; rfl
 have cn := I.cne
 have below : ∀ {b : Addr} {o : Obj}, X.s₀.heap.get? b = some o -> b ≠ X.env.locals := fun {b o} q => amX (am0 (amG q) I.ok.above)
 refine wpAny_nameGoes_keeps hk hn R3 fun h' v hn' hs => h _ ⟨I.ok, I.os, I.bare, ⟨fun b o q1 q2 q3 q4 => (hs.2 b (below q1)).trans (I.base.keep b o q1 q2 q3 q4), fun b o q1 q2 q3 q4 => ?_, I.base.free, fun b o q1 q2 => ?_, I.base.yH, I.base.dQ, I.base.yI⟩, ⟨_, hn', fun j y w q1 q2 q3 => ?_⟩, fun y c q => ?_, I.free, I.jX, fun p hp => ?_, fun a o q => ?_, by simpa using I.len⟩
 . obtain ⟨sl, z⟩ := I.base.slot b o q1 q2 q3 q4
   exact ⟨sl, (hs.2 b (below q1)).trans z⟩
 . obtain ⟨o', z⟩ := I.base.there b o q1 q2
   exact ⟨o', (hs.2 b (below q1)).trans z⟩
 . by_cases hj : j = i
   . subst hj
     have tV : j < σ.length := by rw [I.len]; exact (amU.mp hi).1
     rw [List.getElem?_set_self tV] at q2
     cases q2
   . rw [List.getElem?_set_ne (an8 hj)] at q2
     obtain ⟨u, r, z⟩ := hl j y w q1 q2 q3
     refine ⟨u, r, ?_⟩
     rcases z with ⟨k, z⟩ | ⟨k, c, z1, z2⟩
     . refine .inl ⟨k, ?_⟩
       have : y ≠ x := fun q => hj (zF hN q1 (q ▸ hi))
       show (if y = x then v else m y) = some u
       rw [amg this]
       exact z
     . exact .inr ⟨k, c, z1, z2.sameBut hs (cn y c z1)⟩
 . obtain ⟨w, z⟩ := I.cell y c q
   exact ⟨w, z.sameBut hs (cn y c q)⟩
 . obtain ⟨z1, z2, z3, z4⟩ := I.pin p hp
   exact ⟨(hs.2 p.1 z3).trans z1, z2, z3, z4⟩
 . refine (I.dM a o q).yG (fun c w hc z => (hs.2 c ?_).trans z) (fun _ z => z) fun _ _ z => z
   rintro rfl
   rcases hc with rfl | hc
   . rw [I.free] at q; cases q
   . rw [I.free] at hc; cases hc
theorem acB {Q : Flow -> Shared -> Prop} {E : Value -> Shared -> Prop} {x n : Str} {i : Nat} {Dd : Addr} {np ps : Pos} {b₀ : Stmt} {suite : List Stmt} {rest : List ExceptHandler} (L : Lies X pins σ H s H' e C a0 B s') (hex : X.ex = []) (hN : X.N.Nodup) (hi : X.N[i]? = some n)
   (hk : X.env.kindOf n = some .local) (hl : Loc X.env.scope n) (hf : X.fn n = true \/ X.env.scope.names.lookup n = some .local) (hg : Gl X x) (hm : X.mg x = some (.ref Dd)) (hx : PySem.W.exmOne X.K (.ref C) (.ref Dd) = some true)
   (k : ∀ s4, Inv X pins (σ.set i (some (.ref e))) (upd H' e (.ext (excAt e C))) s4 -> wpAny y0.d (X.hand e).A (execs (b₀ :: suite) X.env) (fun f s5 => ∃ p5 σ5 H5, Inv X p5 σ5 H5 s5 /\ ∀ s6, Inv X p5 (σ5.set i none) H5 s6 -> Q f s6) y0.ad s4)
   (hd : y0.i = false := by decide) :
   wpAny y0.d X.A (handleBy (.ref e) X.env (.ExceptHandler (some (.Name x np)) (some n) (b₀ :: suite) ps :: rest)) Q E s' := by
 have I := L.now
 obtain ⟨ob, X4, Wm⟩ := L.RV.there
 have LT : PySem.W.Looks y0.d s'.heap (typeOf (.ref e)) (.ref C) := by
   rw [← Wm]
   exact (PySem.W.Looks.ld X4).andThen .now
 refine wpAny_handleBy_cons (codeAny_handlers_test (oX (X := X.hand e) (I.hand e) hg hm ?_ hd)) (fun q => by cases q)
 refine (PySem.W.exm_one I.wB LT hx).here ?_
 refine codeAny_handlers_suite_as (lands_againW L.RV fun h6 hf6 u6 => ?_)
 refine zG ((L.move (t' := _) hf6 u6).taken hex) hN hi hl (v := .ref e) rfl (fun s7 I7 => ?_) hf
 refine ani (k s7 I7) (fun f s8 z => ?_) fun _ _ z => z.elim
 obtain ⟨_, _, _, I5, q⟩ := z
 exact X5 I5 hN hi hk q
end
end
theorem aQ.off {H H' : Hp} {a : Addr} (h : aQ H H') (n : H' a = none) : H a = none := by
 cases q : H a with
 | none => rfl
 | some o => rw [h a o q] at n; cases n
end L2
namespace L3
open PySem PySem.Spec PyProof.Rows L2
section
variable {X : Cx} {CL : Str -> Addr} {b : Bx} {δ δ1 δ2 : List (Option T)} {e e1 e2 : Expr} {es : List Expr} {fJ : List Stmt} {D : dN} {x c : Str} {i : Nat} {pos pp : Pos} {W : XK}
theorem pF {v : V} {u : Value} (hg : Gl X x) (hm : X.mg x = some u) (r : RelV v u) (hd : (x == ("__debug__" : Str)) = false := by decide) : cW X CL b y0.am δ (.sh (.val v)) δ := fun H Z σ ts vs Q S k => dG (Ny hg hm r hd) (k _ _ Z y0.B y0.B (S.push (.val v)))
theorem X6 {v : V} {u : Value} (hg : Gl X x) (hm : X.mg x = none) (hv : bootBuiltins x = some u) (r : RelV v u) (hn : x ≠ "__name__" := by decide) (hd : y0.i = false := by decide) : cW X CL b y0.am δ (.sh (.val v)) δ := fun H Z σ ts vs Q S k => dG (Nz hg hm hv r hn hd) (k _ _ Z y0.B y0.B (S.push (.val v)))
inductive Ut (K : PySem.W.Frag) (C : Addr) : L3.D -> Bool -> Prop
 | one {v : V} {bb : Bool} : DL v = true -> PySem.W.kitOne K (.ref C) (clsOf v) = some bb -> Ut K C (.val v) bb
 | non {vs : List V} : vs.all DL = true -> (∀ v ∈ vs, PySem.W.kitOne K (.ref C) (clsOf v) = some false) -> Ut K C (.tup (vs.map .val)) false
theorem Ir {K : PySem.W.Frag} {H : Hp} : ∀ {vs us : List V}, aX K CL H (vs.map .val) us -> us = vs
 | [], _, h => by cases h; rfl
 | v :: vs, _, h => by
   cases h with
   | cons r t => cases r; rw [Ir t]
theorem Ut.ans {K : PySem.W.Frag} {C : Addr} {d : L3.D} {bb : Bool} {H : Hp} {y : V} (h : Ut K C d bb) (r : cy K CL H d y) : aaH K H C y bb := by
 cases h with
 | one hc hk => cases r; exact .inl ⟨hc, hk⟩
 | @non vs hc hk =>
   cases r with
   | @tup a us _ hs hr =>
     cases Ir hr
     refine .inr ⟨a, vs, rfl, hs, hc, Qp fun z hz => ?_⟩
     obtain ⟨v, hv, rfl⟩ := amI.mp hz
     exact hk v hv
theorem EX {a C : Addr} {d2 : L3.D} {bb : Bool} (hz : b.Z a = some (.ext (excAt a C))) (O : qF X.K C) (hm : X.mg "isinstance" = none) (hg : Gl X "isinstance") (h : RT X CL b [e1, e2] δ [.val (.ref a), d2] δ1) (hc : Ut X.K C d2 bb)
   (hs : starEach [e1, e2] X.env = (false, eval e1 X.env) :: starEach [e2] X.env := by exact bR rfl) (hpl : (backTo pos (starEach [e2] X.env)).any (·.1) = false := by rfl) :
   cW X CL b (.Call y0.aJ [e1, e2] [] pos) δ (.sh (.bl bb)) δ1 := fun H Z σ ts vs Q S k =>
 dG (kX Us hg hm boot_isinstance PF (he := hs) (hpl := hpl)) (h H Z σ ts vs _ S fun us H1 Z1 z1 k1 S1 r => by
   cases r with
   | cons r1 r =>
     cases r with
     | cons r2 r =>
       cases r
       cases r1
       exact ⟨a, C, _, bb, rfl, S1.zh _ _ (S1.zz _ _ hz), O, hc.ans r2, k _ H1 Z1 z1 k1 (S1.push (.bl _))⟩)
abbrev Bx.with (b : Bx) (a : Addr) (o : HO) : Bx := ⟨upd b.B a o, upd b.Z a o⟩
theorem gB {H : Hp} {a : Addr} {o : HO} (h : H a = none) : aQ H (upd H a o) := fun c u q => by
 rw [show upd H a o c = H c from amg fun z => by rw [z, h] at q; cases q]
 exact q
theorem z9 {H H' : Hp} {a : Addr} {o : HO} (h : aQ H H') : aQ (upd H a o) (upd H' a o) := fun c u q => by
 by_cases z : c = a
 . rw [show upd H' a o c = some o from aml z]
   rw [show upd H a o c = some o from aml z] at q
   exact q
 . rw [show upd H' a o c = H' c from amg z]
   rw [show upd H a o c = H c from amg z] at q
   exact h c u q
theorem cj.with {K : PySem.W.Frag} {H Z : Hp} {σ : L2.St} {ts : List T} {vs : List V} {a : Addr} {o : HO} (S : cj K CL b H Z δ σ ts vs) (n : H a = none) (hi : jY o = false) : cj K CL (b.with a o) (upd H a o) (upd Z a o) δ σ ts vs := by
 obtain ⟨fp, gp, e, r, nd, k⟩ := S.rep
 have nz := S.zh.off n
 have ne : ∀ c u, H c = some u -> c ≠ a := fun c u q z => by rw [z, n] at q; cases q
 have up : ∀ {J : Hp} {c : Addr}, c ≠ a -> upd J a o c = J c := fun {J c} z => amg z
 have nf : ∀ c ∈ fp ++ gp, c ≠ a := fun c hc => by
   rcases amx.mp hc with z | z
   . obtain ⟨u, q⟩ := e.there c z; exact ne c u q
   . obtain ⟨u, q⟩ := r.there c z; exact ne c u q
 refine ⟨⟨fp, gp, e.mono (gB nz) fun c hc => up (nf c (amw _ hc)), r.mono (gB nz) fun c hc => up (nf c (ami _ hc)), nd, fun c hc => ?_⟩, z9 S.bh, z9 S.zz, z9 S.zh, fun c u q1 q2 => ?_, fun c u q1 q2 => ?_, S.tab.mono (gB (S.zz.off nz))⟩
 . exact ⟨(up (nf c hc)).trans (k c hc).1, (up (nf c hc)).trans (k c hc).2⟩
 . have z : c ≠ a := fun z => by rw [show (b.with a o).Z c = some o from aml z] at q2; cases q2
   rw [up z] at q1
   rw [show (b.with a o).Z c = b.Z c from up z] at q2
   exact (up z).trans (S.new c u q1 q2)
 . by_cases z : c = a
   . rw [show upd H a o c = some o from aml z] at q1
     cases q1
     rw [hi] at q2; cases q2
   . rw [up z] at q1 ⊢
     exact S.tp c u q1 q2
theorem cj.without {K : PySem.W.Frag} {H Z : Hp} {σ : L2.St} {ts : List T} {vs : List V} {a : Addr} {o : HO} (S : cj K CL (b.with a o) H Z δ σ ts vs) (nb : b.B a = none) (nz : b.Z a = none) (tb : k6 CL b.Z) : cj K CL b H Z δ σ ts vs := by
 obtain ⟨fp, gp, e, r, nd, k⟩ := S.rep
 refine ⟨⟨fp, gp, e, r, nd, fun c hc => ⟨(k c hc).1, (gB nb).off (k c hc).2⟩⟩, (gB nb).trans S.bh, (gB nz).trans S.zz, S.zh, fun c u q1 q2 => ?_, S.tp, tb⟩
 by_cases z : c = a
 . rw [z]; exact nb
 . exact (gB nb).off (S.new c u q1 (by rw [show (b.with a o).Z c = b.Z c from amg z]; exact q2))
theorem Meets.with {K : PySem.W.Frag} {Z : Hp} {ts : List T} {vs : List V} {a : Addr} {o : HO} {E : Ends} (M : Meets K CL b Z ts vs D E) (n : Z a = none) (nb : b.B a = none) (nz : b.Z a = none) (tb : k6 CL b.Z) : Meets K CL (b.with a o) (upd Z a o) ts vs D E :=
 ⟨fun _ _ _ _ q S => M.nx _ _ _ _ ((gB n).trans q) (S.without nb nz tb), fun _ _ _ _ _ _ q S => M.rt _ _ _ _ _ _ ((gB n).trans q) (S.without nb nz tb), fun _ _ _ _ q S => M.bk _ _ _ _ ((gB n).trans q) (S.without nb nz tb), fun _ _ _ _ q S => M.ct _ _ _ _ ((gB n).trans q) (S.without nb nz tb)⟩
theorem gf.unset {K : PySem.W.Frag} {H Z : Hp} {δ : List (Option T)} {σ : L2.St} {fp : List Addr} (e : gf K CL H Z δ σ fp) : ∀ {j : Nat}, (δ[j]? = some none \/ ∃ d, δ[j]? = some (some (.sh d))) -> gf K CL H Z (δ.set j none) (σ.set j none) fp := by
 induction e with
 | nil => exact fun _ => .nil
 | skip q ih =>
   intro j hj
   cases j with
   | zero => exact .skip q
   | succ j => exact .skip (ih hj)
 | @cons t v δ' σ' f1 f2 rt re ih =>
   intro j hj
   cases j with
   | zero =>
     rcases hj with q | ⟨d, q⟩
     . cases q
     . cases q
       cases rt
       exact .skip re
   | succ j => exact .cons rt (ih hj)
theorem cj.unset {K : PySem.W.Frag} {H Z : Hp} {σ : L2.St} {ts : List T} {vs : List V} {j : Nat} (S : cj K CL b H Z δ σ ts vs) (hj : δ[j]? = some none \/ ∃ d, δ[j]? = some (some (.sh d))) : cj K CL b H Z (δ.set j none) (σ.set j none) ts vs := by
 obtain ⟨fp, gp, e, r, nd, k⟩ := S.rep
 exact ⟨⟨fp, gp, e.unset hj, r, nd, k⟩, S.bh, S.zz, S.zh, S.new, S.tp, S.tab⟩
theorem acC {body : List Stmt} {n : Str} {Dd : Addr} {np hp : Pos} {b₀ : Stmt} {suite : List Stmt} {rest : List ExceptHandler} (qq : X.stack = X.env :: X.outer) (Km : X.env.frame = some X.env.locals) (hxf : X.xe = fun _ _ => False) (hex : X.ex = []) (nd : X.N.Nodup) (nl : Ln X i n) (hk : X.env.kindOf n = some .local)
   (r : ∀ p, TRs (X.pinned p) CL b body δ c δ1) (hg : Gl X x) (hm : X.mg x = some (.ref Dd)) (hx : PySem.W.exmOne X.K (.ref (CL c)) (.ref Dd) = some true) (hi : i < δ1.length)
   (k : ∀ (a : Addr) (b' : Bx), b'.Z a = some (.ext (excAt a (CL c))) -> fD (X.hand a) CL b' (b₀ :: suite) (δ1.set i (some (.sh (.val (.ref a))))) { nx := fun δ2 => (δ2[i]? = some none \/ ∃ d, δ2[i]? = some (some (.sh d))) /\ fD X CL b' fJ (δ2.set i none) D, rt := fun _ _ => False })
   (hd : y0.i = false := by decide) :
   fD X CL b (.Try body (.ExceptHandler (some (.Name x np)) (some n) (b₀ :: suite) hp :: rest) [] [] pos :: fJ) δ D := fun H Z σ ts vs E S M => W2 (zH psS RQ) fun pins s I => by
 refine wpAny_Try_except (ani (r pins H Z σ ts vs { nx := fun _ _ => False, rt := fun _ _ => False } S [] s (I.aaG.wish _)) (fun f s1 z => ?_) fun ev s1 z => ?_)
 . cases f with
   | next => obtain ⟨_, _, _, q⟩ := z; exact q.elim
   | brk => obtain ⟨_, _, _, q⟩ := z; exact q.elim
   | cont => obtain ⟨_, _, _, q⟩ := z; exact q.elim
   | ret u => obtain ⟨_, _, _, _, _, q⟩ := z; exact q.elim
 . obtain ⟨e, a0, B, kC, σ', H1, s0, H', Z', rfl, L, z', S'⟩ := z
   refine aiD (X := X.pinned pins) qq Km L fun s3 L3 => ?_
   have hn := L3.no
   have nZ := S'.zh.off hn
   have nbB := S'.bh.off hn
   have nbZ := S'.zz.off nZ
   have S2 := ((S'.with (o := .ext (excAt e (CL c))) hn rfl).push (v := .ref e) (d := .val (.ref e)) (.val _)).set hi
   have M2 := (M.mono z').with (o := .ext (excAt e (CL c))) nZ nbB nbZ S'.tab
   refine acB (X := X.pinned pins) L3 hex nd nl.hi hk nl.loc nl.hf hg hm hx (fun s4 I4 => ?_) hd
   have J := (I4.Uq I.ok).hand e
   have done : ∀ (σ5 : L2.St) (H5 : Hp), (∃ δ5 Z5, aQ (upd Z' e (.ext (excAt e (CL c)))) Z5 /\ cj X.K CL (b.with e (.ext (excAt e (CL c)))) H5 Z5 δ5 σ5 ts vs /\ (δ5[i]? = some none \/ ∃ d, δ5[i]? = some (some (.sh d))) /\ fD X CL (b.with e (.ext (excAt e (CL c)))) fJ (δ5.set i none) D) →
       KP X fJ E (σ5.set i none) H5 := fun σ5 H5 ⟨δ5, Z5, q1, q2, q3, q4⟩ => q4 H5 Z5 _ ts vs E (q2.unset q3) (M2.mono q1)
   have run := k e (b.with e (.ext (excAt e (CL c)))) (aml rfl) _ _ _ ts vs { nx := fun σ5 H5 => KP X fJ E (σ5.set i none) H5, rt := fun _ _ => False } S2 ⟨fun δ5 σ5 H5 Z5 q1 q2 q3 => done σ5 H5 ⟨δ5, Z5, q1, q2, q3.1, q3.2⟩, fun _ _ _ _ _ _ _ _ z => z.elim, fun _ _ _ _ _ _ z => z.elim, fun _ _ _ _ _ _ z => z.elim⟩ pins s4 J
   refine ani run (fun f s5 z => ?_) fun _ _ z => by rw [show (X.hand e).xe = X.xe from rfl, hxf] at z; exact z
   cases f with
   | next =>
     obtain ⟨σ5, H5, I5, q⟩ := z
     exact ⟨[], σ5, H5, (I5.acw I.ok).aaG, fun s6 I6 => ⟨_, _, I6.Uq I.ok, q⟩⟩
   | brk => obtain ⟨_, _, _, q⟩ := z; exact q.elim
   | cont => obtain ⟨_, _, _, q⟩ := z; exact q.elim
   | ret u => obtain ⟨_, _, _, _, _, q⟩ := z; exact q.elim
theorem Vn.hand {a : Addr} (h : Vn X i x) : Vn (X.hand a) i x := ⟨h.hi, h.hv, h.hd, h.ko⟩
theorem Ln.hand {a : Addr} (h : Ln X i x) : Ln (X.hand a) i x := ⟨⟨h.hi, h.hv, h.hd, h.ko⟩, h.loc, h.hf⟩
theorem acD {t : T} {pos' : Pos} (nd : X.N.Nodup) (n : Ln X i x) (h : cW X CL b e δ t δ1) (k : fD X CL b fJ (δ1.set i (some t)) D) (hl : i < δ1.length := by exact amm rfl) (hs : swapsWith e y0.aw pos.line X.env = pure false := by rfl) :
   fD X CL b (.Assign [.Name x pos'] e pos :: fJ) δ D := dZ (K1 i h k hl nd n.hi n.loc hs n.hf)
theorem yN : bootBuiltins "ValueError" = some (.type "ValueError") := by decide +kernel
theorem Uu {ds uP : List L3.D} (h1 : cW X CL b e1 δ (.sh (.tup ds)) δ1) (h2 : cW X CL b e2 δ1 (.sh (.tup uP)) δ2) (hz : ds.length + uP.length <= sizeLine) :
   cW X CL b (.BinOp e1 .Add e2 pos) δ (.sh (.tup (ds ++ uP))) δ2 := by
 cases uP with
 | cons d uP => exact vf h1 h2 (List.cons_ne_nil _ _) hz
 | nil =>
   rw [amH]
   cases ds with
   | cons d ds =>
     intro H Z σ ts vs Q S k
     exact dG (zJ NS eS eS) (h1 H Z σ ts vs _ S fun v1 H1 Z1 z1 k1 S1 => h2 H1 Z1 σ _ _ _ S1 fun v2 H2 Z2 z2 k2 S2 => by
       have r2 := S2.EJ
       have r1 := S2.pop.EJ
       have W8 := r1
       cases r2 with
       | tup Xl Wr =>
         cases Wr
         cases r1 with
         | tup G7 K4 =>
           have e1 := K4.length
           refine ⟨_, _, _, _, rfl, rfl, aQ.HD S2.zh G7, aQ.HD S2.zh Xl, (fun z => by rw [z] at e1; cases e1), by rw [← e1]; exact hz, fun _ => k _ _ Z2 y0.F y0.S (S2.pop.pop.push W8), fun z => absurd rfl z⟩)
   | nil =>
     intro H Z σ ts vs Q S k
     exact dG (zJ Im eS eS) (h1 H Z σ ts vs _ S fun v1 H1 Z1 z1 k1 S1 => h2 H1 Z1 σ _ _ _ S1 fun v2 H2 Z2 z2 k2 S2 => by
       have r2 := S2.EJ
       have r1 := S2.pop.EJ
       cases r1 with
       | tup G7 K4 =>
         cases K4
         have r2' := r2
         cases r2 with
         | tup Xl Wr => exact ⟨_, _, _, rfl, rfl, aQ.HD S2.zh G7, aQ.HD S2.zh Xl, k _ _ Z2 y0.F y0.S (S2.pop.pop.push r2')⟩)
end
end L3
namespace Law
open PySem L2 L3
def top (i : Nat) : Stmt := PySem.Challenge.pw_moodtree_k50_branches_in_order.main.body.getD i (.Pass ⟨0, 0, 0, 0⟩)
def zc : Nat -> List Int -> Int -> List Int
 | 0, _, _ => []
 | n + 1, es, k => if k = -1 then [] else k :: zc n es (es.getD k.toNat 0)
def iO (es : List Int) (m : Int) : List Int := zc (es.length + 1) es (es.getD m.toNat 0)
def jZ (es : List Int) : Prop := ∀ k : Nat, k < es.length -> -1 <= es.getD k 0 /\ es.getD k 0 < k
theorem jZ.at {es : List Int} (h : jZ es) {k : Int} (h0 : 0 <= k) (h1 : k < es.length) : -1 <= es.getD k.toNat 0 /\ es.getD k.toNat 0 < k := by
 have := h k.toNat y0.b
 omega
def j3 (ks : List Str) (es ss : List Int) : L3.D := .ins "Tree" [("kinds", .lst (ks.map .str)), ("elders", .lst (es.map .int)), ("starts", .lst (ss.map .int))]
theorem Li {ks : List Str} {es ss : List Int} : List.lookup ("kinds" : Str) [(("kinds" : Str), L3.D.lst (ks.map .str)), ("elders", .lst (es.map .int)), ("starts", .lst (ss.map .int))] = some (.lst (ks.map .str)) := yX
theorem yo {ks : List Str} {es ss : List Int} : List.lookup ("elders" : Str) [(("kinds" : Str), L3.D.lst (ks.map .str)), ("elders", .lst (es.map .int)), ("starts", .lst (ss.map .int))] = some (.lst (es.map .int)) := by
 rw [lZ y0.a, yX]
theorem eB (ds : List L3.D) : T.eF (.lst (ds.map T.sh)) = .lst ds := by rw [T.eF, kL]
theorem cT (l : List Int) : (T.lst ((l.map L3.D.int).map T.sh)).clean = true := by rw [oi]; exact HR _
theorem Aa (l : List Str) : (T.lst ((l.map L3.D.str).map T.sh)).clean = true := by
 rw [oi]
 induction l with
 | nil => rfl
 | cons x l ih => exact ih
def tD (ks : List Str) (es ss : List Int) : List (Str × T) := [("kinds", .lst ((ks.map .str).map T.sh)), ("elders", .lst ((es.map .int).map T.sh)), ("starts", .lst ((ss.map .int).map T.sh))]
theorem DP (ks : List Str) (es ss : List Int) : T.eF (.ins "Tree" (tD ks es ss)) = j3 ks es ss := by
 unfold tD
 rw [T.eF, T.sU, T.sU, T.sU, T.sU, eB, eB, eB]
 rfl
theorem mj (ks : List Str) (es ss : List Int) : T.cz (tD ks es ss) = true := by
 unfold tD
 rw [T.cz, T.cz, T.cz, T.cz, Aa, cT, cT]
 rfl
theorem N9 {es : List Int} (h : jZ es) : ∀ (n : Nat) {k x : Int}, -1 <= k -> k < es.length -> x ∈ zc n es k -> 0 <= x /\ x <= k
 | 0, k, x, _, _, hx => by rw [zc] at hx; cases hx
 | n + 1, k, x, h0, h1, hx => by
   rw [zc] at hx
   split at hx
   . cases hx
   . rename_i hk
     have ha := h.at (k := k) y0.b h1
     rcases amt.mp hx with rfl | hx
     . omega
     . have := N9 h n y0.b y0.b hx
       omega
theorem Ab {es : List Int} (h : jZ es) : ∀ (a b : Nat) {k : Int}, -1 <= k -> k < es.length -> k < a -> k < b -> zc a es k = zc b es k
 | 0, 0, _, _, _, _, _ => rfl
 | 0, b + 1, k, h0, _, ha, _ => by
   rw [zc, zc, aml y0.b]
 | a + 1, 0, k, h0, _, _, hb => by
   rw [zc, zc, aml y0.b]
 | a + 1, b + 1, k, h0, h1, ha, hb => by
   rw [zc, zc]
   split
   . rfl
   . have hk := h.at (k := k) y0.b h1
     rw [Ab h a b hk.1 y0.b y0.b y0.b]
theorem w9 {es : List Int} (h : jZ es) {m : Int} (h0 : 0 <= m) (h1 : m < es.length) : iO es m = if es.getD m.toNat 0 = -1 then [] else es.getD m.toNat 0 :: iO es (es.getD m.toNat 0) := by
 have hm := h.at h0 h1
 unfold iO
 rw [zc]
 split
 . rfl
 . rename_i hk
   have hk2 := h.at (k := es.getD m.toNat 0) y0.b y0.b
   rw [Ab h es.length (es.length + 1) hk2.1 y0.b y0.b y0.b]
theorem zf {es : List Int} (h : jZ es) {m x : Int} (h0 : 0 <= m) (h1 : m < es.length) (hx : x ∈ iO es m) : 0 <= x /\ x < m /\ x < es.length := by
 have hm := h.at h0 h1
 have := N9 h _ hm.1 y0.b hx
 omega
theorem Ac {es : List Int} (h : jZ es) : ∀ (n : Nat) {m : Int}, 0 <= m -> m < es.length -> m < n -> (iO es m).Pairwise (fun a b => b < a)
 | 0, m, h0, _, hn => by omega
 | n + 1, m, h0, h1, hn => by
   have hm := h.at h0 h1
   rw [w9 h h0 h1]
   split
   . exact .nil
   . rename_i hk
     have hs := Ac h n (m := es.getD m.toNat 0) y0.b y0.b y0.b
     refine am9.mpr ⟨fun x hx => ?_, hs⟩
     have := zf h (m := es.getD m.toNat 0) y0.b y0.b hx
     omega
def yp (es : List Int) : Prop := jZ es /\ ∀ k : Nat, k + 1 < es.length -> es.getD (k + 1) 0 = k \/ es.getD (k + 1) 0 ∈ iO es k
theorem Oa {es : List Int} {x : Int} (h : jZ es) : ∀ (n : Nat) {k : Int}, -1 <= k -> k < es.length -> zc n (es ++ [x]) k = zc n es k
 | 0, _, _, _ => rfl
 | n + 1, k, h0, h1 => by
   rw [zc, zc]
   split
   . rfl
   . have hk := h.at (k := k) y0.b h1
     have e : (es ++ [x]).getD k.toNat 0 = es.getD k.toNat 0 := by
       rw [amk, aol y0.b, ← amk]
     rw [e, Oa h n hk.1 y0.b]
theorem Ad {es : List Int} {x : Int} {k : Nat} (h : k < es.length) : (es ++ [x]).getD k 0 = es.getD k 0 := by
 rw [amk, aol h, ← amk]
theorem EY {es : List Int} {x : Int} (h : jZ es) {m : Int} (h0 : 0 <= m) (h1 : m < es.length) : iO (es ++ [x]) m = iO es m := by
 have hm := h.at h0 h1
 unfold iO
 rw [Ad y0.b, Oa h _ hm.1 y0.b, Ab h _ (es.length + 1) hm.1 y0.b (by rw [amv]; omega) y0.b]
theorem jZ.snoc {es : List Int} (h : jZ es) {x : Int} (h0 : -1 <= x) (h1 : x < es.length) : jZ (es ++ [x]) := fun k hk => by
 rw [amv] at hk
 simp only [amB, anP] at hk
 by_cases e : k < es.length
 . rw [Ad e]
   exact h k e
 . have : k = es.length := by omega
   subst this
   rw [amk, anM (amo _)]
   simp
   omega
theorem yp.snoc {es : List Int} (h : yp es) {x : Int} {k : Nat} (hk : k + 1 = es.length) (hx : x = k \/ x ∈ iO es k) : yp (es ++ [x]) := by
 have hx' : -1 <= x /\ x < es.length := by
   rcases hx with e | e
   . omega
   . have := zf h.1 (m := (k : Int)) y0.b y0.b e
     omega
 refine ⟨h.1.snoc hx'.1 hx'.2, fun j hj => ?_⟩
 rw [amv] at hj
 simp only [amB, anP] at hj
 rw [EY h.1 y0.b y0.b]
 by_cases e : j + 1 < es.length
 . rw [Ad e]
   exact h.2 j e
 . have : j = k := by omega
   subst this
   have e2 : (es ++ [x]).getD (j + 1) 0 = x := by
     rw [amk, anM y0.b, hk, Nat.sub_self]
     rfl
   rw [e2]
   exact hx
theorem EZ : ∀ (n : Nat) (es : List Int) (k : Int), (zc n es k).length <= n
 | 0, _, _ => amo _
 | n + 1, es, k => by
   rw [zc]
   split
   . exact amM _
   . exact Nat.succ_le_succ (EZ n es _)
def Ae (es : List Int) (m : Int) : List Int := ((List.range es.length).filter (fun (i : Nat) => decide (es.getD i 0 = m))).map (fun (i : Nat) => (i : Int))
theorem Ob {es : List Int} {m x : Int} (h0 : 0 <= x) (h1 : x < es.length) (h2 : es.getD x.toNat 0 = m) : x ∈ Ae es m := by
 unfold Ae
 refine List.mem_map.mpr ⟨x.toNat, List.mem_filter.mpr ⟨List.mem_range.mpr y0.b, by simpa using h2⟩, by omega⟩
def Iu (s : List Int) (k : Int) : Int := if s.length = 0 then k else s.getD (k % (s.length : Nat)).toNat 0 % 1000000007 / (1 + k / (s.length : Nat)) + k / (s.length : Nat) * k
def Kn (es : List Int) (m : Int) (n : Nat) : Int := (m :: iO es m).getD n 0
theorem Iv {es : List Int} (h : jZ es) : ∀ (f : Nat) {m : Int} {n : Nat}, 0 <= m -> m < es.length -> m < f -> n < (iO es m).length -> (0 <= Kn es m n /\ Kn es m n < es.length) /\ es.getD (Kn es m n).toNat 0 = Kn es m (n + 1)
 | 0, m, n, h0, _, hf, _ => by omega
 | f + 1, m, n, h0, h1, hf, hn => by
   have hm := h.at h0 h1
   have e := w9 h h0 h1
   generalize hq : es.getD m.toNat 0 = k at hm e
   by_cases hk : k = -1
   . rw [e, aml hk] at hn; cases hn
   . rw [amg hk] at e
     cases n with
     | zero =>
       unfold Kn
       refine ⟨⟨h0, h1⟩, ?_⟩
       rw [e]
       exact hq
     | succ n =>
       rw [e, amB] at hn
       have ih := Iv h f (m := k) (n := n) y0.b y0.b y0.b y0.b
       unfold Kn at ih ⊢
       rw [e]
       exact ih
theorem E1 {es : List Int} {m : Int} {n : Nat} (hn : n <= (iO es m).length) : Kn es m n = m \/ Kn es m n ∈ iO es m := by
 cases n with
 | zero => exact .inl rfl
 | succ n =>
   refine .inr ?_
   unfold Kn
   show (iO es m).getD n 0 ∈ _
   rw [amk, amq y0.b]
   exact anu _
def Af (n : Int) (es : List Int) (j : Nat) : Int := if n % 3 = 0 then (if 2 < ((iO es j).length : Int) + 1 then 2 else ((iO es j).length : Int) + 1) else ((iO es j).length : Int) + 1
def eUp (s : List Int) (n : Int) (es : List Int) (j : Nat) : Int := if ((iO es j).length : Int) = 12 then (if 1 > Iu s (1 + (j : Int)) % Af n es j then 1 else Iu s (1 + (j : Int)) % Af n es j) else Iu s (1 + (j : Int)) % Af n es j
theorem Uv (n : Int) (es : List Int) (j : Nat) : 0 < Af n es j /\ Af n es j <= ((iO es j).length : Int) + 1 := by
 unfold Af
 split
 . split <;> omega
 . omega
theorem acE (s : List Int) (n : Int) (es : List Int) (j : Nat) : 0 <= eUp s n es j /\ eUp s n es j <= ((iO es j).length : Int) := by
 obtain ⟨h1, h2⟩ := Uv n es j
 have a := amN (Iu s (1 + (j : Int))) (b := Af n es j) y0.b
 have b := amA (Iu s (1 + (j : Int))) h1
 unfold eUp
 split
 . split <;> omega
 . omega
def X7 (s : List Int) (n : Int) : Nat -> List Int
 | 0 => [-1]
 | j + 1 => X7 s n j ++ [Kn (X7 s n j) j (eUp s n (X7 s n j) j).toNat]
theorem acF (s : List Int) (n : Int) : ∀ j, (X7 s n j).length = j + 1 /\ yp (X7 s n j)
 | 0 => ⟨rfl, ⟨fun k hk => by
     have : (X7 s n 0).length = 1 := rfl
     have : k = 0 := by omega
     subst this
     exact ⟨Int.le_refl _, show (-1 : Int) < ((0 : Nat) : Int) by decide⟩, fun k hk => by
     have : (X7 s n 0).length = 1 := rfl
     omega⟩⟩
 | j + 1 => by
   obtain ⟨h1, h2⟩ := acF s n j
   refine ⟨by show (X7 s n j ++ _).length = _; rw [amv, h1]; rfl, ?_⟩
   have hu := acE s n (X7 s n j) j
   exact h2.snoc h1.symm (E1 y0.b)
def Lj (es : List Int) (n : Nat) : List Int := (List.range n).map fun (i : Nat) => ((iO es i).length : Int)
theorem Uw (es : List Int) {n i : Nat} (h : i < n) : (Lj es n).getD i 0 = ((iO es i).length : Int) := by
 unfold Lj
 rw [amk, amT, anr h]
 rfl
theorem getD_snoc {es : List Int} {x : Int} : (es ++ [x]).getD es.length 0 = x := by
 rw [amk, anM (amo _), Nat.sub_self]
 rfl
theorem Ux {es : List Int} (h : jZ es) {x : Int} (h0 : 0 <= x) (h1 : x < es.length) : iO (es ++ [x]) es.length = x :: iO es x := by
 have h' := h.snoc (x := x) y0.b h1
 rw [w9 h' (m := (es.length : Int)) y0.b (by rw [amv]; simp; omega), amS, getD_snoc, amg y0.b, EY h h0 h1]
theorem Uy {es : List Int} (h : jZ es) {x : Int} (h0 : 0 <= x) (h1 : x < es.length) : Lj (es ++ [x]) (es.length + 1) = Lj es es.length ++ [((iO es x).length : Int) + 1] := by
 unfold Lj
 rw [anI, amP]
 congr 1
 . apply am7
   intro i hi
   have : i < es.length := amZ.mp hi
   rw [EY h y0.b y0.b]
 . show [((iO (es ++ [x]) (es.length : Nat)).length : Int)] = _
   rw [Ux h h0 h1, amB]
   simp
def E2 (isAll : Int -> Bool) (es ch : List Int) : Nat -> List Int
 | 0 => [0]
 | j + 1 => if es.getD (j + 1) 0 ∈ E2 isAll es ch j /\ (isAll (es.getD (j + 1) 0) = true \/ ch.getD (es.getD (j + 1) 0).toNat 0 = ((j + 1 : Nat) : Int)) then E2 isAll es ch j ++ [((j + 1 : Nat) : Int)] else E2 isAll es ch j
theorem zg {isAll : Int -> Bool} {es ch : List Int} : ∀ (j : Nat) {x : Int}, x ∈ E2 isAll es ch j -> 0 <= x /\ x <= j
 | 0, x, h => by
   have : x = 0 := by simpa [E2] using h
   omega
 | j + 1, x, h => by
   rw [E2] at h
   split at h
   . rcases amx.mp h with h | h
     . have := zg j h
       omega
     . have : x = ((j + 1 : Nat) : Int) := by simpa using h
       omega
   . have := zg j h
     omega
theorem E3 {isAll : Int -> Bool} {es ch : List Int} : ∀ (j : Nat), (E2 isAll es ch j).length <= j + 1
 | 0 => amo _
 | j + 1 => by
   have := E3 (isAll := isAll) (es := es) (ch := ch) j
   rw [E2]
   split
   . rw [amv, anx]; omega
   . omega
def ku (ks : List Str) (x : Int) : Bool := decide (ks.getD x.toNat Str.empty = "all")
theorem acG {es : List Int} {k : Nat} (h : (k : Int) ∈ es) : Ae es k ≠ [] := fun z => by
 obtain ⟨i, hi, e⟩ := List.getElem_of_mem h
 have : (i : Int) ∈ Ae es k := Ob y0.b y0.b (by rw [amS, amk, amq hi]; exact e)
 rw [z] at this
 cases this
def aaI (ks : List Str) (es : List Int) : Prop := ∀ k : Nat, k < es.length -> ks.getD k Str.empty = "one" -> Ae es k ≠ []
def iE (bs nm : List L3.D) (tr : L3.D) (is os ws : List L3.D) : L3.D := .ins "Chart" [("boxes", .lst bs), ("names", .lst nm), ("tree", tr), ("ins", .lst is), ("outs", .lst os), ("ways", .lst ws)]
section
variable {bs nm is os ws : List L3.D} {tr : L3.D}
theorem Ag : List.lookup ("tree" : Str) [(("boxes" : Str), L3.D.lst bs), ("names", .lst nm), ("tree", tr), ("ins", .lst is), ("outs", .lst os), ("ways", .lst ws)] = some tr := by
 rw [lZ y0.a, lZ y0.a, yX]
theorem tX : List.lookup ("ways" : Str) [(("boxes" : Str), L3.D.lst bs), ("names", .lst nm), ("tree", tr), ("ins", .lst is), ("outs", .lst os), ("ways", .lst ws)] = some (.lst ws) := by
 rw [lZ y0.a, lZ y0.a, lZ y0.a, lZ y0.a, lZ y0.a, yX]
end
def tY (bs nm : List L3.D) : List (Str × T) := [("boxes", .lst (bs.map T.sh)), ("names", .lst (nm.map T.sh))]
def tZ (is os ws : List L3.D) : List (Str × T) := [("ins", .lst (is.map T.sh)), ("outs", .lst (os.map T.sh)), ("ways", .lst (ws.map T.sh))]
def kB (bs nm : List L3.D) (t : T) (is os ws : List L3.D) : List (Str × T) := tY bs nm ++ (("tree" : Str), t) :: tZ is os ws
theorem Ah (bs nm : List L3.D) (t : T) (is os ws : List L3.D) : T.eF (.ins "Chart" (kB bs nm t is os ws)) = iE bs nm t.eF is os ws := by
 unfold kB tY tZ
 rw [amL, amL, anQ, T.eF, T.sU, T.sU, T.sU, T.sU, T.sU, T.sU, T.sU, eB, eB, eB, eB, eB]
 rfl
theorem cM {ds : List L3.D} (h : D.cI ds = true) : (T.lst (ds.map T.sh)).clean = true := by
 rw [oi]
 induction ds with
 | nil => rfl
 | cons d ds ih =>
   rw [D.cI, am1] at h
   rw [amD, T.ju, ih h.2, T.clean, h.1]; rfl
theorem vg {bs nm : List L3.D} (h1 : D.cI bs = true) (h2 : D.cI nm = true) : T.cz (tY bs nm) = true := by
 unfold tY
 rw [T.cz, T.cz, T.cz, cM h1, cM h2]; rfl
theorem vh {is os ws : List L3.D} (h1 : D.cI is = true) (h2 : D.cI os = true) (h3 : D.cI ws = true) : T.cz (tZ is os ws) = true := by
 unfold tZ
 rw [T.cz, T.cz, T.cz, T.cz, cM h1, cM h2, cM h3]; rfl
def Ai (p : Str × Int) : L3.D := .tup [.str p.1, .int p.2]
structure dw where
 src : Int
 sign : Str
 asks : List L3.D
 DQ : List L3.D
 tgt : Int
 mode : Str
def dz (w : dw) : L3.D := .tup [.int w.src, .str w.sign, .tup w.asks, .tup w.DQ, .int w.tgt, .str w.mode]
def Oc (ns : List Int) (k : Int) : Int := if k < ns.length then ns.getD k.toNat 0 else 0
def X8 : List Nat := (List.range 26).map (· + 97) ++ (List.range 10).map (· + 48)
def X9 (k : Int) : Str := ⟨#[X8.getD k.toNat 0]⟩
theorem acH : ∀ n ∈ X8, n < 1114112 := by decide +kernel
theorem Uz (k : Int) : PyData.strOk (X9 k) = true := by
 unfold PyData.strOk X9
 have : X8.getD k.toNat 0 < 1114112 := by
   rw [amk]
   cases e : X8[k.toNat]? with
   | none => decide
   | some n => exact acH n (anb e)
 simpa [List.getD_eq_getElem?_getD] using this
def afQ (m : Int) : Int := (m * 48271 + 11) % 2147483647
def Aj (p : Int × Str) : Nat -> Int × Str
 | 0 => p
 | n + 1 => (afQ (Aj p n).1, (Aj p n).2 ++ X9 (afQ (Aj p n).1 % 36))
def nm0 (c : Int) : Int × Str := (c / 12 % 10 ^ (9 : Int).toNat, X9 (c / 12 % 10 ^ (9 : Int).toNat % 26))
theorem afR (p : Int × Str) (h : PyData.strOk p.2 = true) (n : Nat) : PyData.strOk (Aj p n).2 = true := by
 induction n with
 | zero => exact h
 | succ n ih => exact wU _ _ ih (Uz _)
def nmB (c : Int) : Str := (Aj (nm0 c) (c % 12).toNat).2
def w13 : List Str := ["all", "and", "box", "call", "do", "far", "if", "in", "leaf", "near", "on", "one", "open"]
def w6 : List Str := ["out", "put", "say", "shut", "then", "to"]
def Iw (c : Int) : Str := if nmB c ∈ w13 then nmB c ++ "0" else if nmB c ∈ w6 then nmB c ++ "0" else nmB c
theorem E4 (c : Int) : PyData.strOk (Iw c) = true := by
 have hb : PyData.strOk (nmB c) = true := afR _ (Uz _) _
 have h0 : PyData.strOk ("0" : Str) = true := by decide +kernel
 unfold Iw
 split
 . exact wU _ _ hb h0
 . split
   . exact wU _ _ hb h0
   . exact hb
def afS (mk : Str) (i j : Int) : Bool := if mk = "<" then decide (i < j) else if mk = "<=" then decide (i <= j) else if mk = "=" then decide (i = j) else !decide (i = j)
def E5 (bx mo : Int) (bs : List Int) : Int := if bx = -1 then mo else bs.getD bx.toNat 0 + mo
theorem UA {x : Str} (h : PyData.strOk x = true) (l k : Option Int) : PyData.strOk (Txt.slice x l k) = true := by
 unfold Txt.slice
 split
 . exact h
 . unfold PyData.strOk at *
   rw [List.all_toArray, ano]
   intro c hc
   obtain ⟨i, _, hi⟩ := aoo.mp hc
   rw [← Array.all_toList, ano] at h
   exact h c (by rw [← anO] at hi; exact anb hi)
def Iz (s : List Int) : Str := Txt.slice (Iw (Oc s 0 / 2)) none (some 10)
def sgK (s : List Int) : List Str := if Oc s 0 % 2 = 0 then [Iz s ++ "1", Iz s ++ "12", Iz s ++ "2"] else [Iz s, Iw (Oc s 1 + 5), Iw (Oc s 2 + 10)]
theorem aiG (s : List Int) : ∀ x ∈ sgK s, PyData.strOk x = true := by
 have hb : PyData.strOk (Iz s) = true := UA (E4 _) _ _
 unfold sgK
 split
 . intro x hx
   simp only [amt, amJ, aof] at hx
   rcases hx with rfl | rfl | rfl
   . exact wU _ _ hb y0.a
   . exact wU _ _ hb y0.a
   . exact wU _ _ hb y0.a
 . intro x hx
   simp only [amt, amJ, aof] at hx
   rcases hx with rfl | rfl | rfl
   . exact hb
   . exact E4 _
   . exact E4 _
inductive pG where
 | xg (op : Bool) (m : Int)
 | num (mk : Str) (b1 m1 b2 m2 : Int)
def gC : pG -> L3.D
 | .xg op m => .tup [.str (if op then "open" else "shut"), .int m]
 | .num mk b1 m1 b2 m2 => .tup [.str mk, .tup [.int b1, .int m1], .tup [.int b2, .int m2]]
def Qq : List Str := ["<", "<=", "=", "!="]
def pG.Ok (n : Nat) (bs : List Int) : pG -> Prop
 | .xg _ m => 0 <= m /\ m < n
 | .num mk b1 _ b2 _ => mk ∈ Qq /\ (b1 = -1 \/ (0 <= b1 /\ b1 < bs.length)) /\ (b2 = -1 \/ (0 <= b2 /\ b2 < bs.length))
theorem IA (a : pG) : (gC a).oW = true := by cases a <;> rfl
def w0 : dw := ⟨0, Str.empty, [], [], 0, Str.empty⟩
def alo : L3.D -> Int
 | .tup (_ :: _ :: _ :: _ :: .int t :: _) => t
 | _ => 0
def xh (ln : List Int) (y : Int) : Nat := ln.findIdx (fun z => decide (z = y))
theorem Lk {ln : List Int} {y : Int} (h : y ∈ ln) : xh ln y < ln.length := List.findIdx_lt_length_of_exists ⟨y, h, by simp⟩
theorem E6 {ln : List Int} {y : Int} (h : y ∈ ln) : ln[xh ln y]? = some y := by
 have hl := Lk h
 have := List.findIdx_getElem (w := hl)
 rw [amq hl]
 exact congrArg some (amC this)
theorem acI {ln : List Int} {y : Int} {i : Nat} (h : i < xh ln y) : ln[i]? ≠ some y := fun e => by
 have hl : i < ln.length := (amU.mp e).1
 have := List.not_of_lt_findIdx h
 rw [(amU.mp e).2] at this
 simp at this
theorem Yb {ln : List Int} (nd : ln.Nodup) {y : Int} {i : Nat} (hy : y ∈ ln) : xh ln y = i ↔ ln[i]? = some y := by
 constructor
 . rintro rfl; exact E6 hy
 . intro e
   have h1 := E6 hy
   have hl := Lk hy
   have hi : i < ln.length := (amU.mp e).1
   rw [amq hl] at h1
   rw [amq hi] at e
   have e3 := (amK h1).trans (amK e).symm
   have np := List.pairwise_iff_getElem.mp nd
   rcases Nat.lt_trichotomy (xh ln y) i with z | z | z
   . exact absurd e3 (np _ _ hl hi z)
   . exact z
   . exact absurd e3.symm (np _ _ hi hl z)
def Ca (ops : List Int) : L3.D -> Bool
 | .tup [.str k, .int m] => if k = "open" then decide (m ∈ ops) else if k = "shut" then !decide (m ∈ ops) else true
 | _ => true
def kG (ops : List Int) (l : List L3.D) : Bool := l.all (Ca ops)
def pG.Yc : pG -> Prop
 | .xg _ _ => True
 | .num mk _ _ _ _ => mk ∈ Qq
theorem pG.Ok.mk {n : Nat} {bs : List Int} {a : pG} (h : a.Ok n bs) : a.Yc := by
 cases a with
 | xg op m => trivial
 | num mk b1 m1 b2 m2 => exact h.1
theorem Od {mk : Str} (h : mk ∈ Qq) : mk ≠ "open" /\ mk ≠ "shut" := by
 have : ∀ x ∈ Qq, x ≠ "open" /\ x ≠ "shut" := by decide +kernel
 exact this mk h
theorem IB (ops : List Int) (op : Bool) (m : Int) : Ca ops (gC (.xg op m)) = if op then decide (m ∈ ops) else !decide (m ∈ ops) := by
 cases op
 . show (if y0.P = "open" then decide (m ∈ ops) else if y0.P = "shut" then !decide (m ∈ ops) else true) = _
   rw [amg y0.a, aml y0.a]
   rfl
 . show (if y0.R = "open" then decide (m ∈ ops) else if y0.R = "shut" then !decide (m ∈ ops) else true) = _
   rw [aml y0.a]
   rfl
def Yd (ops : List Int) (sg : Str) (ln : List Int) (w : dw) : Bool := decide (w.sign = sg) && (decide (w.src ∈ ln) && kG ops w.asks)
def UB (ws : List dw) (ops : List Int) (sg : Str) (ln : List Int) (n : Nat) : List Nat := (List.range n).filter fun k => Yd ops sg ln (ws.getD k w0)
def Ko (ws : List dw) (ops : List Int) (sg : Str) (ln : List Int) : List Int := gX (fun k : Int => (xh ln (ws.getD k.toNat w0).src : Int)) ((UB ws ops sg ln ws.length).map fun (k : Nat) => (k : Int))
def Oe (ws : List dw) (ops : List Int) (sg : Str) (m : Int) (n : Nat) : List Int := ((List.range n).filter fun k => decide ((ws.getD k w0).src = m) && (decide ((ws.getD k w0).sign = sg) && kG ops (ws.getD k w0).asks)).map fun (k : Nat) => (k : Int)
def gsW (ws : List dw) (ops : List Int) (sg : Str) (ln : List Int) : List Int := ln.flatMap fun m => Oe ws ops sg m ws.length
theorem go_eq {ws : List dw} {ops : List Int} {sg : Str} {ln : List Int} (nd : ln.Nodup) : Ko ws ops sg ln = gsW ws ops sg ln := by
 unfold Ko
 rw [rX]
 have e0 : (fun y : Nat => ((xh ln (ws.getD ((y : Int).toNat) w0).src : Nat) : Int)) = fun y : Nat => ((xh ln (ws.getD y w0).src : Nat) : Int) := by
   funext y; rw [amS]
 rw [e0]
 have hin : ∀ k ∈ UB ws ops sg ln ws.length, (ws.getD k w0).src ∈ ln := fun k hk => by
   have := (anm.mp hk).2
   simp only [Yd, am1, anE] at this
   exact this.2.1
 rw [ym (fun k : Nat => xh ln (ws.getD k w0).src) ln.length _ fun k hk => Lk (hin k hk), List.map_flatMap]
 have el : ln = (List.range ln.length).map fun i => ln.getD i 0 := an3 fun i => by
   rw [amT]
   by_cases hi : i < ln.length
   . rw [anr hi, amq hi]
     show _ = some (ln.getD i 0)
     rw [amk, amq hi]; rfl
   . rw [List.getElem?_eq_none y0.b, List.getElem?_eq_none y0.aC]; rfl
 unfold gsW
 conv => rhs; rw [el]
 rw [List.flatMap_map, aoa, aoa]
 congr 1
 refine am7 fun i hi => ?_
 have hi := amZ.mp hi
 unfold Oe UB
 rw [List.filter_filter]
 congr 1
 refine List.filter_congr fun k _ => ?_
 have Ye : ln[i]? = some (ln.getD i 0) := by
   rw [amk, amq hi]; rfl
 by_cases hs : (ws.getD k w0).src ∈ ln
 . have := Yb nd (i := i) hs
   have e2 : decide (xh ln (ws.getD k w0).src = i) = decide ((ws.getD k w0).src = ln.getD i 0) := by
     rw [decide_eq_decide, this, Ye, Option.some.injEq]
     exact eq_comm
   rw [e2]
   unfold Yd
   rw [anC hs, Bool.true_and]
 . unfold Yd
   rw [ang hs]
   have : decide ((ws.getD k w0).src = ln.getD i 0) = false := ang fun e => hs (e ▸ anb Ye)
   rw [this]
   simp
theorem E7 (ws : List dw) (ops : List Int) (sg : Str) (ln : List Int) (n : Nat) : (UB ws ops sg ln n).length <= n := by
 have := anz (fun k => Yd ops sg ln (ws.getD k w0)) (List.range n)
 rw [anc] at this
 exact this
theorem UC (ws : List dw) (ops : List Int) (sg : Str) (ln : List Int) (n : Nat) : UB ws ops sg ln (n + 1) = UB ws ops sg ln n ++ (if Yd ops sg ln (ws.getD n w0) = true then [n] else []) := by
 unfold UB
 rw [anI, aod, List.filter_cons, aom]
theorem Og (ws : List dw) (ops : List Int) (sg : Str) (m : Int) (n : Nat) : (Oe ws ops sg m n).length <= n := by
 unfold Oe
 rw [amh]
 have := anz (fun k => decide ((ws.getD k w0).src = m) && (decide ((ws.getD k w0).sign = sg) && kG ops (ws.getD k w0).asks)) (List.range n)
 rw [anc] at this
 exact this
theorem IC (ws : List dw) (ops : List Int) (sg : Str) (m : Int) (n : Nat) : Oe ws ops sg m (n + 1) = Oe ws ops sg m n ++ (if (decide ((ws.getD n w0).src = m) && (decide ((ws.getD n w0).sign = sg) && kG ops (ws.getD n w0).asks)) = true then [(n : Int)] else []) := by
 unfold Oe
 rw [anI, aod, List.filter_cons, aom, amP]
 congr 1
 split <;> rfl
theorem Yg (ws : List dw) (ops : List Int) (sg : Str) (ln : List Int) : (Ko ws ops sg ln).length <= ws.length := by
 unfold Ko
 rw [rW, amh]
 exact E7 _ _ _ _ _
theorem Ak {es : List Int} (ht : jZ es) {x : Int} (h0 : 0 <= x) (h1 : x < es.length) : (x :: iO es x).Nodup := by
 refine ank.mpr ⟨fun h => ?_, ?_⟩
 . have := zf ht h0 h1 h
   omega
 . exact (Ac ht (es.length + 1) h0 h1 y0.b).imp fun h e => by omega
def xj (ws : List dw) : Prop := ∀ w ∈ ws, ∃ l : List pG, w.asks = l.map gC /\ ∀ a ∈ l, a.Yc
abbrev Ask := Str × Int × Int × Int × Int
def ql (q : Ask) : L3.D := .tup [.str q.1, .tup [.int q.2.1, .int q.2.2.1], .tup [.int q.2.2.2.1, .int q.2.2.2.2]]
def hQ (bs : List Int) (q : Ask) : Bool := afS q.1 (E5 q.2.1 q.2.2.1 bs) (E5 q.2.2.2.1 q.2.2.2.2 bs)
def Al (l : List L3.D) : List L3.D := l.filter fun d => !decide y0.bH
def Yh : pG -> List Ask
 | .xg _ _ => []
 | .num mk b1 m1 b2 m2 => [(mk, b1, m1, b2, m2)]
theorem Oh {n : Nat} {bs : List Int} {l : List pG} (h : ∀ a ∈ l, a.Ok n bs) : Al (l.map gC) = (l.flatMap Yh).map ql := by
 unfold Al
 induction l with
 | nil => rfl
 | cons a l ih =>
   have ih := ih fun q hq => h q (amn _ hq)
   have ha := h a amj
   rw [amD, anw, amP, ← ih]
   cases a with
   | xg op m =>
     rw [anT]
     . rfl
     . show ¬ (!decide (y0.k ∈ (["open", "shut"] : List Str))) = true
       cases op <;> decide +kernel
   | num mk b1 m1 b2 m2 =>
     rw [aow]
     . rfl
     . show (!decide (mk ∈ (["open", "shut"] : List Str))) = true
       have : ∀ x ∈ Qq, (!decide (x ∈ (["open", "shut"] : List Str))) = true := by decide +kernel
       exact this mk ha.1
def hD (vs : List Int) : L3.D -> Bool
 | .tup [.str mk, .tup [.int b1, .int m1], .tup [.int b2, .int m2]] => afS mk (E5 b1 m1 vs) (E5 b2 m2 vs)
 | _ => true
def kN (n : Nat) (bs : List Int) (ws : List dw) : Prop := ∀ w ∈ ws, ∃ l : List pG, w.asks = l.map gC /\ l.length <= 2 /\ ∀ a ∈ l, a.Ok n bs
theorem kN.ok {n : Nat} {bs : List Int} {ws : List dw} (h : kN n bs ws) : xj ws := fun w hw => by
 obtain ⟨l, e, _, hl⟩ := h w hw
 exact ⟨l, e, fun a ha => (hl a ha).mk⟩
def lV (l : List Int) (s : Int) : List Int := if s ∈ l then l else l ++ [s]
def IE (ks : List Str) (x : Int) : Bool := decide (ks.getD x.toNat Str.empty = "leaf")
def jo (ks : List Str) (ops : List Int) : List Int := ops.filter (IE ks)
theorem Yi {ws : List dw} {ops : List Int} {sg : Str} {ln : List Int} {k : Int} (h : k ∈ Ko ws ops sg ln) : 0 <= k /\ k < ws.length := by
 obtain ⟨i, hi, rfl⟩ := amI.mp (w4.mp h)
 have := amZ.mp (anm.mp hi).1
 omega
def toQ : L3.D -> List Ask
 | .tup [.str mk, .tup [.int b1, .int m1], .tup [.int b2, .int m2]] => [(mk, b1, m1, b2, m2)]
 | _ => []
def UD (w : dw) : List Ask := w.asks.flatMap toQ
def gK (ws : List dw) (k : Int) : List Ask := UD (ws.getD k.toNat w0)
theorem E8 (l : List pG) : (l.map gC).flatMap toQ = l.flatMap Yh := by
 induction l with
 | nil => rfl
 | cons a l ih =>
   rw [amD, anw, anw, ih]
   congr 1
   cases a <;> rfl
def Qs (hl : List (Int × Bool)) : List (Key × L3.D) := hl.map fun p => ((Sum.inl p.1 : Key), L3.D.bl p.2)
def cR (hl : List (Int × Bool)) (w : Int) : Option Bool := (hl.find? fun p => decide (p.1 = w)).map (·.2)
theorem Yj (hl : List (Int × Bool)) (w : Int) : yL (Qs hl) (.inl w) = (cR hl w).map L3.D.bl := by
 unfold yL Qs cR
 induction hl with
 | nil => rfl
 | cons p hl ih =>
   rw [amD, anG, anG]
   by_cases e : p.1 = w
   . subst e
     rw [anC rfl, anC rfl]
     rfl
   . have e2 : ¬ (Sum.inl p.1 : Key) = Sum.inl w := fun z => e (Sum.inl.inj z)
     rw [ang e2, ang e]
     exact ih
theorem kT (hl : List (Int × Bool)) (w v : Int) (c : Bool) : cR (hl ++ [(w, c)]) v = (cR hl v).or (if w = v then some c else none) := by
 unfold cR
 rw [List.find?_append]
 cases e : hl.find? fun p => decide (p.1 = v) with
 | some p => rfl
 | none =>
   by_cases z : w = v
   . subst z
     rw [aml rfl]
     simp [anG]
   . rw [amg z]
     simp [anG, z]
theorem Yk {hl : List (Int × Bool)} {w : Int} (c : Bool) (h : cR hl w = none) : zX (Qs hl) (.inl w) (.bl c) = Qs (hl ++ [(w, c)]) := by
 unfold zX
 rw [amg]
 . unfold Qs
   rw [amP]
   rfl
 . intro z
   obtain ⟨kv, hk, e⟩ := List.any_eq_true.mp z
   obtain ⟨p, hp, rfl⟩ := amI.mp hk
   have e : p.1 = w := Sum.inl.inj (amC e)
   unfold cR at h
   rw [Option.map_eq_none_iff, List.find?_eq_none] at h
   exact h p hp (anC e)
def kH (r : List (List Int)) : Nat := (r.map fun l => l.length + 1).sum
theorem bF (l : List Int) (r : List (List Int)) : kH (l :: r) = l.length + 1 + kH r := by unfold kH; rw [amD, List.sum_cons]
def jD (ws : List dw) (r : List (List Int)) (q : List Ask) (p : List Int) (h : List (Int × Bool)) : List (List Ask × List Int) :=
 match r with
 | [] => [(q, p)]
 | [] :: r => jD ws r q p h
 | (w :: l) :: r =>
   if gK ws w = [] \/ cR h w = some true then jD ws r q (lV p w) h
   else if cR h w = some false then jD ws (l :: r) q p h
   else jD ws r (q ++ gK ws w) (lV p w) (h ++ [(w, true)]) ++ jD ws (l :: r) q p (h ++ [(w, false)])
termination_by kH r
decreasing_by all_goals (simp only [bF, amB, anP]; omega)
section
variable {ws : List dw} {q : List Ask} {p : List Int} {h : List (Int × Bool)} {w : Int} {l : List Int} {r : List (List Int)}
theorem pH : jD ws [] q p h = [(q, p)] := by rw [jD]
theorem ou : jD ws ([] :: r) q p h = jD ws r q p h := by rw [jD]
theorem oz (hc : gK ws w = [] \/ cR h w = some true) : jD ws ((w :: l) :: r) q p h = jD ws r q (lV p w) h := by rw [jD, aml hc]
theorem qG (hc : ¬ (gK ws w = [] \/ cR h w = some true)) (hf : cR h w = some false) : jD ws ((w :: l) :: r) q p h = jD ws (l :: r) q p h := by rw [jD, amg hc, aml hf]
theorem oA (hq : ¬ gK ws w = []) (hn : cR h w = none) : jD ws ((w :: l) :: r) q p h = jD ws r (q ++ gK ws w) (lV p w) (h ++ [(w, true)]) ++ jD ws (l :: r) q p (h ++ [(w, false)]) := by
 rw [jD, amg (fun z => z.elim hq (fun z => by rw [hn] at z; cases z)), amg (fun z => by rw [hn] at z; cases z)]
end
theorem qH (h : List (Int × Bool)) (w : Int) : cR h w = some true \/ cR h w = some false \/ cR h w = none := by
 cases cR h w with
 | none => exact .inr y0.bn
 | some b => cases b <;> simp
theorem E9 {ws : List dw} {P : List (List Int) -> List Ask -> List Int -> List (Int × Bool) -> Prop}
   (h0 : ∀ q p h, P [] q p h) (h1 : ∀ r q p h, P r q p h -> P ([] :: r) q p h)
   (h2 : ∀ w l r q p h, (gK ws w = [] \/ cR h w = some true) -> P r q (lV p w) h -> P ((w :: l) :: r) q p h)
   (h3 : ∀ w l r q p h, ¬ (gK ws w = [] \/ cR h w = some true) -> cR h w = some false -> P (l :: r) q p h -> P ((w :: l) :: r) q p h)
   (h4 : ∀ w l r q p h, ¬ gK ws w = [] -> cR h w = none -> P r (q ++ gK ws w) (lV p w) (h ++ [(w, true)]) -> P (l :: r) q p (h ++ [(w, false)]) -> P ((w :: l) :: r) q p h) :
   ∀ (n : Nat) (r : List (List Int)), kH r <= n -> ∀ q p h, P r q p h := by
 intro n
 induction n with
 | zero =>
   intro r hr q p h
   cases r with
   | nil => exact h0 q p h
   | cons l r => rw [bF] at hr; omega
 | succ n ih =>
   intro r hr q p h
   match r, hr with
   | [], _ => exact h0 q p h
   | [] :: r, hr =>
     rw [bF] at hr
     exact h1 r q p h (ih r y0.b q p h)
   | (w :: l) :: r, hr =>
     rw [bF, amB] at hr
     have i1 := ih r y0.b
     have i2 := ih (l :: r) (by rw [bF]; omega)
     by_cases hc : gK ws w = [] \/ cR h w = some true
     . exact h2 w l r q p h hc (i1 _ _ _)
     . rcases qH h w with z | z | z
       . exact absurd (.inr z) hc
       . exact h3 w l r q p h hc z (i2 _ _ _)
       . exact h4 w l r q p h (fun e => hc (.inl e)) z (i1 _ _ _) (i2 _ _ _)
theorem Oi (ws : List dw) (r : List (List Int)) (q : List Ask) (p : List Int) (h : List (Int × Bool)) : 1 <= (jD ws r q p h).length := by
 refine E9 (ws := ws) (P := fun r q p h => 1 <= (jD ws r q p h).length) ?_ ?_ ?_ ?_ ?_ (kH r) r (amo _) q p h
 . intro q p h; rw [pH]; exact amo _
 . intro r q p h i; rw [ou]; exact i
 . intro w l r q p h hc i; rw [oz hc]; exact i
 . intro w l r q p h hc hf i; rw [qG hc hf]; exact i
 . intro w l r q p h hq hn i1 i2; rw [oA hq hn, amv]; omega
def mq (n : Nat) (h : List (Int × Bool)) : Nat := ((List.range n).filter fun (k : Nat) => (cR h (k : Int)).isNone).length
theorem Am {n : Nat} {h : List (Int × Bool)} {w : Int} (c : Bool) (hn : cR h w = none) (w0 : 0 <= w) (w1 : w < n) : mq n (h ++ [(w, c)]) + 1 <= mq n h := by
 unfold mq
 have e : (List.range n).filter (fun (k : Nat) => (cR (h ++ [(w, c)]) (k : Int)).isNone) = ((List.range n).filter fun (k : Nat) => (cR h (k : Int)).isNone).filter fun (k : Nat) => !decide (k = w.toNat) := by
   rw [List.filter_filter]
   refine List.filter_congr fun k _ => ?_
   rw [kT]
   by_cases z : w = (k : Int)
   . rw [aml z, anC (show k = w.toNat by omega)]
     cases cR h (k : Int) <;> rfl
   . rw [amg z, ang (show ¬ k = w.toNat by omega)]
     cases cR h (k : Int) <;> rfl
 rw [e]
 have := List.length_filter_lt_length_iff_exists (l := (List.range n).filter fun (k : Nat) => (cR h (k : Int)).isNone) (p := fun k => !decide (k = w.toNat))
 have hx := this.mpr ⟨w.toNat, anm.mpr ⟨amZ.mpr y0.b, by rw [show ((w.toNat : Nat) : Int) = w by omega, hn]; rfl⟩, by simp⟩
 omega
theorem Yl (ws : List dw) (n : Nat) (r : List (List Int)) (q : List Ask) (p : List Int) (h : List (Int × Bool)) : (∀ l ∈ r, ∀ w ∈ l, 0 <= w /\ w < (n : Int)) -> (jD ws r q p h).length <= 2 ^ mq n h := by
 refine E9 (ws := ws) (P := fun r q p h => (∀ l ∈ r, ∀ w ∈ l, 0 <= w /\ w < (n : Int)) -> (jD ws r q p h).length <= 2 ^ mq n h) ?_ ?_ ?_ ?_ ?_ (kH r) r (amo _) q p h
 . intro q p h _; rw [pH]; exact Nat.one_le_two_pow
 . intro r q p h i hr; rw [ou]; exact i fun l hl => hr l (amn _ hl)
 . intro w l r q p h hc i hr; rw [oz hc]; exact i fun l hl => hr l (amn _ hl)
 . intro w l r q p h hc hf i hr
   rw [qG hc hf]
   refine i fun m hm => ?_
   rcases amt.mp hm with rfl | hm
   . exact fun v hv => hr _ amj v (amn _ hv)
   . exact hr m (amn _ hm)
 . intro w l r q p h hq hn i1 i2 hr
   obtain ⟨b0, b1⟩ := hr _ amj w amj
   rw [oA hq hn, amv]
   have a1 := i1 fun l hl => hr l (amn _ hl)
   have a2 := i2 fun m hm => by
     rcases amt.mp hm with rfl | hm
     . exact fun v hv => hr _ amj v (amn _ hv)
     . exact hr m (amn _ hm)
   have f1 := Am true hn b0 b1
   have f2 := Am false hn b0 b1
   have g1 : 2 ^ mq n (h ++ [(w, true)]) <= 2 ^ (mq n h - 1) := an6 y0.g y0.b
   have g2 : 2 ^ mq n (h ++ [(w, false)]) <= 2 ^ (mq n h - 1) := an6 y0.g y0.b
   have g3 : 2 ^ mq n h = 2 ^ (mq n h - 1) * 2 := by rw [← Nat.pow_succ]; congr 1; omega
   omega
structure tE where
 i : Nat
 j : Nat
 qs : List Ask
 pk : List Int
 hl : List (Int × Bool)
def sW (s : tE) : L3.D := .tup [.int s.i, .int s.j, .tup (s.qs.map ql), .tup (s.pk.map .int), .kZ (Qs s.hl)]
def Cb (x : List Ask × List Int) : L3.D := .tup [.tup (x.1.map ql), .tup (x.2.map .int)]
def Fb (s : tE) : tE := ⟨s.i + 1, 0, s.qs, s.pk, s.hl⟩
def G9 (s : tE) : tE := ⟨s.i, s.j + 1, s.qs, s.pk, s.hl⟩
def Qt (s : tE) (w : Int) : tE := ⟨s.i, s.j, s.qs, lV s.pk w, s.hl⟩
def jw (R : List (List Int)) (s : tE) : List (List Int) := if s.i < R.length then (R.getD s.i []).drop s.j :: R.drop (s.i + 1) else []
def lq (ws : List dw) (R : List (List Int)) (s : tE) : List (List Ask × List Int) := jD ws (jw R s) s.qs s.pk s.hl
def Hf (ws : List dw) (R : List (List Int)) (s : tE) : List tE :=
 if s.j = (R.getD s.i []).length then [Fb s]
 else if gK ws ((R.getD s.i []).getD s.j 0) = [] \/ cR s.hl ((R.getD s.i []).getD s.j 0) = some true then [Fb (Qt s ((R.getD s.i []).getD s.j 0))]
 else if cR s.hl ((R.getD s.i []).getD s.j 0) = some false then [G9 s]
 else [G9 ⟨s.i, s.j, s.qs, s.pk, s.hl ++ [((R.getD s.i []).getD s.j 0, false)]⟩, Fb (Qt ⟨s.i, s.j, s.qs ++ gK ws ((R.getD s.i []).getD s.j 0), s.pk, s.hl ++ [((R.getD s.i []).getD s.j 0, true)]⟩ ((R.getD s.i []).getD s.j 0))]
theorem jE {R : List (List Int)} (i j : Nat) (q : List Ask) (p : List Int) (h : List (Int × Bool)) : jw R (Fb ⟨i, j, q, p, h⟩) = R.drop (i + 1) := by
 unfold jw Fb
 dsimp only
 split
 . rename_i hi
   rw [an5 hi, amk, amq hi]
   rfl
 . rename_i hi
   rw [List.drop_eq_nil_of_le y0.b]
theorem Fd (l : List Int) (s : Int) : (lV l s).length <= l.length + 1 := by
 unfold lV
 split <;> simp
structure IG (M N : Nat) (ws : List dw) (R : List (List Int)) (s : tE) : Prop where
 i1 : s.i <= R.length
 j1 : s.j <= (R.getD s.i []).length
 q1 : s.qs.length + 100 * kH (jw R s) <= 100 * M
 p1 : s.pk.length + kH (jw R s) <= M
 h1 : s.hl.length + kH (jw R s) <= M
def Cd (R : List (List Int)) (s : tE) : Nat := 3 ^ kH (jw R s)
theorem UE {M N : Nat} {ws : List dw} {R : List (List Int)} {s : tE} (h : IG M N ws R s) (hi : s.i < R.length) (hq : ∀ w, (gK ws w).length <= 100) :
   (∀ t ∈ Hf ws R s, IG M N ws R t) /\ lq ws R s = ((Hf ws R s).reverse.map (lq ws R)).flatten /\ ((Hf ws R s).map (Cd R)).sum < Cd R s /\ (Hf ws R s).length <= 2 := by
 obtain ⟨i, j, q, p, hl⟩ := s
 obtain ⟨hi1, hj1, G7, hp1, hh1⟩ := h
 dsimp only at hi1 hj1 G7 hp1 hh1 hi
 have er : jw R ⟨i, j, q, p, hl⟩ = (R.getD i []).drop j :: R.drop (i + 1) := by unfold jw; rw [aml hi]
 have hL0 : ∀ (q' : List Ask) (p' : List Int) (h' : List (Int × Bool)) (M' : Nat), M' = kH (R.drop (i + 1)) -> q'.length + 100 * M' <= 100 * M -> p'.length + M' <= M -> h'.length + M' <= M -> IG M N ws R (Fb ⟨i, j, q', p', h'⟩) := fun q' p' h' M' e a1 a2 a3 => by
   have e2 := jE (R := R) i j q' p' h'
   exact ⟨by show i + 1 <= R.length; omega, amM _, by rw [e2, ← e]; exact a1, by rw [e2, ← e]; exact a2, by rw [e2, ← e]; exact a3⟩
 unfold Hf
 dsimp only
 rw [er] at G7 hp1 hh1
 rw [bF, am8] at G7 hp1 hh1
 unfold lq Cd
 rw [er]
 by_cases hj : j = (R.getD i []).length
 . rw [aml hj]
   refine ⟨fun t ht => ?_, ?_, ?_, amm rfl⟩
   . rw [amQ.mp ht]
     exact hL0 _ _ _ _ rfl y0.b y0.b y0.b
   . show jD ws _ _ _ _ = jD ws (jw R (Fb _)) _ _ _ ++ []
     rw [amH, jE, List.drop_eq_nil_of_le y0.b, ou]
     rfl
   . show 3 ^ kH (jw R (Fb _)) + 0 < _
     rw [jE, bF]
     exact Nat.pow_lt_pow_right y0.g y0.b
 . rw [amg hj]
   have qi : j < (R.getD i []).length := by omega
   have ed : (R.getD i []).drop j = (R.getD i []).getD j 0 :: (R.getD i []).drop (j + 1) := by
     rw [an5 qi, amk (l := R.getD i []), amq qi]
     rfl
   have hw := hq ((R.getD i []).getD j 0)
   rw [ed]
   generalize (R.getD i []).getD j 0 = w at hw ⊢
   have ha := Fd p w
   have eW : ∀ (q' : List Ask) (p' : List Int) (h' : List (Int × Bool)), jw R (G9 ⟨i, j, q', p', h'⟩) = (R.getD i []).drop (j + 1) :: R.drop (i + 1) := fun q' p' h' => by unfold jw G9; dsimp only; rw [if_pos hi]
   have hW0 : ∀ (q' : List Ask) (p' : List Int) (h' : List (Int × Bool)), q'.length <= q.length -> p'.length <= p.length -> h'.length <= hl.length + 1 -> IG M N ws R (G9 ⟨i, j, q', p', h'⟩) := fun q' p' h' a1 a2 a3 => by
     have e2 := eW q' p' h'
     refine ⟨hi1, by show j + 1 <= (R.getD i []).length; omega, ?_, ?_, ?_⟩
     . rw [e2, bF, am8]; show q'.length + _ <= _; omega
     . rw [e2, bF, am8]; show p'.length + _ <= _; omega
     . rw [e2, bF, am8]; show h'.length + _ <= _; omega
   by_cases hc : gK ws w = [] \/ cR hl w = some true
   . rw [aml hc]
     refine ⟨fun t ht => ?_, ?_, ?_, amm rfl⟩
     . rw [amQ.mp ht]
       exact hL0 q (lV p w) hl _ rfl y0.b y0.b y0.b
     . show jD ws _ _ _ _ = jD ws (jw R (Fb (Qt _ w))) _ _ _ ++ []
       rw [amH, show Qt ⟨i, j, q, p, hl⟩ w = ⟨i, j, q, lV p w, hl⟩ from rfl, jE, oz hc]
       rfl
     . show 3 ^ kH (jw R (Fb (Qt _ w))) + 0 < _
       rw [show Qt ⟨i, j, q, p, hl⟩ w = ⟨i, j, q, lV p w, hl⟩ from rfl, jE, bF]
       exact Nat.pow_lt_pow_right y0.g y0.b
   . rw [amg hc]
     by_cases hf : cR hl w = some false
     . rw [aml hf]
       refine ⟨fun t ht => ?_, ?_, ?_, amm rfl⟩
       . rw [amQ.mp ht]
         exact hW0 _ _ _ (amo _) (amo _) y0.b
       . show jD ws _ _ _ _ = jD ws (jw R (G9 _)) _ _ _ ++ []
         rw [amH, eW, qG hc hf]
         rfl
       . show 3 ^ kH (jw R (G9 _)) + 0 < _
         rw [eW, bF, bF, amB]
         exact Nat.pow_lt_pow_right y0.g y0.b
     . rw [amg hf]
       have hn : cR hl w = none := by
         rcases qH hl w with z | z | z
         . exact absurd (.inr z) hc
         . exact absurd z hf
         . exact z
       have hqn : ¬ gK ws w = [] := fun z => hc (.inl z)
       have eP : Qt ⟨i, j, q ++ gK ws w, p, hl ++ [(w, true)]⟩ w = ⟨i, j, q ++ gK ws w, lV p w, hl ++ [(w, true)]⟩ := rfl
       rw [eP]
       refine ⟨fun t ht => ?_, ?_, ?_, amm rfl⟩
       . simp only [amt, amJ, aof] at ht
         rcases ht with rfl | rfl
         . exact hW0 _ _ _ (amo _) (amo _) (by rw [amv]; simp)
         . refine hL0 _ _ _ _ rfl ?_ y0.b (by rw [amv, anx]; omega)
           rw [amv]; omega
       . show jD ws _ _ _ _ = jD ws (jw R (Fb _)) _ _ _ ++ (jD ws (jw R (G9 _)) _ _ _ ++ [])
         rw [amH, jE, eW, oA hqn hn]
         rfl
       . show 3 ^ kH (jw R (G9 _)) + (3 ^ kH (jw R (Fb _)) + 0) < _
         rw [jE, eW, bF, bF, amB, am8]
         have a1 : 3 ^ kH (R.drop (i + 1)) <= 3 ^ ((R.getD i []).length - (j + 1) + 1 + kH (R.drop (i + 1))) := an6 y0.g y0.b
         have a2 : 3 ^ ((R.getD i []).length - (j + 1) + 1 + 1 + kH (R.drop (i + 1))) = 3 ^ ((R.getD i []).length - (j + 1) + 1 + kH (R.drop (i + 1))) * 3 := by rw [← Nat.pow_succ]; congr 1; omega
         have a3 : 0 < 3 ^ ((R.getD i []).length - (j + 1) + 1 + kH (R.drop (i + 1))) := Nat.pow_pos y0.g
         omega
def aN (s : List Int) (k : Int) : Int := if s.length = 0 then k else s.getD (k % (s.length : Nat)).toNat 0 % 10 ^ (36 : Int).toNat / (1 + k / (s.length : Nat)) + k / (s.length : Nat) * k
theorem oB (s : List Int) {k : Int} (h : 0 <= k) : 0 <= aN s k := by
 unfold aN
 by_cases e : s.length = 0
 . rw [aml e]; exact h
 . rw [amg e]
   have t0 : 0 <= k / (s.length : Nat) := Int.ediv_nonneg h y0.b
   have m0 := amN (s.getD (k % (s.length : Nat)).toNat 0) (b := 10 ^ (36 : Int).toNat) y0.g
   have := Int.ediv_nonneg m0 (b := 1 + k / (s.length : Nat)) y0.b
   have := Int.mul_nonneg t0 h
   omega
abbrev Fe : Stmt := top 37
abbrev Lp : Type := List Int × Int
def fQ : Lp -> List L3.D := fun (s, k) => [.lst (s.map .int), .int k]
def bG : Lp -> Prop := fun (s, k) => 0 <= k /\ k <= 100000 /\ s.length <= 1000
def fE : Lp -> T := fun (s, k) => (.sh (.int (aN s k)) : T)
structure acK (X : Cx) (CL : Str -> Addr) : Prop extends dJ X where
 aU : Ln X 0 "script"
 lU : Ln X 1 "k"
 pI : Ln X 2 "turn"
 cO : Gl X "len"
 cJ : X.mg "len" = none
theorem acL {X : Cx} {CL : Str -> Addr} {b : Bx} (E : acK X CL) (s k) (h : bG (s, k)) :
   aR X CL b Fe ["script", "k", "turn"] (fQ (s, k)) (fE (s, k)) := by
 dsimp only [aR, bG, fQ, fE] at h ⊢
 obtain ⟨k0, k1, hl⟩ := h
 refine dU (fj y0.bZ (ah av)).1 (fun hp => ?_) (fun hp => aK ?_)
 . have e : s.length = 0 := by
     have := amC hp
     omega
   refine cg (v_ E.lU.1) ?_
   show T.sh _ = T.sh (.int (aN s k))
   unfold aN
   rw [aml e]
 . have e : ¬ s.length = 0 := by
     have := amR hp
     omega
   have t0 : 0 <= k / (s.length : Nat) := Int.ediv_nonneg k0 y0.b
   have t1 : k / (s.length : Nat) <= k := Int.ediv_le_self _ k0
   have b1 := amN k (b := (s.length : Nat)) y0.b
   have b2 := amA k (b := (s.length : Nat)) y0.b
   refine bq E.g E.pI (cY y0.aT y0.bZ (⟨by omega, by omega⟩)) ?_
   refine cg (b8 (ah (cY (ah (bO (cB y0.an (ah (bO y0.aT y0.bZ y0.b)) (gy b1 b2)) y0.aB y0.g)) (ah (b8 (ah av) (aP E.pI))) (⟨by omega, by omega⟩))) (ah (zO (aP E.pI) y0.aT (.inr ⟨by omega, by omega⟩)))) ?_
   show T.sh _ = T.sh (.int (aN s k))
   unfold aN
   rw [amg e]
theorem zj : n9 (aF Fe) ([("script", aJ), ("k", aJ), ("turn", aJ), ("len", aH)]) = true := by decide +kernel
theorem Oj : bC ["script", "k", "turn"] ["script", "k"] (aF Fe) := bJ
def lu (s : List Int) : Int := aN s 0 / 9 % 3
theorem acM (s : List Int) : 0 <= lu s /\ lu s < 3 := ⟨amN _ y0.g, amA _ y0.g⟩
def Qu : List Int := [-1, 0, 1, 1, 0, 4, 4, 0, 7]
def Qv : List Int := [-1, 0, 1, 2, 2, 1, 5, 5, 0]
def RW (s es : List Int) (j : Nat) : Int := aN s (1 + (j : Int)) % (((iO es j).length : Int) + 1)
theorem UG (s es : List Int) (j : Nat) : 0 <= RW s es j /\ RW s es j <= ((iO es j).length : Int) := by
 have a := amN (aN s (1 + (j : Int))) (b := ((iO es j).length : Int) + 1) y0.b
 have b := amA (aN s (1 + (j : Int))) (b := ((iO es j).length : Int) + 1) y0.b
 unfold RW
 omega
def Ff (s : List Int) : Nat -> List Int
 | 0 => [-1]
 | j + 1 => Ff s j ++ [Kn (Ff s j) j (RW s (Ff s j) j).toNat]
theorem UH : yp [-1] := ⟨fun k hk => by
   have : k = 0 := by simpa using hk
   subst this
   exact ⟨Int.le_refl _, show (-1 : Int) < ((0 : Nat) : Int) by decide⟩, fun k hk => by simp at hk⟩
theorem Lq (s : List Int) : ∀ j, (Ff s j).length = j + 1 /\ yp (Ff s j)
 | 0 => ⟨rfl, UH⟩
 | j + 1 => by
   obtain ⟨h1, h2⟩ := Lq s j
   refine ⟨by show (Ff s j ++ _).length = _; rw [amv, h1]; rfl, ?_⟩
   have hu := UG s (Ff s j) j
   exact h2.snoc h1.symm (E1 y0.b)
def afV (es : List Int) : Bool := (List.range es.length).all (fun k => decide (-1 <= es.getD k 0) && decide (es.getD k 0 < (k : Int))) && (List.range (es.length - 1)).all (fun k => decide (es.getD (k + 1) 0 = (k : Int)) || decide (es.getD (k + 1) 0 ∈ iO es k))
theorem Ym {es : List Int} (h : afV es = true) : yp es := by
 unfold afV at h
 rw [am1, ano, ano] at h
 refine ⟨fun k hk => ?_, fun k hk => ?_⟩
 . have := h.1 k (amZ.mpr hk)
   simpa using this
 . have := h.2 k (amZ.mpr y0.b)
   simpa using this
def lW (s : List Int) (n : Nat) : List Int := if 0 < lu s then (if lu s = 1 then Qu else Qv).take n else Ff s (n - 1)
theorem Ol (s : List Int) {n : Nat} (h1 : 1 <= n) (h9 : n <= 9) : (lW s n).length = n /\ yp (lW s n) := by
 unfold lW
 split
 . have : n = 1 \/ n = 2 \/ n = 3 \/ n = 4 \/ n = 5 \/ n = 6 \/ n = 7 \/ n = 8 \/ n = 9 := by omega
   split <;> rcases this with rfl | rfl | rfl | rfl | rfl | rfl | rfl | rfl | rfl <;> exact ⟨by decide +kernel, Ym y0.a⟩
 . obtain ⟨a, b⟩ := Lq s (n - 1)
   exact ⟨by omega, b⟩
theorem Qw {α : Type} {l : List α} {k : Nat} (h : k <= l.length) : cutD l none (some (k : Int)) = l.take k := by
 unfold cutD
 have e1 : HT.B4 l.length 0 none = 0 := rfl
 have e2 : HT.B4 l.length l.length (some (k : Int)) = k := by
   unfold HT.B4
   simp
   split <;> omega
 rw [e1, e2]
 simp
abbrev vm : Stmt := top 39
abbrev An : Type := List Int × Nat
def pJ : An -> List L3.D := fun (s, n) => [.lst (s.map .int), .int n]
def ly : An -> Prop := fun (s, n) => 1 <= n /\ n <= 9 /\ s.length <= 1000
def pK : An -> T := fun (s, n) => (.lst (((lW s n).map .int).map T.sh) : T)
structure UI (X : Cx) (CL : Str -> Addr) : Prop extends dJ X where
 aU : Ln X 0 "script"
 d8 : Ln X 1 "many"
 pL : Ln X 2 "style"
 bN : Ln X 3 "elders"
 vn : Ln X 4 "depths"
 lU : Ln X 5 "k"
 iF : Ln X 6 "at"
 acN : Ln X 7 "step"
 bf : Gl X "_law_cell"
 bP : Gl X "range"
 c7 : Fc X CL "_law_cell" 1 2 fQ bG fE
 bQ : X.mg "range" = none
theorem UJ {X : Cx} {CL : Str -> Addr} {b : Bx} (E : UI X CL) (s n) (h : ly (s, n)) :
   aR X CL b vm ["script", "many", "style", "elders", "depths", "k", "at", "step"] (pJ (s, n)) (pK (s, n)) := by
 dsimp only [aR, ly, pJ, pK] at h ⊢
 obtain ⟨n1, n2, hs⟩ := h
 refine bq E.g E.pL (bz y0.bM (t2 := .sh (.int (lu s))) rfl) ?_
 obtain ⟨y0, y1⟩ := acM s
 refine dU (HK (aP E.pL) (ah av)).1 (fun hp => ?_) (fun hp => aK ?_)
 . have hp := amC hp
   have DR : uN [L3.D.lst (Qu.map .int), .lst (Qv.map .int)] (lu s - 1) = some (.lst ((if lu s = 1 then Qu else Qv).map .int)) := by
     have : lu s = 1 \/ lu s = 2 := by omega
     rcases this with e | e
     . rw [aml e, e]; rfl
     . rw [amg y0.b, e]; rfl
   have hfr : T.eF (.lst [.lst ((Qu.map L3.D.int).map T.sh), .lst ((Qv.map L3.D.int).map T.sh)]) = .lst [L3.D.lst (Qu.map .int), .lst (Qv.map .int)] := by
     rw [T.eF, T.dQ, T.dQ, T.dQ, eB, eB]
   have T8 : n <= ((if lu s = 1 then Qu else Qv).map L3.D.int).length := by
     rw [amh]
     split <;> exact n2
   refine cg (Ti (cB (gU (SX (cL (bu (cL (EI rfl) (aM rfl)) (bu (cL (EI rfl) (aM rfl)) b9)) (aM rfl))) hfr) (ah (m8 (aP E.pL) (ah av))) DR) (fP _) Xe (Xf (aP E.d8))) ?_
   rw [Qw T8]
   show T.lst _ = T.lst (((lW s n).map .int).map T.sh)
   unfold lW
   rw [aml hp]
   simp [List.map_take]
 have hp := amR hp
 show fD X CL b _ _ { nx := _, rt := fun K9 _ => K9 = T.lst (((lW s n).map .int).map T.sh), bk := _, ct := _ }
 rw [show lW s n = Ff s (n - 1) by unfold lW; rw [amg hp]]
 refine bq E.g E.bN (kM (aG (k9 (ah av)) bE) (aM rfl)) ?_
 refine bq E.g E.vn (kM (aG av bE) (aM rfl)) ?_
 refine kF E.g E.lU (fun j δ => ∃ o5 o6 o7, δ = [some y0.G, some (.sh (.int n)), some (.sh (.int (lu s))), some (.lst (((Ff s j).map .int).map T.sh)), some (.lst (((Lj (Ff s j) (j + 1)).map .int).map T.sh)), o5, o6, o7])
   (Dz E.bQ (ah av) (aP E.d8) y0.b E.bP) ⟨_, _, _, rfl⟩ (fun j δ ⟨_, _, _, e⟩ => by subst e; exact amm rfl) ?turn ?fin
 case turn =>
   rintro j d δ hj ⟨o5, o6, o7, rfl⟩
   obtain ⟨rfl, qi⟩ := gA hj
   obtain ⟨hl, hp⟩ := Lq s j
   have hu := UG s (Ff s j) j
   have est : Ff s (j + 1) = Ff s j ++ [Kn (Ff s j) j (RW s (Ff s j) j).toNat] := rfl
   show fD X CL b _ _ { nx := fun δ => ∃ o5 o6 o7, δ = [_, _, _, some (.lst (((Ff s (j + 1)).map .int).map T.sh)), some (.lst (((Lj (Ff s (j + 1)) (j + 1 + 1)).map .int).map T.sh)), o5, o6, o7], rt := _, bk := _, ct := _ }
   rw [est]
   generalize hes : Ff s j = es at hl hp hu ⊢
   have ht := hp.1
   have hdl : (Lj es (j + 1)).length = j + 1 := by simp [Lj]
   have hcl : ((iO es (j : Int)).length : Nat) <= es.length + 1 := EZ _ _ _
   have dj : (Lj es (j + 1)).getD (j : Int).toNat 0 = ((iO es (j : Int)).length : Int) := by
     rw [amS]
     exact Uw es y0.b
   refine bq E.g E.iF (bz (m8 y0.aT (ah av)) (congrArg (fun z => T.sh (.int z)) (show (1 + (j : Int)) - 1 = j by omega))) ?_
   have hgu : aN s (1 + (j : Int)) % ((Lj es (j + 1)).getD (j : Int).toNat 0 + 1) = RW s es j := by rw [dj]; rfl
   refine kF E.g E.acN (fun i δ => ∃ o7, δ = [some y0.G, some (.sh (.int n)), some (.sh (.int (lu s))), some (.lst ((es.map .int).map T.sh)), some (.lst (((Lj es (j + 1)).map .int).map T.sh)), some (.sh (.int (1 + (j : Int)))), some (.sh (.int (Kn es j i))), o7])
     (dI E.bQ (gU (ah (bO (ah (c_ ((s, 1 + (j : Int))) E.c7 E.bf (aj y0.an (aj y0.aT aV)) y0.e rfl)) (ah (b8 (cB (vL E.vn.1) (aP E.iF) (gy y0.b y0.b)) (ah av))) ((by rw [dj]; omega)))) (congrArg L3.D.int hgu)) y0.b E.bP) ⟨_, rfl⟩ (fun j δ ⟨_, e⟩ => by subst e; exact Nat.le_of_ble_eq_true rfl) ?afW ?fin2
   case afW =>
     rintro i d δ hi ⟨o7, rfl⟩
     obtain ⟨rfl, hil⟩ := gA hi
     obtain ⟨⟨x0, x1⟩, x2⟩ := Iv ht (j + 1) (m := (j : Int)) (n := i) y0.b y0.b y0.b y0.b
     refine bq E.g E.iF (bz (gS (cB (vL E.bN.1) (aP E.iF) (gy y0.b y0.b)) rfl) (congrArg (fun z => T.sh (.int z)) x2)) (aK ⟨_, rfl⟩)
   case fin2 =>
     rintro δ ⟨o7, rfl⟩
     have e0 : (bM 0 (RW s es j).toNat).length = (RW s es j).toNat := by simp [bM]
     rw [e0]
     have hb : 0 <= Kn es j (RW s es j).toNat /\ Kn es j (RW s es j).toNat < es.length := by
       rcases E1 (es := es) (m := (j : Int)) (n := (RW s es j).toNat) y0.b with z | z
       . rw [z]; omega
       . have := zf ht (m := (j : Int)) y0.b y0.b z
         omega
     generalize Kn es j (RW s es j).toNat = x at hb ⊢
     refine jq E.bN.1 rfl (v_ E.iF.1) rfl y0.O ?_
     have dx : (Lj es (j + 1)).getD x.toNat 0 = ((iO es x).length : Int) := by
       have := Uw es (n := j + 1) (i := x.toNat) y0.b
       rw [this, show ((x.toNat : Nat) : Int) = x by omega]
     refine jq E.vn.1 rfl (bz (b8 (cB (vL E.vn.1) (aP E.iF) (gy y0.b y0.b)) (ah av)) (congrArg (fun z => T.sh (.int (z + 1))) dx)) rfl y0.O (aK ?_)
     have e1 : ((es.map L3.D.int).map T.sh) ++ [T.sh (.int x)] = ((es ++ [x]).map L3.D.int).map T.sh := by simp
     have e2 : (((Lj es (j + 1)).map L3.D.int).map T.sh) ++ [T.sh (.int (((iO es x).length : Int) + 1))] = ((Lj (es ++ [x]) (j + 1 + 1)).map L3.D.int).map T.sh := by
       rw [← hl, Uy ht hb.1 hb.2]
       simp
     rw [e1, e2]
     exact ⟨_, _, _, rfl⟩
 case fin =>
   rintro δ ⟨o5, o6, o7, rfl⟩
   refine cg (vM E.bN.1) ?_
   have e : (bM 1 ((n : Int) - 1).toNat).length = n - 1 := by simp [bM]
   rw [e]
theorem fY : n9 (aF vm) ([("script", aJ), ("many", aJ), ("style", aJ), ("elders", aJ), ("depths", aJ), ("k", aJ), ("at", aJ), ("step", aJ), ("_law_cell", aH), ("range", aH)]) = true := by decide +kernel
theorem DS : bC ["script", "many", "style", "elders", "depths", "k", "at", "step"] ["script", "many"] (aF vm) := bJ
def Yn (s : List Int) (k : Nat) : Str := if 0 < lu s then (["one", "all"] : List Str).getD (if (k : Int) = lu s - 1 then 1 else 0) Str.empty else (["all", "one", "one"] : List Str).getD ((aN s k / 13 + k) % 3).toNat Str.empty
def kE (s es : List Int) (k : Nat) : Str := if (k : Int) ∈ es then Yn s k else "leaf"
def Fg (s es : List Int) (n : Nat) : List Str := (List.range n).map (kE s es)
theorem Fi (s es : List Int) (n : Nat) : (Fg s es n).length = n := by simp [Fg]
theorem acO (s es : List Int) {n k : Nat} (h : k < n) : (Fg s es n).getD k Str.empty = kE s es k := by
 unfold Fg
 rw [amk, amT, anr h]
 rfl
theorem acP (s : List Int) (k : Nat) : Yn s k = "all" \/ Yn s k = "one" := by
 unfold Yn
 split
 . split
   . exact .inl rfl
   . exact .inr rfl
 . have a := amN (aN s k / 13 + k) (b := 3) y0.g
   have b := amA (aN s k / 13 + k) (b := 3) y0.g
   have : ((aN s k / 13 + k) % 3).toNat = 0 \/ ((aN s k / 13 + k) % 3).toNat = 1 \/ ((aN s k / 13 + k) % 3).toNat = 2 := by omega
   rcases this with e | e | e
   . rw [e]; exact .inl rfl
   . rw [e]; exact .inr rfl
   . rw [e]; exact .inr rfl
theorem afX (s es : List Int) (k : Nat) : ((k : Int) ∈ es /\ (kE s es k = "all" \/ kE s es k = "one")) \/ ((k : Int) ∉ es /\ kE s es k = "leaf") := by
 unfold kE
 split
 . rename_i h
   exact .inl ⟨h, acP s k⟩
 . rename_i h
   exact .inr ⟨h, rfl⟩
theorem Om (s es : List Int) : aaI (Fg s es es.length) es := fun k hk e => by
 rw [acO s es hk] at e
 rcases afX s es k with ⟨h, _⟩ | ⟨_, e2⟩
 . exact acG h
 . rw [e2] at e
   exact absurd e y0.a
abbrev zk : Stmt := top 40
abbrev Fj : Type := List Int × List Int
def rY : Fj -> List L3.D := fun (s, es) => [.lst (s.map .int), .lst (es.map .int)]
def oE : Fj -> Prop := fun (s, es) => es.length <= 900 /\ s.length <= 1000
def rZ : Fj -> T := fun (s, es) => (.lst (((Fg s es es.length).map .str).map T.sh) : T)
structure Yo (X : Cx) (CL : Str -> Addr) : Prop extends dJ X where
 aU : Ln X 0 "script"
 bN : Ln X 1 "elders"
 pL : Ln X 2 "style"
 fL : Ln X 3 "kinds"
 lU : Ln X 4 "k"
 Fl : Ln X 5 "kind"
 bf : Gl X "_law_cell"
 bP : Gl X "range"
 cO : Gl X "len"
 DT : Gl X "int"
 c7 : Fc X CL "_law_cell" 1 2 fQ bG fE
 bQ : X.mg "range" = none
 cJ : X.mg "len" = none
 DU : X.mg "int" = none
theorem Yp {X : Cx} {CL : Str -> Addr} {b : Bx} (E : Yo X CL) (s es) (h : oE (s, es)) :
   aR X CL b zk ["script", "elders", "style", "kinds", "k", "kind"] (rY (s, es)) (rZ (s, es)) := by
 dsimp only [aR, oE, rY, rZ] at h ⊢
 obtain ⟨hl, hs⟩ := h
 refine bq E.g E.pL (bz y0.bM (t2 := .sh (.int (lu s))) rfl) ?_
 refine bq E.g E.fL y0.aU ?_
 refine kF E.g E.lU (fun j δ => ∃ o4 o5, δ = [some y0.G, some y0.ap, some (.sh (.int (lu s))), some (.lst (((Fg s es j).map .str).map T.sh)), o4, o5])
   (dI E.bQ (ah y0.aD) y0.b E.bP) ⟨_, _, rfl⟩ (fun j δ ⟨_, _, e⟩ => by subst e; exact amm rfl) ?turn ?fin
 case turn =>
   rintro j d δ hj ⟨o4, o5, rfl⟩
   obtain ⟨rfl, qi⟩ := gA hj
   rw [anp]
   have Yq := Fi s es j
   have eK : ∀ x : Str, x = kE s es j -> ((Fg s es j).map L3.D.str).map T.sh ++ [T.sh (.str x)] = ((Fg s es (j + 1)).map L3.D.str).map T.sh := fun x e => by
     subst e
     simp [Fg, anI]
   refine bq E.g E.Fl (gS (cB (bY (kM (aG bS (aG bS (aG bS bE))) (aM rfl))) (ah (bO (ah (b8 (ah (cY (ah (c_ ((s, (j : Int))) E.c7 E.bf (aj y0.an (aj y0.aT aV)) (by dsimp only [bG]; exact (⟨by omega, by omega, by omega⟩)) rfl)) (ah av) ⟨by decide, by decide⟩)) y0.aT)) (ah av) y0.g)) (iW (f := L3.D.str) (l := ["all", "one", "one"]) Str.empty (Int.emod_nonneg _ y0.g) (Int.emod_lt_of_pos _ y0.g))) rfl) ?_
   refine zR (fun δ => δ = [some y0.G, some y0.ap, some (.sh (.int (lu s))), some (.lst (((Fg s es j).map .str).map T.sh)), some (.sh (.int j)), some (.sh (.str (Yn s j)))]) (HK (aP E.pL) (ah av)).1 (fun hp => ?_) (fun hp => ?_) ?_
   . have hp := amC hp
     refine bq E.g E.Fl (bz (gS (cB (ds := (["one", "all"] : List Str).map .str) (bY (kM (aG bS (aG bS bE)) (aM rfl))) (ah (Xi E.DU (ah ((fj y0.aT (ah (m8 (aP E.pL) (ah av)))).2)) E.DT)) (iW (f := L3.D.str) Str.empty (by split <;> omega) (by show (if _ then (1 : Int) else 0) < ((2 : Nat) : Int); split <;> omega))) rfl) (t2 := .sh (.str (Yn s j))) ?_) (aK rfl)
     unfold Yn
     rw [aml hp]
     by_cases e : (j : Int) = lu s - 1
     . rw [aml e, aml (anC e)]; rfl
     . rw [if_neg e, if_neg y0.aP]; rfl
   . have hp := amR hp
     refine aK ?_
     unfold Yn
     rw [amg hp]
     rfl
   rintro δ rfl
   refine zR (fun δ => δ = [some y0.G, some y0.ap, some (.sh (.int (lu s))), some (.lst (((Fg s es j).map .str).map T.sh)), some (.sh (.int j)), some (.sh (.str (kE s es j)))]) (yZ (l := es) y0.aT (aP E.bN) rfl rfl).1 (fun hp => ?_) (fun hp => ?_) ?_
   . have e : ¬ (j : Int) ∈ es := by
       rw [Bool.not_eq_true'] at hp
       exact amR hp
     rw [show kE s es j = "leaf" by unfold kE; rw [amg e]]
     exact bq E.g E.Fl bS (aK rfl)
   . have e : (j : Int) ∈ es := by
       rw [Bool.not_eq_false'] at hp
       exact amC hp
     rw [show kE s es j = Yn s j by unfold kE; rw [aml e]]
     exact aK rfl
   rintro δ rfl
   refine jq E.fL.1 rfl (v_ E.Fl.1) rfl y0.O (aK ?_)
   rw [eK _ rfl]
   exact ⟨_, _, rfl⟩
 case fin =>
   rintro δ ⟨o4, o5, rfl⟩
   have e : (bM 0 (es.length : Int).toNat).length = es.length := by simp [bM]
   rw [e]
   exact cg (vM E.fL.1) rfl
theorem gY : n9 (aF zk) ([("script", aJ), ("elders", aJ), ("style", aJ), ("kinds", aJ), ("k", aJ), ("kind", aJ), ("_law_cell", aH), ("range", aH), ("len", aH), ("int", aH)]) = true := by decide +kernel
theorem II : bC ["script", "elders", "style", "kinds", "k", "kind"] ["script", "elders"] (aF zk) := bJ
abbrev pM : Stmt := top 41
abbrev t6 : Type := List Int × Int
def iZ : t6 -> List L3.D := fun (es, m) => [.lst (es.map .int), .int m]
def fM : t6 -> Prop := fun (es, m) => es.length <= 1000
def gM : t6 -> T := fun (es, m) => (.lst (((Ae es m).map .int).map T.sh) : T)
structure Lr (X : Cx) (CL : Str -> Addr) : Prop extends dJ X where
 bN : Ln X 0 "elders"
 Ao : X.env.kindOf "elders" = some .cell
 t7 : Ln X 1 "mood"
 acQ : X.env.kindOf "mood" = some .cell
 bP : Gl X "range"
 cO : Gl X "len"
 bQ : X.mg "range" = none
 cJ : X.mg "len" = none
theorem Ls {X : Cx} {CL : Str -> Addr} {b : Bx} (E : Lr X CL) (es m) (h : fM (es, m)) :
   aR X CL b pM ["elders", "mood"] (iZ (es, m)) (gM (es, m)) := by
 dsimp only [aR, fM, iZ, gM] at h ⊢
 refine cg (vd (p := fun d => decide (es.getD d.sV.toNat 0 = m)) (g := fun d => T.sh d) (c6 (.cons E.bN.1 (.inl E.Ao) (.cons E.t7.1 (.inl E.acQ) .nil)) y0.a) E.g.calm
   (dI E.bQ (ah y0.aD) y0.b E.bP) y0.bn (fun C s0 H0 f0 b' d hd => ?Fo) y0.Q) ?eq
 case Fo =>
   obtain ⟨i, hi, rfl⟩ := amI.mp hd
   have Kh : i < es.length := by simpa using hi
   exact ⟨(fj (cB y0.bN y0.bJ (gy (show (0 : Int) <= 0 + (i : Int) by omega) (show 0 + (i : Int) < es.length by omega))) y0.bR).1, fun _ => v_ (eN (i := 0) rfl y0.a)⟩
 case eq =>
   refine congrArg T.lst ?_
   unfold bM Ae
   rw [List.filter_map, amO, amO, amO, amS]
   have e1 : ((fun d : L3.D => decide (es.getD d.sV.toNat 0 = m)) ∘ fun i : Nat => L3.D.int (0 + (i : Int))) = fun i : Nat => decide (es.getD i 0 = m) := by
     funext i
     show decide (es.getD (0 + (i : Int)).toNat 0 = m) = _
     rw [anp, amS]
   rw [e1]
   congr 1
   funext i
   show T.sh (.int (0 + (i : Int))) = T.sh (.int i)
   rw [anp]
theorem iP : n9 (aF pM) ([("elders", .cell), ("mood", .cell), ("range", aH), ("len", aH)]) = true := by decide +kernel
theorem yq : bC ["elders", "mood"] ["elders", "mood"] (aF pM) := bJ
def Yr (s es : List Int) (ks : List Str) (base : Int) (k : Nat) : Int := if ks.getD k Str.empty = "one" then (Ae es k).getD (aN s (base + k) % ((Ae es k).length : Nat)).toNat 0 else -1
def Oo (s es : List Int) (ks : List Str) (base : Int) (n : Nat) : List Int := (List.range n).map (Yr s es ks base)
theorem Oq (s es : List Int) (ks : List Str) (base : Int) (n : Nat) : (Oo s es ks base n).length = n := by simp [Oo]
abbrev vo : Stmt := top 42
abbrev Aq : Type := List Int × List Int × List Str × Int
def lz : Aq -> List L3.D := fun (s, es, ks, base) => [.lst (s.map .int), .lst (es.map .int), .lst (ks.map .str), .int base]
def iG : Aq -> Prop := fun (s, es, ks, base) => es.length <= 900 /\ s.length <= 1000 /\ ks.length = es.length /\ aaI ks es /\ 0 <= base /\ base <= 5000
def lA : Aq -> T := fun (s, es, ks, base) => (.lst (((Oo s es ks base es.length).map .int).map T.sh) : T)
structure UK (X : Cx) (CL : Str -> Addr) : Prop extends dJ X where
 aU : Ln X 0 "script"
 bN : Ln X 1 "elders"
 fL : Ln X 2 "kinds"
 acR : Ln X 3 "base"
 gD : Ln X 4 "chosen"
 lU : Ln X 5 "k"
 t8 : Ln X 6 "near"
 bP : Gl X "range"
 cO : Gl X "len"
 pN : Gl X "_law_inner"
 bf : Gl X "_law_cell"
 bQ : X.mg "range" = none
 cJ : X.mg "len" = none
 t9 : Fc X CL "_law_inner" 1 2 iZ fM gM
 c7 : Fc X CL "_law_cell" 1 2 fQ bG fE
theorem UL {X : Cx} {CL : Str -> Addr} {b : Bx} (E : UK X CL) (s es ks base) (h : iG (s, es, ks, base)) :
   aR X CL b vo ["script", "elders", "kinds", "base", "chosen", "k", "near"] (lz (s, es, ks, base)) (lA (s, es, ks, base)) := by
 dsimp only [aR, iG, lz, lA] at h ⊢
 obtain ⟨hl, hs, hk, ho, b0, b1⟩ := h
 refine bq E.g E.gD y0.aU ?_
 refine kF E.g E.lU (fun j δ => ∃ o o', δ = [some y0.G, some y0.ap, some (.sh (.lst (ks.map .str))), some (.sh (.int base)), some (.lst (((Oo s es ks base j).map .int).map T.sh)), o, o'])
   (dI E.bQ (ah y0.aD) y0.b E.bP) ⟨_, _, rfl⟩ (fun j δ ⟨_, _, e⟩ => by subst e; exact amm rfl) ?turn ?fin
 case turn =>
   rintro j d δ hj ⟨o, o', rfl⟩
   obtain ⟨rfl, qi⟩ := gA hj
   rw [anp]
   have hcl := Oq s es ks base j
   have hml : ((Ae es (j : Int)).map L3.D.int).length = (Ae es (j : Int)).length := by simp
   have eK : ∀ x : Int, x = Yr s es ks base j -> ((Oo s es ks base j).map L3.D.int).map T.sh ++ [T.sh (.int x)] = ((Oo s es ks base (j + 1)).map L3.D.int).map T.sh := fun x e => by
     subst e
     simp [Oo, anI]
   refine bq E.g E.t8 (c_ ((es, (j : Int))) E.t9 E.pN (aj (aP E.bN) (aj y0.aT aV)) ((by dsimp only [fM]; omega)) (cT _)) ?_
   rw [show gM (es, (j : Int)) = T.lst (((Ae es (j : Int)).map .int).map T.sh) from rfl]
   refine dU (iC (cB (aP E.fL) y0.aT (iW Str.empty y0.b y0.b)) (ah bS)).1 (fun hp => ?_) (fun hp => ?_)
   . have e : ks.getD j Str.empty = "one" := amC hp
     have afY : 0 < (Ae es (j : Int)).length := List.length_pos_iff.mpr (ho j y0.b e)
     have c1 := amN (aN s (base + (j : Int))) (b := ((Ae es (j : Int)).length : Nat)) y0.b
     have c2 := amA (aN s (base + (j : Int))) (b := ((Ae es (j : Int)).length : Nat)) y0.b
     refine jq E.gD.1 rfl (gS (cB (vL E.t8.1) (ah (bO (ah (c_ ((s, base + (j : Int))) E.c7 E.bf (aj y0.an (aj (ah (b8 (aP E.acR) y0.aT)) aV)) (by dsimp only [bG]; exact (⟨by omega, by omega, by omega⟩)) rfl)) (ah (dg (hml) E.cJ (vL E.t8.1) E.cO)) y0.b)) (gy c1 c2)) rfl) rfl y0.O (aK (aK ?_))
     rw [eK _ (by unfold Yr; rw [aml e])]
     exact ⟨_, _, rfl⟩
   . have e : ¬ ks.getD j Str.empty = "one" := amR hp
     refine jq E.gD.1 rfl (k9 (ah av)) rfl y0.O (aK (aK ?_))
     rw [eK _ (by unfold Yr; rw [amg e])]
     exact ⟨_, _, rfl⟩
 case fin =>
   rintro δ ⟨o, o', rfl⟩
   have e : (bM 0 (es.length : Int).toNat).length = es.length := by simp [bM]
   rw [e]
   exact cg (vM E.gD.1) rfl
theorem fF : n9 (aF vo) ([("script", aJ), ("elders", aJ), ("kinds", aJ), ("base", aJ), ("chosen", aJ), ("k", aJ), ("near", aJ), ("range", aH), ("len", aH), ("_law_inner", aH), ("_law_cell", aH)]) = true := by decide +kernel
theorem DV : bC ["script", "elders", "kinds", "base", "chosen", "k", "near"] ["script", "elders", "kinds", "base"] (aF vo) := bJ
def UM : List Nat := (List.range 26).map (· + 97)
theorem IJ : ("abcdefghijklmnopqrstuvwxyz" : Str).cps.toList = UM := by decide +kernel
def tF (k : Int) : Str := ⟨#[UM.getD k.toNat 0]⟩
def sI (k : Int) : Str := toString k
def Wt (s : List Int) (k : Int) : Str := ([tF (aN s 60 / 3 % 26) ++ sI k, tF (aN s 60 / 3 % 26) ++ sI k ++ tF (aN s 60 / 78 % 26), tF (aN s 60 / 3 % 26) ++ tF (aN s 60 / 78 % 26) ++ sI k] : List Str).getD (aN s 60 % 3).toNat Str.empty
abbrev Fp : Stmt := top 44
abbrev Lv : Type := List Int × Int
def oF : Lv -> List L3.D := fun (s, k) => [.lst (s.map .int), .int k]
def i6 : Lv -> Prop := fun (s, k) => s.length <= 1000 /\ 0 <= k /\ k <= 8
def oG : Lv -> T := fun (s, k) => (.sh (.str (Wt s k)) : T)
structure acS (X : Cx) (CL : Str -> Addr) : Prop extends dJ X where
 aU : Ln X 0 "script"
 lU : Ln X 1 "k"
 bW : Ln X 2 "cell"
 xm : Ln X 3 "letters"
 Ot : Ln X 4 "one"
 UN : Ln X 5 "two"
 bf : Gl X "_law_cell"
 vp : Gl X "str"
 c7 : Fc X CL "_law_cell" 1 2 fQ bG fE
 lB : X.mg "str" = none
theorem acT {X : Cx} {CL : Str -> Addr} {b : Bx} (E : acS X CL) (s k) (h : i6 (s, k)) :
   aR X CL b Fp ["script", "k", "cell", "letters", "one", "two"] (oF (s, k)) (oG (s, k)) := by
 dsimp only [aR, i6, oF, oG] at h ⊢
 obtain ⟨hs, hk0, hk⟩ := h
 refine bq E.g E.bW (c_ ((s, 60)) E.c7 E.bf y0.D y0.e rfl) ?_
 rw [show fE (s, 60) = T.sh (.int (aN s 60)) from rfl]
 have c0 := oB s (k := 60) y0.b
 show fD X CL b _ _ { nx := _, rt := fun K9 _ => K9 = T.sh (.str (Wt s k)), bk := _, ct := _ }
 unfold Wt
 generalize aN s 60 = c at c0 ⊢
 refine bq E.g E.xm bS ?_
 have hl : UM.length = 26 := by decide +kernel
 have m26 := fun m : Int => amN m (show (26 : Int) ≠ 0 by decide)
 have l26 := fun m : Int => amA m (show (0 : Int) < 26 by decide)
 have O4 : ∀ m : Int, (tF m).length = 1 := fun _ => rfl
 have hkk : (sI k).length = 1 /\ k.natAbs.log2 < 1920 := by
   have : k = 0 \/ k = 1 \/ k = 2 \/ k = 3 \/ k = 4 \/ k = 5 \/ k = 6 \/ k = 7 \/ k = 8 := by omega
   rcases this with rfl | rfl | rfl | rfl | rfl | rfl | rfl | rfl | rfl <;> exact ⟨by decide +kernel, by decide +kernel⟩
 refine bq E.g E.Ot (bz (S7 (aP E.xm) y0.bS (by rw [amV]; decide +kernel) (by rw [IJ]; exact Tj 0 (m26 _) (by have := l26 (c / 3); rw [hl]; omega))) (t2 := .sh (.str (tF (c / 3 % 26)))) rfl) ?_
 refine bq E.g E.UN (bz (S7 (aP E.xm) y0.bS (by rw [amV]; decide +kernel) (by rw [IJ]; exact Tj 0 (m26 _) (by have := l26 (c / 78); rw [hl]; omega))) (t2 := .sh (.str (tF (c / 78 % 26)))) rfl) ?_
 have h1 := O4 (c / 3 % 26)
 have h2 := O4 (c / 78 % 26)
 generalize tF (c / 3 % 26) = one at h1 ⊢
 generalize tF (c / 78 % 26) = two at h2 ⊢
 have l1 : (one ++ sI k).length = 2 := by rw [str_len, h1, hkk.1]
 have l2 : (one ++ two).length = 2 := by rw [str_len, h1, h2]
 refine cg (gS (cB (bY (kM (aG y0.aL (aG (qz (ah y0.aL) (aP E.UN) ((by rw [amV]; show (one ++ sI k).length + two.length <= _; omega))) (aG (qz (ah (qz (aP E.Ot) (aP E.UN) ((by rw [amV]; omega)))) (ah (rT E.lB E.vp y0.aT (hkk.2))) ((by rw [amV]; show (one ++ two).length + (sI k).length <= _; omega))) bE))) (aM rfl))) y0.bL (iW (f := L3.D.str) (l := [one ++ sI k, one ++ sI k ++ two, one ++ two ++ sI k]) Str.empty (amN _ y0.g) (amA _ y0.g))) rfl) rfl
theorem mw : n9 (aF Fp) ([("script", aJ), ("k", aJ), ("cell", aJ), ("letters", aJ), ("one", aJ), ("two", aJ), ("_law_cell", aH), ("str", aH)]) = true := by decide +kernel
theorem Ou : bC ["script", "k", "cell", "letters", "one", "two"] ["script", "k"] (aF Fp) := bJ
def Ce (c : Int) : Int := if c % 4 = 1 then c / 4 % (2 * 10 ^ (30 : Int).toNat - 1) - (10 ^ (30 : Int).toNat - 1) else c / 4 % 7 - 3
abbrev vq : Stmt := top 45
abbrev As : Type := Int
def lC : As -> List L3.D := fun a => [.int a]
def lD : As -> Prop := fun a => True
def lE : As -> T := fun a => (.sh (.int (Ce a)) : T)
structure UO (X : Cx) (CL : Str -> Addr) : Prop extends dJ X where
 bW : Ln X 0 "cell"
theorem UQ {X : Cx} {CL : Str -> Addr} {b : Bx} (E : UO X CL) (a) (h : lD a) :
   aR X CL b vq ["cell"] (lC a) (lE a) := by
 dsimp only [aR, lD, lC, lE] at h ⊢
 refine dU (fj y0.bL (ah av)).1 (fun hp => ?_) (fun hp => aK ?_)
 . refine cg (m8 (ah (bO y0.f (ah (m8 (ah (zO (ah av) y0.aB y0.by)) (ah av))) y0.g)) (ah (m8 y0.aB (ah av)))) ?_
   show T.sh _ = T.sh (.int (Ce a))
   unfold Ce
   rw [aml (amC hp)]
 . refine cg (m8 y0.bS (ah av)) ?_
   show T.sh _ = T.sh (.int (Ce a))
   unfold Ce
   rw [amg (amR hp)]
theorem Qx : n9 (aF vq) ([("cell", aJ)]) = true := by decide +kernel
theorem DW : bC ["cell"] ["cell"] (aF vq) := bJ
def yr (c : Int) (n : Nat) : L3.D := .tup [.int (c % ((n : Int) + 1) - 1), .int (Ce (c / 4))]
abbrev Fq : Stmt := top 46
abbrev Lw : Type := Int × Nat
def qI : Lw -> List L3.D := fun (c, n) => [.int c, .int n]
def qJ : Lw -> Prop := fun (c, n) => n <= 1000
def qK : Lw -> T := fun (c, n) => (.sh (.tup [.int (c % ((n : Int) + 1) - 1), .int (Ce (c / 4))]) : T)
structure acU (X : Cx) (CL : Str -> Addr) : Prop extends dJ X where
 bW : Ln X 0 "cell"
 e9 : Ln X 1 "boxes"
 Cg : Gl X "_law_number"
 Au : Fc X CL "_law_number" 1 1 lC lD lE
theorem acV {X : Cx} {CL : Str -> Addr} {b : Bx} (E : acU X CL) (c n) (h : qJ (c, n)) :
   aR X CL b Fq ["cell", "boxes"] (qI (c, n)) (qK (c, n)) := by
 dsimp only [aR, qJ, qI, qK] at h ⊢
 exact cg (bT (aG (m8 (ah (bO (aP E.bW) (ah (b8 (aP E.e9) (ah av))) y0.b)) (ah av)) (aG (c_ (c / 4) E.Au E.Cg (aj y0.f aV) (trivial) rfl) bE)) (aM rfl)) rfl
theorem Ft : n9 (aF Fq) ([("cell", aJ), ("boxes", aJ), ("_law_number", aH)]) = true := by decide +kernel
theorem Ov : bC ["cell", "boxes"] ["cell", "boxes"] (aF Fq) := bJ
def IK (n m : Nat) (c : Int) : L3.D :=
 if c % 3 = 1 then .tup [.str ((["open", "shut"] : List Str).getD (c / 3 % 2).toNat Str.empty), .int (c / 6 % (m : Int))]
 else .tup [.str ((["<", "<=", "=", "!="] : List Str).getD (c / 3 % 4).toNat Str.empty), yr (c / 12) n, yr (c / 48) n]
def Qy (s : List Int) (q : Int) (m n k : Nat) : L3.D := IK n m (aN s (q + 1 + (k : Int)))
def qL (s : List Int) (q : Int) (m n : Nat) : List L3.D := (List.range (aN s q % 3).toNat).map (Qy s q m n)
theorem IL (n m : Nat) (c : Int) : (IK n m c).oW = true := by
 unfold IK
 split <;> rfl
theorem Av (s : List Int) (q : Int) (m n : Nat) : D.cI (qL s q m n) = true := dm (fun k => IL _ _ _) _
theorem Qz (s : List Int) (q : Int) (m n : Nat) : (qL s q m n).length <= 2 := by
 have c1 := amA (aN s q) y0.aV
 unfold qL
 rw [amh, anc]
 omega
abbrev Fv : Stmt := top 48
abbrev Lx : Type := List Int × Int × Nat × Nat
def vt : Lx -> List L3.D := fun (s, q, m, n) => [.lst (s.map .int), .int q, .int m, .int n]
def qM : Lx -> Prop := fun (s, q, m, n) => s.length <= 1000 /\ 0 <= q /\ q <= 90000 /\ n <= 1000 /\ 1 <= m
def vv : Lx -> T := fun (s, q, m, n) => (.sh (.tup (qL s q m n)) : T)
structure acW (X : Cx) (CL : Str -> Addr) : Prop extends dJ X where
 aU : Ln X 0 "script"
 iF : Ln X 1 "at"
 d8 : Ln X 2 "many"
 e9 : Ln X 3 "boxes"
 eO : Ln X 4 "asks"
 lU : Ln X 5 "k"
 bW : Ln X 6 "cell"
 UR : Ln X 7 "mark"
 bP : Gl X "range"
 bf : Gl X "_law_cell"
 j4 : Gl X "_law_term"
 g7 : Gl X "tuple"
 bQ : X.mg "range" = none
 c7 : Fc X CL "_law_cell" 1 2 fQ bG fE
 Aw : Fc X CL "_law_term" 2 2 qI qJ qK
 g8 : X.mg "tuple" = none
theorem acX {X : Cx} {CL : Str -> Addr} {b : Bx} (E : acW X CL) (s q m n) (h : qM (s, q, m, n)) :
   aR X CL b Fv ["script", "at", "many", "boxes", "asks", "k", "cell", "mark"] (vt (s, q, m, n)) (vv (s, q, m, n)) := by
 dsimp only [aR, qM, vt, vv] at h ⊢
 obtain ⟨hs, q0, q1, hn, hm⟩ := h
 refine bq E.g E.eO y0.aU ?_
 have c0 := amN (aN s q) (show (3 : Int) ≠ 0 by decide)
 have c1 := amA (aN s q) y0.aV
 refine kF E.g E.lU (fun j δ => ∃ o5 o6 o7, δ = [some y0.G, some (.sh (.int q)), some (.sh (.int m)), some (.sh (.int n)), some (.lst (((List.range j).map (Qy s q m n)).map T.sh)), o5, o6, o7])
   (dI E.bQ y0.bT ((show -(2 ^ 62) <= aN s q % 3 /\ aN s q % 3 < 2 ^ 62 by omega)) E.bP) ⟨_, _, _, rfl⟩ (fun j δ ⟨_, _, _, e⟩ => by subst e; exact Nat.le_of_ble_eq_true rfl) ?turn ?fin
 case turn =>
   rintro j d δ hj ⟨o5, o6, o7, rfl⟩
   obtain ⟨rfl, qi⟩ := gA hj
   have hj3 : j < 3 := by have qi : j < (aN s q % 3).toNat := qi; omega
   rw [anp]
   have d0 := oB s (k := q + 1 + (j : Int)) y0.b
   refine bq E.g E.bW y0.bQ ?_
   have eK : ∀ x : L3.D, x = Qy s q m n j -> ((List.range j).map (Qy s q m n)).map T.sh ++ [T.sh x] = ((List.range (j + 1)).map (Qy s q m n)).map T.sh := fun x e => by
     subst e
     simp [anI]
   have hd : Qy s q m n j = IK n m (aN s (q + 1 + (j : Int))) := rfl
   generalize aN s (q + 1 + (j : Int)) = c at d0 hd ⊢
   refine dU (fj y0.bL (ah av)).1 (fun hp => ?_) (fun hp => ?_)
   . refine jq E.eO.1 rfl (bT (aG (gS (cB (bY (kM (aG bS (aG bS bE)) (aM rfl))) y0.bS (iW (f := L3.D.str) (l := ["open", "shut"]) Str.empty (amN _ y0.g) (amA _ y0.g))) rfl) (aG (bO y0.f (aP E.d8) y0.b) bE)) (aM rfl)) rfl y0.O (aK (aK ?_))
     rw [eK _ (by rw [hd]; unfold IK; rw [aml (amC hp)])]
     exact ⟨_, _, _, rfl⟩
   . have hp := amR hp
     refine bq E.g E.UR (gS (cB (bY (kM (aG bS (aG bS (aG bS (aG bS bE)))) (aM rfl))) y0.bS (iW (f := L3.D.str) (l := ["<", "<=", "=", "!="]) Str.empty (amN _ y0.g) (amA _ y0.g))) rfl) ?_
     refine jq E.eO.1 rfl (bT (aG (v_ E.UR.1) (aG (bz (c_ ((c / 12, n)) E.Aw E.j4 (aj y0.f (aj (aP E.e9) aV)) (hn) rfl) (t2 := .sh (yr (c / 12) n)) rfl) (aG (bz (c_ ((c / 48, n)) E.Aw E.j4 (aj y0.f (aj (aP E.e9) aV)) (hn) rfl) (t2 := .sh (yr (c / 48) n)) rfl) bE))) (aM rfl)) rfl y0.O (aK (aK ?_))
     rw [eK _ (by rw [hd]; unfold IK; rw [amg hp])]
     exact ⟨_, _, _, rfl⟩
 case fin =>
   rintro δ ⟨o5, o6, o7, rfl⟩
   refine cg (rR E.g8 (vL E.eO.1) (dm (fun k => IL _ _ _) _) E.g7) ?_
   have e : (bM 0 (aN s q % 3).toNat).length = (aN s q % 3).toNat := by simp [bM]
   rw [show (bM 0 (aN (s, q).1 (s, q).2 % 3).toNat).length = (aN s q % 3).toNat from e]
   rfl
theorem g9 : n9 (aF Fv) ([("script", aJ), ("at", aJ), ("many", aJ), ("boxes", aJ), ("asks", aJ), ("k", aJ), ("cell", aJ), ("mark", aJ), ("range", aH), ("_law_cell", aH), ("_law_term", aH), ("tuple", aH)]) = true := by decide +kernel
theorem Ow : bC ["script", "at", "many", "boxes", "asks", "k", "cell", "mark"] ["script", "at", "many", "boxes"] (aF Fv) := bJ
def Ax (s : List Int) (n : Nat) (c : Int) : L3.D :=
 if c % 4 = 1 then .tup [.str "call", .str (Wt s (c / 4 % 4))]
 else if c % 4 = 2 \/ n = 0 then .tup [.str "say", .str (Wt s (c / 4 % 4)), yr (c / 16) n]
 else .tup [.str "put", .int (c / 4 % (n : Int)), yr (c / 16) n]
def DX (s : List Int) (q : Int) (n k : Nat) : L3.D := Ax s n (aN s (q + 1 + (k : Int)))
def iH (s : List Int) (q : Int) (n : Nat) : List L3.D := (List.range (aN s q % 3).toNat).map (DX s q n)
theorem DY (s : List Int) (n : Nat) (c : Int) : (Ax s n c).oW = true := by
 unfold Ax
 split
 . rfl
 . split <;> rfl
theorem j5 (s : List Int) (q : Int) (n : Nat) : D.cI (iH s q n) = true := dm (fun k => DY _ _ _) _
abbrev zl : Stmt := top 47
abbrev Fw : Type := List Int × Int × Nat
def oH : Fw -> List L3.D := fun (s, q, n) => [.lst (s.map .int), .int q, .int n]
def iQ : Fw -> Prop := fun (s, q, n) => s.length <= 1000 /\ 0 <= q /\ q <= 90000 /\ n <= 1000
def oJ : Fw -> T := fun (s, q, n) => (.sh (.tup (iH s q n)) : T)
structure Ys (X : Cx) (CL : Str -> Addr) : Prop extends dJ X where
 aU : Ln X 0 "script"
 iF : Ln X 1 "at"
 e9 : Ln X 2 "boxes"
 jF : Ln X 3 "deeds"
 lU : Ln X 4 "k"
 bW : Ln X 5 "cell"
 qN : Ln X 6 "name"
 bP : Gl X "range"
 bf : Gl X "_law_cell"
 j6 : Gl X "_law_name"
 j4 : Gl X "_law_term"
 g7 : Gl X "tuple"
 bQ : X.mg "range" = none
 c7 : Fc X CL "_law_cell" 1 2 fQ bG fE
 Ay : Fc X CL "_law_name" 2 2 oF i6 oG
 Aw : Fc X CL "_law_term" 2 2 qI qJ qK
 g8 : X.mg "tuple" = none
theorem Yt {X : Cx} {CL : Str -> Addr} {b : Bx} (E : Ys X CL) (s q n) (h : iQ (s, q, n)) :
   aR X CL b zl ["script", "at", "boxes", "deeds", "k", "cell", "name"] (oH (s, q, n)) (oJ (s, q, n)) := by
 dsimp only [aR, iQ, oH, oJ] at h ⊢
 obtain ⟨hs, q0, q1, hn⟩ := h
 refine bq E.g E.jF y0.aU ?_
 have c0 := amN (aN s q) (show (3 : Int) ≠ 0 by decide)
 have c1 := amA (aN s q) y0.aV
 refine kF E.g E.lU (fun j δ => ∃ o4 o5 o6, δ = [some y0.G, some (.sh (.int q)), some (.sh (.int n)), some (.lst (((List.range j).map (DX s q n)).map T.sh)), o4, o5, o6])
   (dI E.bQ y0.bT ((show -(2 ^ 62) <= aN s q % 3 /\ aN s q % 3 < 2 ^ 62 by omega)) E.bP) ⟨_, _, _, rfl⟩ (fun j δ ⟨_, _, _, e⟩ => by subst e; exact Nat.le_of_ble_eq_true rfl) ?turn ?fin
 case turn =>
   rintro j d δ hj ⟨o4, o5, o6, rfl⟩
   obtain ⟨rfl, qi⟩ := gA hj
   have hj3 : j < 3 := by have qi : j < (aN s q % 3).toNat := qi; omega
   rw [anp]
   have d0 := oB s (k := q + 1 + (j : Int)) y0.b
   refine bq E.g E.bW y0.bQ ?_
   have eK : ∀ x : L3.D, x = DX s q n j -> ((List.range j).map (DX s q n)).map T.sh ++ [T.sh x] = ((List.range (j + 1)).map (DX s q n)).map T.sh := fun x e => by
     subst e
     simp [anI]
   have hd : DX s q n j = Ax s n (aN s (q + 1 + (j : Int))) := rfl
   generalize aN s (q + 1 + (j : Int)) = c at d0 hd ⊢
   have m0 := amN (c / 4) (show (4 : Int) ≠ 0 by decide)
   have m1 := amA (c / 4) (show (0 : Int) < 4 by decide)
   refine bq E.g E.qN (bz (c_ ((s, c / 4 % 4)) E.Ay E.j6 (aj y0.an (aj y0.bS aV)) (by dsimp only [i6]; exact (⟨hs, m0, by omega⟩)) rfl) (t2 := .sh (.str (Wt s (c / 4 % 4)))) rfl) ?_
   refine dU (fj y0.bL (ah av)).1 (fun hp => ?_) (fun hp => ?_)
   . refine jq E.jF.1 rfl (bT (aG bS (aG (v_ E.qN.1) bE)) (aM rfl)) rfl y0.O (aK (aK ?_))
     rw [eK _ (by rw [hd]; unfold Ax; rw [aml (amC hp)])]
     exact ⟨_, _, _, rfl⟩
   . have hp := amR hp
     refine dU (k7 (sY (fj y0.bL (ah av)).1 (fun hb => (m9 (fj (aP E.e9) (ah av)).1)))) (fun hq => ?_) (fun hq => ?_)
     . have WK : c % 4 = 2 \/ n = 0 := by
         simp only [Bool.or_eq_true, anE] at hq
         omega
       refine jq E.jF.1 rfl (bT (aG bS (aG (v_ E.qN.1) y0.cc)) (aM rfl)) rfl y0.O (aK (aK (aK ?_)))
       rw [eK _ (by rw [hd]; unfold Ax; rw [amg hp, aml WK])]
       exact ⟨_, _, _, rfl⟩
     . have WK : ¬ (c % 4 = 2 \/ n = 0) := by
         simp only [Bool.or_eq_false_iff, decide_eq_false_iff_not] at hq
         omega
       refine jq E.jF.1 rfl (bT (aG bS (aG (bO y0.f (aP E.e9) y0.b) y0.cc)) (aM rfl)) rfl y0.O (aK (aK (aK ?_)))
       rw [eK _ (by rw [hd]; unfold Ax; rw [amg hp, amg WK])]
       exact ⟨_, _, _, rfl⟩
 case fin =>
   rintro δ ⟨o4, o5, o6, rfl⟩
   refine cg (rR E.g8 (vL E.jF.1) (dm (fun k => DY _ _ _) _) E.g7) ?_
   have e : (bM 0 (aN s q % 3).toNat).length = (aN s q % 3).toNat := by simp [bM]
   rw [show (bM 0 (aN (s, q).1 (s, q).2 % 3).toNat).length = (aN s q % 3).toNat from e]
   rfl
theorem fS : n9 (aF zl) ([("script", aJ), ("at", aJ), ("boxes", aJ), ("deeds", aJ), ("k", aJ), ("cell", aJ), ("name", aJ), ("range", aH), ("_law_cell", aH), ("_law_name", aH), ("_law_term", aH), ("tuple", aH)]) = true := by decide +kernel
theorem IQ : bC ["script", "at", "boxes", "deeds", "k", "cell", "name"] ["script", "at", "boxes"] (aF zl) := bJ
def Az (s : List Int) : Int := aN s 36 % 9
def mz (s : List Int) (m : Nat) : List Int := sortI ((List.range (Az s).toNat).map fun (k : Nat) => aN s (37 + (k : Int)) % (m : Int))
def Ly (es : List Int) (src c : Int) : Int := if 1 < c % 4 then (Ae es y0.aE).getD (c / 4 % ((Ae es y0.aE).length : Nat)).toNat 0 else c / 4 % (es.length : Nat)
def Ci (s : List Int) (c : Int) : Prop := c % 4 = 1 \/ aN s 36 / 9 % 5 = 1
instance (s : List Int) (c : Int) : Decidable (Ci s c) := by unfold Ci; infer_instance
def UT (c : Int) : Str := (["new", "near", "far"] : List Str).getD (c % 3).toNat Str.empty
def Cj (s es : List Int) (n k : Nat) (src : Int) : dw where
 src := src
 sign := Wt s (aN s (200 + 12 * (k : Int)) % (1 + aN s 62 % 3))
 asks := qL s (200 + 12 * (k : Int) + 1) es.length n
 DQ := iH s (200 + 12 * (k : Int) + 4) n
 tgt := if Ci s (aN s (200 + 12 * (k : Int) + 7)) then -1 else Ly es src (aN s (200 + 12 * (k : Int) + 7))
 mode := if Ci s (aN s (200 + 12 * (k : Int) + 7)) then "new" else UT (aN s (200 + 12 * (k : Int) + 8))
def tG (s es : List Int) (n : Nat) : List dw := (List.range (mz s es.length).length).map fun k => Cj s es n k ((mz s es.length).getD k 0)
theorem QB {s : List Int} {m : Nat} (hm : 1 <= m) {x : Int} (h : x ∈ mz s m) : 0 <= x /\ x < m := by
 obtain ⟨k, _, rfl⟩ := amI.mp (P5.mp h)
 exact ⟨amN _ y0.b, amA _ y0.b⟩
theorem DZ (s : List Int) (m : Nat) : (mz s m).length <= 8 := by
 unfold mz
 rw [DF, amh, anc]
 have := amA (aN s 36) (show (0 : Int) < 9 by decide)
 unfold Az
 omega
theorem UU (s es : List Int) (n k : Nat) (src : Int) : (dz (Cj s es n k src)).oW = true := by
 show (true && (true && (D.cI (qL _ _ _ _) && (D.cI (iH _ _ _) && (true && (true && true)))))) = true
 rw [Av, j5]
 rfl
theorem AA (s es : List Int) (n : Nat) : D.cI ((tG s es n).map dz) = true := pA fun d hd => by
 obtain ⟨w, hw, rfl⟩ := amI.mp hd
 obtain ⟨k, _, rfl⟩ := amI.mp hw
 exact UU _ _ _ _ _
abbrev Fx : Stmt := top 49
abbrev Lz : Type := List Int × List Int × Nat
def vz : Lz -> List L3.D := fun (s, es, n) => [.lst (s.map .int), .lst (es.map .int), .int n]
def qO : Lz -> Prop := fun (s, es, n) => s.length <= 1000 /\ 1 <= es.length /\ es.length <= 900 /\ n <= 1000
def vA : Lz -> T := fun (s, es, n) => (.lst (((tG s es n).map dz).map T.sh) : T)
structure acY (X : Cx) (CL : Str -> Addr) : Prop extends dJ X where
 aU : Ln X 0 "script"
 qP : X.env.kindOf "script" = some .cell
 bN : Ln X 1 "elders"
 e9 : Ln X 2 "boxes"
 d8 : Ln X 3 "many"
 acZ : X.env.kindOf "many" = some .cell
 mC : Ln X 4 "count"
 jG : Ln X 5 "names"
 lF : Ln X 6 "ways"
 AF : Ln X 7 "source"
 iF : Ln X 8 "at"
 qN : Ln X 9 "name"
 eO : Ln X 10 "asks"
 jF : Ln X 11 "deeds"
 bW : Ln X 12 "cell"
 vC : Ln X 13 "target"
 t8 : Ln X 14 "near"
 LC : Ln X 15 "mode"
 cO : Gl X "len"
 bf : Gl X "_law_cell"
 AG : Gl X "sorted"
 bP : Gl X "range"
 j6 : Gl X "_law_name"
 IU : Gl X "_law_asks"
 Fy : Gl X "_law_deeds"
 pN : Gl X "_law_inner"
 cJ : X.mg "len" = none
 c7 : Fc X CL "_law_cell" 1 2 fQ bG fE
 AH : X.mg "sorted" = none
 bQ : X.mg "range" = none
 Ay : Fc X CL "_law_name" 2 2 oF i6 oG
 ac0 : Fc X CL "_law_asks" 3 4 vt qM vv
 zm : Fc X CL "_law_deeds" 3 3 oH iQ oJ
 t9 : Fc X CL "_law_inner" 1 2 iZ fM gM
theorem ac1 {X : Cx} {CL : Str -> Addr} {b : Bx} (E : acY X CL) (s es n) (h : qO (s, es, n)) :
   aR X CL b Fx ["script", "elders", "boxes", "many", "count", "names", "ways", "source", "at", "name", "asks", "deeds", "cell", "target", "near", "mode"] (vz (s, es, n)) (vA (s, es, n)) := by
 dsimp only [aR, qO, vz, vA] at h ⊢
 obtain ⟨hs, e0, e1, hn⟩ := h
 refine bq E.g E.d8 (bz y0.aD (t2 := .sh (.int (es.length : Nat))) rfl) ?_
 refine bq E.g E.mC (bz (bO (ah (c_ ((s, 36)) E.c7 E.bf y0.D y0.e rfl)) (ah av) y0.g) (t2 := .sh (.int (Az s))) rfl) ?_
 have c62 := oB s (k := 62) y0.b
 refine bq E.g E.jG (bz (b8 (ah av) (ah (bO (ah (c_ ((s, 62)) E.c7 E.bf y0.D y0.e rfl)) (ah av) y0.g))) (t2 := .sh (.int (1 + aN s 62 % 3))) rfl) ?_
 have n0 := amN (aN s 62) (show (3 : Int) ≠ 0 by decide)
 have n1 := amA (aN s 62) y0.aV
 have k0 : 0 <= Az s := amN (aN s 36) (show (9 : Int) ≠ 0 by decide)
 have k1 : Az s < 9 := amA (aN s 36) (show (0 : Int) < 9 by decide)
 have hsl := DZ s es.length
 have hsm : ∀ {x : Int}, x ∈ mz s es.length -> 0 <= x /\ x < es.length := fun h => QB e0 h
 refine bq E.g E.lF y0.aU ?_
 have hit : (((bM 0 (Az s).toNat).filter fun _ => true).map fun d => T.sh (.int (aN s (37 + d.sV) % (es.length : Nat)))) = ((((List.range (Az s).toNat).map fun (k : Nat) => aN s (37 + (k : Int)) % (es.length : Nat)).map L3.D.int).map T.sh) := by
   rw [e7]
   unfold bM
   rw [amO, amO, amO]
   refine am7 fun k _ => ?_
   show T.sh (.int (aN s (37 + (0 + (k : Int))) % _)) = _
   rw [anp]
   rfl
 refine kF E.g E.AF (fun j δ => ∃ o7 o8 o9 o10 o11 o12 o13 o14 o15, δ = [some y0.G, some y0.ap, some (.sh (.int n)), some (.sh (.int (es.length : Nat))), some (.sh (.int (Az s))), some (.sh (.int (1 + aN s 62 % 3))), some y0.ab, o7, o8, o9, o10, o11, o12, o13, o14, o15])
   (wR (y9 (ds := (mz s es.length).map .int) (K8 E.AH (bY (bz (vd (p := fun _ => true) (g := fun d => T.sh (.int (aN s (37 + d.sV) % (es.length : Nat)))) (c6 (.cons E.d8.1 (.inl E.acZ) (.cons E.aU.1 (.inl E.qP) .nil)) y0.a) E.g.calm (dI E.bQ (aP E.mC) (y0.b) E.bP) y0.bn (fun C s0 H0 f0 b' d hd => ?Fo) y0.Q) (congrArg T.lst hit))) y0.O E.AG))) ⟨_, _, _, _, _, _, _, _, _, rfl⟩ (fun j δ ⟨_, _, _, _, _, _, _, _, _, e⟩ => by subst e; exact amm rfl) ?turn ?fin
 case Fo =>
   obtain ⟨i, hi, rfl⟩ := amI.mp hd
   have Kh : i < (Az s).toNat := by simpa using hi
   exact ⟨rfl, fun _ => (bO (ah (c_ ((s, 37 + (0 + (i : Int)))) (pe E.c7) (g6 y0.a) (aj y0.bR (aj (ah (b8 (ah av) y0.bJ)) aV)) y0.e rfl)) y0.bN y0.b)⟩
 case turn =>
   rintro j d δ hj ⟨o7, o8, o9, o10, o11, o12, o13, o14, o15, rfl⟩
   obtain ⟨src, rfl, DR, TH, qi, _, _⟩ := EG hj
   obtain ⟨x0, x1⟩ := hsm TH
   have Ye : (mz s es.length).getD j 0 = src := by rw [amk, DR]; rfl
   have afZ : ((((List.range j).map fun k => Cj s es n k ((mz s es.length).getD k 0)).map dz)).length = j := by simp
   have eK : ∀ x : L3.D, x = dz (Cj s es n j src) -> ((((List.range j).map fun k => Cj s es n k ((mz s es.length).getD k 0)).map dz).map T.sh) ++ [T.sh x] = ((((List.range (j + 1)).map fun k => Cj s es n k ((mz s es.length).getD k 0)).map dz).map T.sh) := fun x e => by
     subst e
     rw [← Ye]
     simp [anI]
   refine bq E.g E.iF (bz (b8 (ah av) (ah (zO (ah av) (ah (dg (afZ) E.cJ (vL E.lF.1) E.cO)) y0.by))) (t2 := .sh (.int (200 + 12 * (j : Int)))) rfl) ?_
   generalize hw : Cj s es n j src = w at eK
   have hsg : Wt s (aN s (200 + 12 * (j : Int)) % (1 + aN s 62 % 3)) = w.sign := by rw [← hw]; rfl
   have m0 := amN (aN s (200 + 12 * (j : Int))) (show (1 + aN s 62 % 3 : Int) ≠ 0 by omega)
   have m1 := amA (aN s (200 + 12 * (j : Int))) (show (0 : Int) < 1 + aN s 62 % 3 by omega)
   refine bq E.g E.qN (bz (c_ ((s, aN s (200 + 12 * (j : Int)) % (1 + aN s 62 % 3))) E.Ay E.j6 (aj y0.an (aj (ah (bO (ah (c_ ((s, 200 + 12 * (j : Int))) E.c7 E.bf (aj y0.an (aj (aP E.iF) aV)) y0.e rfl)) (aP E.jG) y0.b)) aV)) (by dsimp only [i6]; exact (⟨hs, m0, by omega⟩)) rfl) (t2 := .sh (.str w.sign)) (congrArg (fun z => T.sh (.str z)) hsg)) ?_
   have has : qL s (200 + 12 * (j : Int) + 1) es.length n = w.asks := by rw [← hw]; rfl
   have hde : iH s (200 + 12 * (j : Int) + 4) n = w.DQ := by rw [← hw]; rfl
   refine bq E.g E.eO (bz (c_ (s, 200 + 12 * (j : Int) + 1, es.length, n) E.ac0 E.IU (aj y0.an (aj y0.ak (aj (aP E.d8) (aj (aP E.e9) aV)))) (by dsimp only [qM]; exact ⟨hs, by omega, by omega, hn, e0⟩) (show T.clean (.sh (.tup (qL _ _ _ _))) = true from (Av _ _ _ _))) (t2 := .sh (.tup w.asks)) (congrArg (fun z => T.sh (.tup z)) has)) ?_
   refine bq E.g E.jF (bz (c_ (s, 200 + 12 * (j : Int) + 4, n) E.zm E.Fy (aj y0.an (aj y0.ak (aj (aP E.e9) aV))) (by dsimp only [iQ]; exact ⟨hs, by omega, by omega, hn⟩) y0.aF) (t2 := .sh (.tup w.DQ)) (congrArg (fun z => T.sh (.tup z)) hde)) ?_
   have d0 := oB s (k := 200 + 12 * (j : Int) + 7) y0.b
   refine bq E.g E.bW (bz (c_ ((s, 200 + 12 * (j : Int) + 7)) E.c7 E.bf (aj y0.an (aj y0.ak aV)) y0.e rfl) (t2 := .sh (.int y0.bz)) rfl) ?_
   have htg : w.tgt = if Ci s y0.bz then -1 else Ly es src y0.bz := by rw [← hw]; rfl
   have hmd : w.mode = if Ci s y0.bz then ("new" : Str) else UT (aN s (200 + 12 * (j : Int) + 8)) := by rw [← hw]; rfl
   have hsr : w.src = src := by rw [← hw]; rfl
   generalize aN s (200 + 12 * (j : Int) + 7) = c at d0 htg hmd ⊢
   refine bq E.g E.vC (bO y0.f (aP E.d8) y0.b) ?_
   refine zR (fun δ => ∃ o14, δ = [some y0.G, some y0.ap, some (.sh (.int n)), some (.sh (.int (es.length : Nat))), some (.sh (.int (Az s))), some (.sh (.int (1 + aN s 62 % 3))), some y0.ab, some (.sh (.int src)), some (.sh (.int (200 + 12 * (j : Int)))), some (.sh (.str w.sign)), some (.sh (.tup w.asks)), some (.sh (.tup w.DQ)), some (.sh (.int c)), some (.sh (.int (Ly es src c))), o14, o15]) (HK y0.bL (ah av)).1 (fun hp => ?_) (fun hp => ?_) ?_
   . have hp := amC hp
     have qD : 0 < (Ae es y0.aE).length := List.length_pos_of_mem (Ob x0 x1 rfl)
     refine bq E.g E.t8 (bz (c_ ((es, es.getD src.toNat 0)) E.t9 E.pN (aj (aP E.bN) (aj (cB (aP E.bN) (aP E.AF) (gy x0 x1)) aV)) ((by dsimp only [fM]; omega)) (cT _)) (t2 := T.lst (((Ae es y0.aE).map .int).map T.sh)) rfl) ?_
     have hml : ((Ae es y0.aE).map L3.D.int).length = (Ae es y0.aE).length := by simp
     have c1 := amN (c / 4) (b := ((Ae es y0.aE).length : Nat)) y0.b
     have c2 := amA (c / 4) (b := ((Ae es y0.aE).length : Nat)) y0.b
     refine bq E.g E.vC (bz (gS (cB (vL E.t8.1) (ah (bO y0.f (ah (dg (hml) E.cJ (vL E.t8.1) E.cO)) y0.b)) (gy c1 c2)) rfl) (t2 := .sh (.int (Ly es src c))) (by unfold Ly; rw [aml hp])) (aK ⟨_, rfl⟩)
   . have hp := amR hp
     refine aK ⟨o14, ?_⟩
     rw [show Ly es src c = c / 4 % (es.length : Nat) by unfold Ly; rw [amg hp]]
     rfl
   rintro δ ⟨o14, rfl⟩
   refine bq E.g E.LC (bz (gS (cB (bY (kM (aG bS (aG bS (aG bS bE))) (aM rfl))) (ah (bO (ah (c_ ((s, 200 + 12 * (j : Int) + 8)) E.c7 E.bf (aj y0.an (aj y0.ak aV)) y0.e rfl)) (ah av) y0.g)) (iW (f := L3.D.str) (l := ["new", "near", "far"]) Str.empty (Int.emod_nonneg _ y0.g) (Int.emod_lt_of_pos _ y0.g))) rfl) (t2 := .sh (.str (UT (aN s (200 + 12 * (j : Int) + 8))))) rfl) ?_
   refine zR (fun δ => δ = [some y0.G, some y0.ap, some (.sh (.int n)), some (.sh (.int (es.length : Nat))), some (.sh (.int (Az s))), some (.sh (.int (1 + aN s 62 % 3))), some y0.ab, some (.sh (.int src)), some (.sh (.int (200 + 12 * (j : Int)))), some (.sh (.str w.sign)), some (.sh (.tup w.asks)), some (.sh (.tup w.DQ)), some (.sh (.int c)), some (.sh (.int w.tgt)), o14, some (.sh (.str w.mode))]) (k7 (sY (fj y0.bL (ah av)).1 (fun hb => (m9 (fj (ah (bO (ah (cY (ah (c_ ((s, 36)) E.c7 E.bf y0.D y0.e rfl)) (ah av) ⟨by decide, by decide⟩)) (ah av) y0.g)) (ah av)).1)))) (fun hp => ?_) (fun hp => ?_) ?_
   . have hp : Ci s c := by
       unfold Ci
       have hp : (decide (c % 4 = 1) || decide (aN s 36 / 9 % 5 = 1)) = true := hp
       simpa using hp
     rw [aml hp] at htg hmd
     rw [htg, hmd]
     exact bq E.g E.vC (k9 (ah av)) (bq E.g E.LC bS (aK rfl))
   . have hp : ¬ Ci s c := by
       unfold Ci
       have hp : (decide (c % 4 = 1) || decide (aN s 36 / 9 % 5 = 1)) = false := hp
       simpa using hp
     rw [amg hp] at htg hmd
     rw [htg, hmd]
     exact aK rfl
   rintro δ rfl
   refine jq E.lF.1 rfl (bT (aG (v_ E.AF.1) (aG (v_ E.qN.1) (aG (v_ E.eO.1) (aG (v_ E.jF.1) (aG (v_ E.vC.1) (aG (v_ E.LC.1) bE)))))) (aM rfl)) rfl (by rw [amh, afZ]; omega) (aK ?_)
   rw [eK _ (by unfold dz; rw [hsr])]
   exact ⟨_, _, _, _, _, _, _, _, _, rfl⟩
 case fin =>
   rintro δ ⟨o7, o8, o9, o10, o11, o12, o13, o14, o15, rfl⟩
   rw [amh]
   exact cg (vM E.lF.1) rfl
theorem cU : n9 (aF Fx) ([("script", .cell), ("elders", aJ), ("boxes", aJ), ("many", .cell), ("count", aJ), ("names", aJ), ("ways", aJ), ("source", aJ), ("at", aJ), ("name", aJ), ("asks", aJ), ("deeds", aJ), ("cell", aJ), ("target", aJ), ("near", aJ), ("mode", aJ), ("len", aH), ("_law_cell", aH), ("sorted", aH), ("range", aH), ("_law_name", aH), ("_law_asks", aH), ("_law_deeds", aH), ("_law_inner", aH)]) = true := by decide +kernel
theorem Ox : bC ["script", "elders", "boxes", "many", "count", "names", "ways", "source", "at", "name", "asks", "deeds", "cell", "target", "near", "mode"] ["script", "elders", "boxes"] (aF Fx) := bJ
def Yu (s : List Int) (k : Nat) : Str × Int := (("b" : Str) ++ sI (k : Int), Ce (aN s (33 + (k : Int))))
def LD (s : List Int) : List (Str × Int) := (List.range (aN s 32 % 4).toNat).map (Yu s)
def pO (s : List Int) : Nat := (aN s 32 % 4).toNat
def IV (s : List Int) (q : Int) (n : Nat) : List L3.D := (List.range n).map fun (k : Nat) => .tup (iH s (q + 6 * (k : Int)) (pO s))
def fq (s : List Int) (most : Nat) : Nat := (if 0 < lu s then max (1 + aN s 0 % (most : Int)) ((most : Int) - 1) else 1 + aN s 0 % (most : Int)).toNat
theorem Oz (s : List Int) {most : Nat} (h : 1 <= most) : 1 <= fq s most /\ fq s most <= most /\ ((fq s most : Nat) : Int) = if 0 < lu s then max (1 + aN s 0 % (most : Int)) ((most : Int) - 1) else 1 + aN s 0 % (most : Int) := by
 have a := amN (aN s 0) (b := (most : Int)) y0.b
 have b := amA (aN s 0) (b := (most : Int)) y0.b
 unfold fq
 split <;> omega
def jx (bs : List L3.D) (es : List Int) (ks : List Str) (ss : List Int) (is os ws : List L3.D) : L3.D := .tup [.lst bs, .lst (es.map .int), .lst (ks.map .str), .lst (ss.map .int), .lst is, .lst os, .lst ws]
theorem D0 (s : List Int) (q : Int) (n : Nat) : D.cI (IV s q n) = true := dm (fun k => show (L3.D.tup (iH _ _ _)).oW = true from j5 _ _ _) _
theorem QC (s : List Int) : D.cI ((LD s).map Ai) = true := dm y0.bC _
abbrev zo : Stmt := top 50
abbrev Fz : Type := List Int × Nat
def r6 : Fz -> List L3.D := fun (s, most) => [.lst (s.map .int), .int most]
def r9 : Fz -> Prop := fun (s, most) => s.length <= 1000 /\ 1 <= most /\ most <= 9
def sd : Fz -> T := fun (s, most) => (.sh (jx ((LD s).map Ai) (lW s (fq s most)) (Fg s (lW s (fq s most)) (fq s most)) (Oo s (lW s (fq s most)) (Fg s (lW s (fq s most)) (fq s most)) 16 (fq s most)) (IV s 100 (fq s most)) (IV s 103 (fq s most)) ((tG s (lW s (fq s most)) (pO s)).map dz)) : T)
structure Yv (X : Cx) (CL : Str -> Addr) : Prop extends dJ X where
 aU : Ln X 0 "script"
 qP : X.env.kindOf "script" = some .cell
 nh : Ln X 1 "most"
 d8 : Ln X 2 "many"
 bN : Ln X 3 "elders"
 fL : Ln X 4 "kinds"
 vD : Ln X 5 "starts"
 mC : Ln X 6 "count"
 OB : X.env.kindOf "count" = some .cell
 e9 : Ln X 7 "boxes"
 OD : Ln X 8 "ins"
 FD : Ln X 9 "outs"
 bf : Gl X "_law_cell"
 af2 : Gl X "max"
 Ck : Gl X "_law_elders"
 FE : Gl X "_law_kinds"
 ni : Gl X "_law_chosen"
 bP : Gl X "range"
 IW : Gl X "_law_ways"
 c7 : Fc X CL "_law_cell" 1 2 fQ bG fE
 af3 : X.mg "max" = none
 UW : Fc X CL "_law_elders" 2 2 pJ ly pK
 Yw : Fc X CL "_law_kinds" 2 2 rY oE rZ
 AI : Fc X CL "_law_chosen" 2 4 lz iG lA
 bQ : X.mg "range" = none
 ac4 : Fc X CL "_law_ways" 4 3 vz qO vA
 lB : X.mg "str" = none
 Au : Fc X CL "_law_number" 1 1 lC lD lE
 zm : Fc X CL "_law_deeds" 3 3 oH iQ oJ
theorem Yx {X : Cx} {CL : Str -> Addr} {b : Bx} (E : Yv X CL) (s most) (h : r9 (s, most)) :
   aR X CL b zo ["script", "most", "many", "elders", "kinds", "starts", "count", "boxes", "ins", "outs"] (r6 (s, most)) (sd (s, most)) := by
 dsimp only [aR, r9, r6, sd] at h ⊢
 obtain ⟨hs, m1, m2⟩ := h
 obtain ⟨n1, n2, n3⟩ := Oz s m1
 refine bq E.g E.d8 (b8 (ah av) (ah (bO (ah (c_ ((s, 0)) E.c7 E.bf y0.D y0.e rfl)) (aP E.nh) y0.b))) ?_
 refine zR (fun δ => δ = [some y0.G, some (.sh (.int most)), some (.sh (.int (fq s most : Nat))), none, none, none, none, none, none, none]) (HK (ah y0.bM) (ah av)).1 (fun hp => ?_) (fun hp => ?_) ?_
 . have hp : 0 < lu s := amC hp
   rw [aml hp] at n3
   refine bq E.g E.d8 (bz (Xn E.g E.af3 E.af2 (aj (aP E.d8) (aj (ah (m8 (aP E.nh) (ah av))) aV))) (t2 := .sh (.int (fq s most : Nat))) ?_) (aK rfl)
   rw [n3]
   show T.sh (.int (if (most : Int) - 1 > 1 + aN s 0 % (most : Int) then (most : Int) - 1 else 1 + aN s 0 % (most : Int))) = _
   congr 2
   split <;> omega
 . have hp : ¬ 0 < lu s := amR hp
   rw [amg hp] at n3
   refine aK ?_
   rw [n3]
   rfl
 rintro δ rfl
 obtain ⟨RX, wK⟩ := Ol s n1 y0.b
 generalize fq s most = n at n1 n2 n3 RX wK ⊢
 refine bq E.g E.bN (bz (c_ ((s, n)) E.UW E.Ck (aj y0.an (aj (aP E.d8) aV)) (by dsimp only [ly]; exact (⟨n1, by omega, hs⟩)) (cT _)) (t2 := T.lst (((lW s n).map .int).map T.sh)) rfl) ?_
 generalize lW s n = es at RX wK ⊢
 refine bq E.g E.fL (bz (c_ ((s, es)) E.Yw E.FE (aj y0.an (aj (vL E.bN.1) aV)) (by dsimp only [oE]; exact (⟨by omega, hs⟩)) (Aa _)) (t2 := T.lst (((Fg s es n).map .str).map T.sh)) (by rw [← RX]; rfl)) ?_
 have Yq := Fi s es n
 have LJ := Om s es
 rw [RX] at LJ
 generalize Fg s es n = ks at Yq LJ ⊢
 refine bq E.g E.vD (bz (c_ ((s, es, ks, 16)) E.AI E.ni (aj y0.an (aj (vL E.bN.1) (aj (vL E.fL.1) (aj (ah av) aV)))) (by dsimp only [iG]; exact (⟨by omega, hs, by omega, LJ, by omega, by omega⟩)) (cT _)) (t2 := T.lst (((Oo s es ks 16 n).map .int).map T.sh)) (by rw [← RX]; rfl)) ?_
 generalize Oo s es ks 16 n = ss
 have b0 := amN (aN s 32) (show (4 : Int) ≠ 0 by decide)
 have b1 := amA (aN s 32) (show (0 : Int) < 4 by decide)
 have hnb : aN s 32 % 4 = ((pO s : Nat) : Int) := by unfold pO; omega
 have aiM : pO s < 4 := by unfold pO; omega
 refine bq E.g E.mC (bz (bO (ah (c_ ((s, 32)) E.c7 E.bf y0.D y0.e rfl)) (ah av) y0.g) (t2 := .sh (.int (pO s : Nat))) (congrArg (fun z => T.sh (.int z)) hnb)) ?_
 have hbx : LD s = (List.range (pO s)).map (Yu s) := rfl
 rw [hbx]
 generalize aiN : pO s = nb at aiM hbx ⊢
 refine pC (p := fun _ => true) (gg := fun d => T.sh (Ai (Yu s d.sV.toNat))) E.g E.e9 (c6 (.cons E.aU.1 (.inl E.qP) .nil) y0.a) (dI E.bQ (aP E.mC) y0.b E.bP) y0.bn (fun C s0 H0 f0 b' d hd => ?Fo) y0.Q ?rest y0.bk y0.bd
 case Fo =>
   obtain ⟨i, hi, rfl⟩ := amI.mp hd
   have Kh : i < nb := by simpa using hi
   have qq : (i : Int).natAbs.log2 < 1920 /\ (toString (i : Int) : Str).length <= 50 := by
     have : i = 0 \/ i = 1 \/ i = 2 := by omega
     rcases this with rfl | rfl | rfl <;> exact ⟨by decide +kernel, by decide +kernel⟩
   have ei : (0 + (i : Int)) = (i : Int) := anp _
   have et : (L3.D.int (0 + (i : Int))).sV.toNat = i := by show (0 + (i : Int)).toNat = i; omega
   refine ⟨rfl, fun _ => bz (bT (aG (qz (ah bS) (ah (rT E.lB (g6 y0.a) y0.bJ ((by rw [ei]; exact qq.1)))) ((by rw [ei, sizeLine_eq]; show 1 + (toString (i : Int) : Str).length <= _; omega))) (aG (c_ (aN s (33 + (0 + (i : Int)))) (pe E.Au) (g6 y0.a) (aj (ah (c_ ((s, 33 + (0 + (i : Int)))) (pe E.c7) (g6 y0.a) (aj y0.bN (aj (ah (b8 (ah av) y0.bJ)) aV)) y0.e rfl)) aV) (trivial) rfl) bE)) (aM rfl)) ?_⟩
   show T.sh _ = T.sh (Ai (Yu s (L3.D.int (0 + (i : Int))).sV.toNat))
   rw [et]
   unfold Yu Ai
   rw [ei]
   rfl
 case rest =>
 have em : ((bM 0 (nb : Int).toNat).filter fun _ => true).map (fun d => T.sh (Ai (Yu s d.sV.toNat))) = (((List.range nb).map (Yu s)).map Ai).map T.sh := by
   rw [e7]
   unfold bM
   rw [amO, amO, amO, amS]
   refine am7 fun k _ => ?_
   show T.sh (Ai (Yu s (0 + (k : Int)).toNat)) = _
   rw [show (0 + (k : Int)).toNat = k by omega]
   rfl
 rw [em]
 generalize hB : (List.range nb).map (Yu s) = bs
 have af4 : ∀ q : Int, ((bM 0 (n : Int).toNat).filter fun _ => true).map (fun d => T.sh (.tup (iH s (q + 6 * d.sV) nb))) = (((List.range n).map fun (k : Nat) => L3.D.tup (iH s (q + 6 * (k : Int)) nb)).map T.sh) := fun q => by
   rw [e7]
   unfold bM
   rw [amO, amO, amS]
   refine am7 fun k _ => ?_
   show T.sh (.tup (iH s (q + 6 * (0 + (k : Int))) nb)) = _
   rw [anp]
   rfl
 refine pC (p := fun _ => true) (gg := fun d => T.sh (.tup (iH s (100 + 6 * d.sV) nb))) E.g E.OD (c6 (.cons E.mC.1 (.inl E.OB) (.cons E.aU.1 (.inl E.qP) .nil)) y0.a) (dI E.bQ (aP E.d8) y0.b E.bP) y0.bn (fun C s0 H0 f0 b' d hd => ?aiO) y0.Q ?af5 y0.bk y0.bd
 case aiO =>
   obtain ⟨i, hi, rfl⟩ := amI.mp hd
   have Kh : i < n := by simpa using hi
   exact ⟨rfl, fun _ => c_ (s, 100 + 6 * (0 + (i : Int)), nb) (pe E.zm) (g6 y0.a) (aj y0.bR (aj (ah (b8 (ah av) (ah (zO (ah av) y0.bJ y0.by)))) (aj y0.bN aV))) (by dsimp only [iQ]; exact ⟨hs, by omega, by omega, by omega⟩) y0.aF⟩
 case af5 =>
 rw [af4 100]
 refine pC (p := fun _ => true) (gg := fun d => T.sh (.tup (iH s (103 + 6 * d.sV) nb))) E.g E.FD (c6 (.cons E.mC.1 (.inl E.OB) (.cons E.aU.1 (.inl E.qP) .nil)) y0.a) (dI E.bQ (aP E.d8) y0.b E.bP) y0.bn (fun C s0 H0 f0 b' d hd => ?ac5) y0.Q ?UX y0.bk y0.bd
 case ac5 =>
   obtain ⟨i, hi, rfl⟩ := amI.mp hd
   have Kh : i < n := by simpa using hi
   exact ⟨rfl, fun _ => c_ (s, 103 + 6 * (0 + (i : Int)), nb) (pe E.zm) (g6 y0.a) (aj y0.bR (aj (ah (b8 (ah av) (ah (zO (ah av) y0.bJ y0.by)))) (aj y0.bN aV))) (by dsimp only [iQ]; exact ⟨hs, by omega, by omega, by omega⟩) y0.aF⟩
 case UX =>
 rw [af4 103]
 refine cg (mh (wN (bu (vM E.e9.1) (bu (vFL E.bN.1 rfl) (bu (vM E.fL.1) (bu (vM E.vD.1) (bu (vM E.OD.1) (bu (vM E.FD.1) (bu (bz (c_ (s, es, nb) E.ac4 E.IW (aj y0.an (aj (aP E.bN) (aj (aP E.mC) aV))) (by dsimp only [qO]; exact ⟨hs, by omega, by omega, by omega⟩) (cM (AA s es nb))) (t2 := .lst (((tG s es nb).map dz).map T.sh)) rfl) b9))))))) (aM rfl)) ?_) rfl
 rw [T.eF, T.dQ, T.dQ, T.dQ, T.dQ, T.dQ, T.dQ, T.dQ, T.dQ, eB, eB, eB, eB, eB, eB, T.eF]
 unfold jx IV
 rw [aiN]
theorem dB : n9 (aF zo) ([("script", .cell), ("most", aJ), ("many", aJ), ("elders", aJ), ("kinds", aJ), ("starts", aJ), ("count", .cell), ("boxes", aJ), ("ins", aJ), ("outs", aJ), ("_law_cell", aH), ("max", aH), ("_law_elders", aH), ("_law_kinds", aH), ("_law_chosen", aH), ("range", aH), ("_law_ways", aH)]) = true := by decide +kernel
theorem IX : bC ["script", "most", "many", "elders", "kinds", "starts", "count", "boxes", "ins", "outs"] ["script", "most"] (aF zo) := bJ
abbrev mD : Stmt := inClass (top 6) 0
abbrev qQ : Type := List Str × List Int × List Int
def nj : qQ -> List L3.D := fun (ks, es, ss) => [.lst (ks.map .str), .lst (es.map .int), .lst (ss.map .int)]
def nq : qQ -> Prop := fun (ks, es, ss) => True
def nu : qQ -> List (Str × T) := fun (ks, es, ss) => (tD ks es ss : List (Str × T))
structure IY (X : Cx) (CL : Str -> Addr) : Prop extends dJ X where
 ny : Ln X 0 "self"
 fL : Ln X 1 "kinds"
 bN : Ln X 2 "elders"
 vD : Ln X 3 "starts"
 dW : Gl X "list"
 dX : X.mg "list" = none
 nA : Dn X.K (CL "Tree")
 pP : cS X.K (CL "Tree") "kinds"
 jH : cS X.K (CL "Tree") "elders"
 Cm : cS X.K (CL "Tree") "starts"
theorem IZ {X : Cx} {CL : Str -> Addr} {b : Bx} (E : IY X CL) (ks : List Str) (es ss : List Int) (y : Addr) (h : True) :
   fD X CL b (fK mD) (Tr ["self", "kinds", "elders", "starts"] y "Tree" [.lst (ks.map .str), .lst (es.map .int), .lst (ss.map .int)]) { nx := fun δ => δ[0]? = some (some (.pin y (.ins "Tree" (tD ks es ss)))), rt := fun _ _ => False } := by
 have hi : D.cI (ks.map L3.D.str) = true := dm y0.bC _
 refine uV E.nA E.pP E.ny.1 (dY E.dX (aP E.fL) hi E.dW cC) rfl (amm rfl) ?_
 rw [iX]
 refine uV E.nA E.jH E.ny.1 (dY E.dX (aP E.bN) (fP _) E.dW cC) rfl (amm rfl) ?_
 rw [cX y0.a, iX]
 refine uV E.nA E.Cm E.ny.1 (dY E.dX (aP E.vD) (fP _) E.dW cC) rfl (amm rfl) ?_
 rw [cX y0.a, cX y0.a, iX]
 exact aK rfl
theorem i7 : n9 (aF mD) ([("self", aJ), ("kinds", aJ), ("elders", aJ), ("starts", aJ), ("list", aH)]) = true := by decide +kernel
theorem vE : bC ["self", "kinds", "elders", "starts"] ["self", "kinds", "elders", "starts"] (aF mD) := bJ
abbrev kO : Stmt := inClass (top 4) 0
abbrev pQ : Type := List L3.D × List L3.D × V × List L3.D × List L3.D × List L3.D
def lG : pQ -> List L3.D := fun (bs, nm, tv, is, os, ws) => [.lst bs, .lst nm, .val tv, .lst is, .lst os, .lst ws]
def lH : pQ -> Prop := fun (bs, nm, tv, is, os, ws) => D.cI bs = true /\ D.cI nm = true /\ D.cI is = true /\ D.cI os = true /\ D.cI ws = true
def lI : pQ -> List (Str × T) := fun (bs, nm, tv, is, os, ws) => (kB bs nm (.sh (.val tv)) is os ws : List (Str × T))
structure FG (X : Cx) (CL : Str -> Addr) : Prop extends dJ X where
 ny : Ln X 0 "self"
 e9 : Ln X 1 "boxes"
 jG : Ln X 2 "names"
 nB : Ln X 3 "tree"
 OD : Ln X 4 "ins"
 FD : Ln X 5 "outs"
 lF : Ln X 6 "ways"
 dW : Gl X "list"
 dX : X.mg "list" = none
 fz : Dn X.K y0.bl
 Cp : cS X.K y0.bl "boxes"
 Cq : cS X.K y0.bl "names"
 i9 : cS X.K y0.bl "tree"
 I0 : cS X.K y0.bl "ins"
 FH : cS X.K y0.bl "outs"
 gO : cS X.K y0.bl "ways"
theorem FI {X : Cx} {CL : Str -> Addr} {b : Bx} (E : FG X CL) (bs nm : List L3.D) (tv : V) (is os ws : List L3.D) (y : Addr) (h : D.cI bs = true /\ D.cI nm = true /\ D.cI is = true /\ D.cI os = true /\ D.cI ws = true) :
   fD X CL b (fK kO) (Tr ["self", "boxes", "names", "tree", "ins", "outs", "ways"] y "Chart" [.lst bs, .lst nm, .val tv, .lst is, .lst os, .lst ws]) { nx := fun δ => δ[0]? = some (some (.pin y (.ins "Chart" (kB bs nm (.sh (.val tv)) is os ws)))), rt := fun _ _ => False } := by
 obtain ⟨h1, h2, h3, h4, h5⟩ := h
 refine uV E.fz E.Cp E.ny.1 (dY E.dX (aP E.e9) h1 E.dW cC) rfl (amm rfl) ?_
 rw [iX]
 refine uV E.fz E.Cq E.ny.1 (dY E.dX (aP E.jG) h2 E.dW cC) rfl (amm rfl) ?_
 rw [cX y0.a, iX]
 refine uV E.fz E.i9 E.ny.1 (v_ E.nB.1) rfl (amm rfl) ?_
 rw [cX y0.a, cX y0.a, iX]
 refine uV E.fz E.I0 E.ny.1 (dY E.dX (aP E.OD) h3 E.dW cC) rfl (amm rfl) ?_
 rw [cX y0.a, cX y0.a, cX y0.a, iX]
 refine uV E.fz E.FH E.ny.1 (dY E.dX (aP E.FD) h4 E.dW cC) rfl (amm rfl) ?_
 rw [cX y0.a, cX y0.a, cX y0.a, cX y0.a, iX]
 refine uV E.fz E.gO E.ny.1 (dY E.dX (aP E.lF) h5 E.dW cC) rfl (amm rfl) ?_
 rw [cX y0.a, cX y0.a, cX y0.a, cX y0.a, cX y0.a, iX]
 exact aK rfl
theorem ef : n9 (aF kO) ([("self", aJ), ("boxes", aJ), ("names", aJ), ("tree", aJ), ("ins", aJ), ("outs", aJ), ("ways", aJ), ("list", aH)]) = true := by decide +kernel
theorem tH : bC ["self", "boxes", "names", "tree", "ins", "outs", "ways"] ["self", "boxes", "names", "tree", "ins", "outs", "ways"] (aF kO) := bJ
def UY (k : Nat) : Str := ("m" : Str) ++ sI (k : Int)
def pR (n : Nat) : List Str := (List.range n).map UY
theorem UZ (k : Nat) (h : k <= 40) : (k : Int).natAbs.log2 < 1920 /\ (toString (k : Int) : Str).length <= 50 /\ PyData.strOk (toString (k : Int) : Str) = true := by
 have h2 : ((List.range 41).all fun k => decide ((k : Int).natAbs.log2 < 1920) && decide ((toString (k : Int) : Str).length <= 50) && PyData.strOk (toString (k : Int) : Str)) = true := by decide +kernel
 have := ano.mp h2 k (amZ.mpr y0.b)
 simpa [Bool.and_eq_true, and_assoc] using this
abbrev zq : Stmt := top 51
abbrev FJ : Type := List L3.D × List Int × List Str × List Int × List L3.D × List L3.D × List L3.D
def se : FJ -> List L3.D := fun (bs, es, ks, ss, is, os, ws) => [jx bs es ks ss is os ws]
def oK : FJ -> Prop := fun (bs, es, ks, ss, is, os, ws) => D.cI bs = true /\ D.cI is = true /\ D.cI os = true /\ D.cI ws = true /\ es.length <= 40
def sf : FJ -> T := fun (bs, es, ks, ss, is, os, ws) => (.ins "Chart" (kB bs ((pR es.length).map .str) (.ins "Tree" (tD ks es ss)) is os ws) : T)
structure Yy (X : Cx) (CL : Str -> Addr) : Prop extends dJ X where
 bV : Ln X 0 "parts"
 jG : Ln X 1 "names"
 nB : Ln X 2 "tree"
 bP : Gl X "range"
 cO : Gl X "len"
 LK : Gl X "Tree"
 dW : Gl X "list"
 FL : Gl X "Chart"
 bQ : X.mg "range" = none
 cJ : X.mg "len" = none
 LN : Fm X CL "Tree" 1 4 nj nq nu
 dX : X.mg "list" = none
 FN : Fm X CL "Chart" 1 7 lG lH lI
 lB : X.mg "str" = none
theorem Yz {X : Cx} {CL : Str -> Addr} {b : Bx} (E : Yy X CL) (bs es ks ss is os ws) (h : oK (bs, es, ks, ss, is, os, ws)) :
   aR X CL b zq ["parts", "names", "tree"] (se (bs, es, ks, ss, is, os, ws)) (sf (bs, es, ks, ss, is, os, ws)) := by
 dsimp only [aR, oK, se, sf] at h ⊢
 obtain ⟨ib, ii, io, iw, hl⟩ := h
 refine pC (p := fun _ => true) (gg := fun d => T.sh (.str (UY d.sV.toNat))) E.g E.jG (c6 .nil y0.a) (dI E.bQ (ah (dg (amh ..) E.cJ y0.aq E.cO)) y0.b E.bP) y0.bn (fun C s0 H0 f0 b' d hd => ?Fo) y0.Q ?rest y0.bk y0.bd
 case Fo =>
   obtain ⟨i, hi, rfl⟩ := amI.mp hd
   have Kh : i < es.length := by simpa using hi
   obtain ⟨q1, q2, _⟩ := UZ i y0.b
   have ei : (0 + (i : Int)) = (i : Int) := anp _
   have et : (L3.D.int (0 + (i : Int))).sV.toNat = i := by show (0 + (i : Int)).toNat = i; omega
   refine ⟨rfl, fun _ => bz y0.cn ?_⟩
   show T.sh _ = T.sh (.str (UY (L3.D.int (0 + (i : Int))).sV.toNat))
   rw [et]
   unfold UY
   rw [ei]
   rfl
 case rest =>
 have em : ((bM 0 (es.length : Int).toNat).filter fun _ => true).map (fun d => T.sh (.str (UY d.sV.toNat))) = ((pR es.length).map L3.D.str).map T.sh := by
   rw [e7]
   unfold bM pR
   rw [amO, amO, amO, amS]
   refine am7 fun k _ => ?_
   show T.sh (.str (UY (0 + (k : Int)).toNat)) = _
   rw [show (0 + (k : Int)).toNat = k by omega]
   rfl
 rw [em]
 refine bq E.g E.nB (bz (mk_ (ks, es, ss) E.LN E.LK (aj (bY (dY E.dX y0.aq (lg _) E.dW cC)) (aj (bY (dY E.dX y0.aq (fP _) E.dW cC)) (aj (bY (dY E.dX y0.aq (fP _) E.dW cC)) aV))) trivial (mj ks es ss)) (t2 := .ins "Tree" (tD ks es ss)) rfl) ?_
 exact cg (mkP (f := "tree") (G8 := tY bs ((pR es.length).map .str)) (P7 := tZ is os ws) (fun v => (bs, (pR es.length).map .str, v, is, os, ws)) E.FN E.FL
   (u9 (bY (dY E.dX y0.aq ib E.dW cC)) (u9 (vL E.jG.1)
     (HW (vM E.nB.1)
       (aj (bY (dY E.dX y0.aq ii E.dW cC)) (aj (bY (dY E.dX y0.aq io E.dW cC)) (aj (bY (dY E.dX y0.aq iw E.dW cC)) aV))))))
   (fun v => rfl) (fun v => ⟨ib, lg _, ii, io, iw⟩) (fun v => rfl) (vg ib (lg _)) (vh ii io iw)) rfl
theorem j7 : n9 (aF zq) ([("parts", aJ), ("names", aJ), ("tree", aJ), ("range", aH), ("len", aH), ("Tree", aH), ("list", aH), ("Chart", aH)]) = true := by decide +kernel
theorem Ja : bC ["parts", "names", "tree"] ["parts"] (aF zq) := bJ
abbrev jI : Stmt := top 12
abbrev nE : Type := List L3.D × List L3.D × List Str × List Int × List Int × List L3.D × List L3.D × List L3.D × List Int
def ia : nE -> List L3.D := fun (bs, nm, ks, es, ss, is, os, ws, ops) => [iE bs nm y0.br is os ws, .lst y0.ah]
def eU : nE -> Prop := fun (bs, nm, ks, es, ss, is, os, ws, ops) => ops.length <= 1000 /\ ∀ x ∈ ops, 0 <= x /\ x < ks.length
def ic : nE -> T := fun (bs, nm, ks, es, ss, is, os, ws, ops) => (.lst (((jo ks ops).map .int).map T.sh) : T)
structure Cr (X : Cx) (CL : Str -> Addr) : Prop extends dJ X where
 dh : Ln X 0 "chart"
 mE : X.env.kindOf "chart" = some .cell
 bX : Ln X 1 "opens"
 fz : Dn X.K y0.bl
 nA : Dn X.K (CL "Tree")
 pP : cS X.K (CL "Tree") "kinds"
 i9 : cS X.K y0.bl "tree"
theorem Ct {X : Cx} {CL : Str -> Addr} {b : Bx} (E : Cr X CL) (bs nm ks es ss is os ws ops) (h : eU (bs, nm, ks, es, ss, is, os, ws, ops)) :
   aR X CL b jI ["chart", "opens"] (ia (bs, nm, ks, es, ss, is, os, ws, ops)) (ic (bs, nm, ks, es, ss, is, os, ws, ops)) := by
 dsimp only [aR, eU, ia, ic] at h ⊢
 obtain ⟨hl, ho⟩ := h
 refine cg (vd (p := fun d => IE ks d.sV) (g := fun d => T.sh d) (c6 (.cons E.dh.1 (.inl E.mE) .nil) y0.a) E.g.calm (wR (v_ E.bX.1)) y0.bn (fun C s0 H0 f0 b' d hd => ?Fo) (Nat.le_of_lt (cQ (by simpa using hl)))) ?eq
 case Fo =>
   obtain ⟨x, hx, rfl⟩ := amI.mp hd
   obtain ⟨x0, x1⟩ := ho x hx
   exact ⟨(iC (cB (wV (by exact E.nA) (by exact E.pP) (wV (by exact E.fz) (by exact E.i9) y0.bN Ag) Li) y0.bJ (iW Str.empty x0 x1)) (ah bS)).1, fun _ => v_ (eN (i := 0) rfl y0.a)⟩
 case eq =>
   unfold jo
   rw [List.filter_map, amO, amO]
   rfl
theorem lJ : n9 (aF jI) ([("chart", .cell), ("opens", aJ)]) = true := by decide +kernel
theorem qR : bC ["chart", "opens"] ["chart", "opens"] (aF jI) := bJ
abbrev ja : Stmt := top 32
abbrev lK : Type := tE
def gP : lK -> List L3.D := fun s => [sW s]
def gQ : lK -> Prop := fun s => True
def gR : lK -> T := fun s => (.sh (sW (Fb s)) : T)
structure AJ (X : Cx) (CL : Str -> Addr) : Prop extends dJ X where
 aW : Ln X 0 "branch"
 jy : Gl X "LEAF"
 jb : Gl X "ASKED"
 gE : Gl X "PICKED"
 ua : Gl X "HELD"
 jz : ∃ u, X.mg "LEAF" = some (.int 0 u)
 jc : ∃ u, X.mg "ASKED" = some (.int 2 u)
 gF : ∃ u, X.mg "PICKED" = some (.int 3 u)
 uc : ∃ u, X.mg "HELD" = some (.int 4 u)
theorem AK {X : Cx} {CL : Str -> Addr} {b : Bx} (E : AJ X CL) (s) (h : gQ s) :
   aR X CL b ja ["branch"] (gP s) (gR s) := by
 dsimp only [aR, gQ, gP, gR] at h ⊢
 exact cg (bz (bT (aG (b8 y0.aa (ah av)) (aG av (aG y0.r (aG y0.s (aG y0.bV bE))))) (aM rfl)) (t2 := .sh (sW (Fb s))) rfl) rfl
theorem fU : n9 (aF ja) ([("branch", aJ), ("LEAF", aH), ("ASKED", aH), ("PICKED", aH), ("HELD", aH)]) = true := by decide +kernel
theorem qj : bC ["branch"] ["branch"] (aF ja) := bJ
abbrev jJ : Stmt := top 11
abbrev nF : Type := List L3.D × List L3.D × L3.D × List L3.D × List L3.D × List dw × Nat × dw
def ig : nF -> List L3.D := fun (bs, nm, tr, is, os, ws, k, w) => [iE bs nm tr is os y0.as, .int k]
def fV : nF -> Prop := fun (bs, nm, tr, is, os, ws, k, w) => ws[k]? = some w /\ w.asks.length <= 1000 /\ D.cI w.asks = true /\ ∀ d ∈ w.asks, ∃ x r, d = .tup (.str x :: r)
def iu : nF -> T := fun (bs, nm, tr, is, os, ws, k, w) => (.sh (.tup (Al w.asks)) : T)
structure Cu (X : Cx) (CL : Str -> Addr) : Prop extends dJ X where
 dh : Ln X 0 "chart"
 fc : Ln X 1 "way"
 g7 : Gl X "tuple"
 LQ : Gl X "ASKS"
 g8 : X.mg "tuple" = none
 LR : ∃ u, X.mg "ASKS" = some (.int 2 u)
 fz : Dn X.K y0.bl
 gO : cS X.K y0.bl "ways"
theorem Cv {X : Cx} {CL : Str -> Addr} {b : Bx} (E : Cu X CL) (bs nm tr is os ws k w) (h : fV (bs, nm, tr, is, os, ws, k, w)) :
   aR X CL b jJ ["chart", "way"] (ig (bs, nm, tr, is, os, ws, k, w)) (iu (bs, nm, tr, is, os, ws, k, w)) := by
 dsimp only [aR, fV, ig, iu] at h ⊢
 obtain ⟨hk, hl, hi, ha⟩ := h
 have DR : uN y0.as (k : Int) = some (dz w) := aY (by rw [amT, hk]; rfl)
 refine cg (rR E.g8 (Xg (bz (vd (p := fun d => !decide y0.bH) (g := fun d => T.sh d) (c6 .nil y0.a) E.g.calm (Ez (cZ (K0 (Tq E.fz E.gO (v_ E.dh.1) tX) (aP E.fc) DR) (ah (bD E.LR E.LQ)) rfl)) y0.bn (fun C s0 H0 f0 b' d hd => ?Fo) (anf (cQ hl))) (t2 := .lst ((Al w.asks).map T.sh)) rfl) rfl) (pA fun d hd => zS hi d (anm.mp hd).1) E.g7) rfl
 case Fo =>
   obtain ⟨x, r, rfl⟩ := ha d hd
   exact ⟨(Xo (x := x) (l := ["open", "shut"]) (bL y0.bJ (ah av) y0.aj) (ah (bT (aG bS (aG bS bE)) (aM rfl))) rfl rfl).1, fun _ => v_ (eN (i := 0) rfl y0.a)⟩
theorem jd : n9 (aF jJ) ([("chart", aJ), ("way", aJ), ("tuple", aH), ("ASKS", aH)]) = true := by decide +kernel
theorem qS : bC ["chart", "way"] ["chart", "way"] (aF jJ) := bJ
abbrev mF : Stmt := top 34
abbrev qT : Type := tE × Int
def jK : qT -> List L3.D := fun (s, w) => [sW s, .int w]
def jL : qT -> Prop := fun (s, w) => s.pk.length <= 100000
def jM : qT -> T := fun (s, w) => (.sh (sW (Qt s w)) : T)
structure Jb (X : Cx) (CL : Str -> Addr) : Prop extends dJ X where
 aW : Ln X 0 "branch"
 fc : Ln X 1 "way"
 qU : Ln X 2 "picked"
 gE : Gl X "PICKED"
 jy : Gl X "LEAF"
 yt : Gl X "WAY"
 jb : Gl X "ASKED"
 ua : Gl X "HELD"
 gF : ∃ u, X.mg "PICKED" = some (.int 3 u)
 jz : ∃ u, X.mg "LEAF" = some (.int 0 u)
 yu : ∃ u, X.mg "WAY" = some (.int 1 u)
 jc : ∃ u, X.mg "ASKED" = some (.int 2 u)
 uc : ∃ u, X.mg "HELD" = some (.int 4 u)
theorem Jc {X : Cx} {CL : Str -> Addr} {b : Bx} (E : Jb X CL) (s w) (h : jL (s, w)) :
   aR X CL b mF ["branch", "way", "picked"] (jK (s, w)) (jM (s, w)) := by
 dsimp only [aR, jL, jK, jM] at h ⊢
 have h : s.pk.length <= 100000 := h
 refine bq E.g E.qU y0.s ?_
 refine zR (fun δ => δ = [some (.sh (sW s)), some (.sh (.int w)), some (.sh (.tup ((lV s.pk w).map .int)))]) (yZ (l := s.pk) (aP E.fc) (aP E.qU) rfl rfl).1 (fun hp => ?_) (fun hp => ?_) ?_
 . have e : ¬ w ∈ s.pk := by
     rw [Bool.not_eq_true'] at hp
     exact amR hp
   refine bq E.g E.qU (vf (v_ E.qU.1) (bT (aG (v_ E.fc.1) bE) (aM rfl)) (List.cons_ne_nil _ _) (by rw [amh, amV]; show s.pk.length + 1 <= _; omega)) (aK ?_)
   unfold lV
   rw [amg e, amP]
   rfl
 . have e : w ∈ s.pk := by
     rw [Bool.not_eq_false'] at hp
     exact amC hp
   refine aK ?_
   unfold lV
   rw [aml e]
   rfl
 rintro δ rfl
 exact cg (bz (bT (aG y0.cf (aG (cZ y0.X (ah (bD E.yu E.yt)) y0.at) (aG y0.r (aG (v_ E.qU.1) (aG y0.bV bE))))) (aM rfl)) (t2 := .sh (sW (Qt s w))) rfl) rfl
theorem fh : n9 (aF mF) ([("branch", aJ), ("way", aJ), ("picked", aJ), ("PICKED", aH), ("LEAF", aH), ("WAY", aH), ("ASKED", aH), ("HELD", aH)]) = true := by decide +kernel
theorem vG : bC ["branch", "way", "picked"] ["branch", "way"] (aF mF) := bJ
abbrev jN : Stmt := top 33
abbrev nG : Type := tE
def iy : nG -> List L3.D := fun s => [sW s]
def iz : nG -> Prop := fun s => True
def iA : nG -> T := fun s => (.sh (sW (G9 s)) : T)
structure Cw (X : Cx) (CL : Str -> Addr) : Prop extends dJ X where
 aW : Ln X 0 "branch"
 jy : Gl X "LEAF"
 yt : Gl X "WAY"
 jb : Gl X "ASKED"
 gE : Gl X "PICKED"
 ua : Gl X "HELD"
 jz : ∃ u, X.mg "LEAF" = some (.int 0 u)
 yu : ∃ u, X.mg "WAY" = some (.int 1 u)
 jc : ∃ u, X.mg "ASKED" = some (.int 2 u)
 gF : ∃ u, X.mg "PICKED" = some (.int 3 u)
 uc : ∃ u, X.mg "HELD" = some (.int 4 u)
theorem Cy {X : Cx} {CL : Str -> Addr} {b : Bx} (E : Cw X CL) (s) (h : iz s) :
   aR X CL b jN ["branch"] (iy s) (iA s) := by
 dsimp only [aR, iz, iy, iA] at h ⊢
 exact cg (bz (bT (aG y0.cf (aG (b8 (bL (aP E.aW) (ah (bD E.yu E.yt)) y0.at) (ah av)) (aG y0.r (aG y0.s (aG y0.bV bE))))) (aM rfl)) (t2 := .sh (sW (G9 s))) rfl) rfl
theorem fG : n9 (aF jN) ([("branch", aJ), ("LEAF", aH), ("WAY", aH), ("ASKED", aH), ("PICKED", aH), ("HELD", aH)]) = true := by decide +kernel
theorem qV : bC ["branch"] ["branch"] (aF jN) := bJ
abbrev mG : Stmt := top 35
abbrev qW : Type := (List (Int × Bool)) × Int × Bool
def jO : qW -> List L3.D := fun (hl, w, c) => [.kZ (Qs hl), .int w, .bl c]
def fZ : qW -> Prop := fun (hl, w, c) => cR hl w = none /\ hl.length <= 10000
def jP : qW -> T := fun (hl, w, c) => (.kZ (Qs (hl ++ [(w, c)])) : T)
structure Jd (X : Cx) (CL : Str -> Addr) : Prop extends dJ X where
 nI : Ln X 0 "held"
 fc : Ln X 1 "way"
 YB : Ln X 2 "holds"
 AO : Ln X 3 "behind"
 ac6 : Gl X "dict"
 ac7 : X.mg "dict" = none
theorem Je {X : Cx} {CL : Str -> Addr} {b : Bx} (E : Jd X CL) (hl w c) (h : fZ (hl, w, c)) :
   aR X CL b mG ["held", "way", "holds", "behind"] (jO (hl, w, c)) (jP (hl, w, c)) := by
 dsimp only [aR, fZ, jO, jP] at h ⊢
 obtain ⟨h1, h2⟩ := h
 refine bq E.g E.AO (Ui E.ac7 (v_ E.nI.1) E.ac6) ?_
 refine ach (.inl w) E.u E.AO.1 (v_ E.YB.1) (aP E.fc) rfl (by unfold Qs; rw [amh]; omega) ?_
 refine cg (vM E.AO.1) ?_
 show T.kZ _ = T.kZ _
 rw [Yk c h1]
theorem je : n9 (aF mG) ([("held", aJ), ("way", aJ), ("holds", aJ), ("behind", aJ), ("dict", aH)]) = true := by decide +kernel
theorem vH : bC ["held", "way", "holds", "behind"] ["held", "way", "holds"] (aF mG) := bJ
def LV (ws : List dw) : Prop := ∀ w ∈ ws, w.asks.length <= 100 /\ D.cI w.asks = true /\ (∀ d ∈ w.asks, ∃ x r, d = .tup (.str x :: r)) /\ Al w.asks = (UD w).map ql
theorem LV.len {ws : List dw} (h : LV ws) (k : Int) : (gK ws k).length <= 100 := by
 unfold gK
 by_cases hk : k.toNat < ws.length
 . rw [amk, amq hk]
   have g := h ws[k.toNat] (anu _)
   have e := congrArg List.length g.2.2.2
   rw [amh] at e
   have := anz (fun d : L3.D => !decide y0.bH) ws[k.toNat].asks
   unfold Al at e
   show (UD ws[k.toNat]).length <= 100
   omega
 . rw [amk, anY y0.b]
   exact amM _
def vI (R : List (List Int)) : L3.D := .lst (R.map fun l => L3.D.lst (l.map .int))
abbrev sj : Stmt := top 31
abbrev xo : Type := List L3.D × List L3.D × L3.D × List L3.D × List L3.D × List dw × List (List Int) × tE
def mH : xo -> List L3.D := fun (bs, nm, tr, is, os, ws, R, s) => [iE bs nm tr is os y0.as, vI R, sW s]
def iR : xo -> Prop := fun (bs, nm, tr, is, os, ws, R, s) => s.i < R.length /\ s.j <= (R.getD s.i []).length /\ (s.qs.length <= 1000000 /\ s.pk.length <= 10000 /\ s.hl.length <= 10000) /\ (∀ l ∈ R, ∀ w ∈ l, 0 <= w /\ w < (ws.length : Int)) /\ LV ws
def mJ : xo -> T := fun (bs, nm, tr, is, os, ws, R, s) => (.lst (((Hf ws R s).map sW).map T.sh) : T)
structure QD (X : Cx) (CL : Str -> Addr) : Prop extends dJ X where
 dh : Ln X 0 "chart"
 pS : Ln X 1 "rows"
 aW : Ln X 2 "branch"
 fc : Ln X 3 "way"
 eO : Ln X 4 "asks"
 nI : Ln X 5 "held"
 D3 : Ln X 6 "holding"
 D4 : Ln X 7 "failing"
 yt : Gl X "WAY"
 cO : Gl X "len"
 jy : Gl X "LEAF"
 fH : Gl X "at_next_leaf"
 nJ : Gl X "number_asks"
 ua : Gl X "HELD"
 j8 : Gl X "with_pick"
 jQ : Gl X "at_next_way"
 jb : Gl X "ASKED"
 gE : Gl X "PICKED"
 mK : Gl X "with_held"
 yu : ∃ u, X.mg "WAY" = some (.int 1 u)
 cJ : X.mg "len" = none
 jz : ∃ u, X.mg "LEAF" = some (.int 0 u)
 jf : Fc X CL "at_next_leaf" 1 1 gP gQ gR
 Cz : Fc X CL "number_asks" 1 2 ig fV iu
 uc : ∃ u, X.mg "HELD" = some (.int 4 u)
 qX : Fc X CL "with_pick" 1 2 jK jL jM
 tK : Fc X CL "at_next_way" 1 1 iy iz iA
 jc : ∃ u, X.mg "ASKED" = some (.int 2 u)
 gF : ∃ u, X.mg "PICKED" = some (.int 3 u)
 yw : Fc X CL "with_held" 1 3 jO fZ jP
theorem QF {X : Cx} {CL : Str -> Addr} {b : Bx} (E : QD X CL) (bs nm tr is os ws R s) (h : iR (bs, nm, tr, is, os, ws, R, s)) :
   aR X CL b sj ["chart", "rows", "branch", "way", "asks", "held", "holding", "failing"] (mH (bs, nm, tr, is, os, ws, R, s)) (mJ (bs, nm, tr, is, os, ws, R, s)) := by
 dsimp only [aR, iR, mH, mJ] at h ⊢
 obtain ⟨hi, hj, ⟨hq, hp, hh⟩, hR, hA⟩ := h
 have DR : uN (R.map fun l => L3.D.lst (l.map .int)) (s.i : Int) = some (.lst ((R.getD s.i []).map .int)) := (iW (f := fun l : List Int => L3.D.lst (l.map .int)) [] y0.b y0.b).trans (by rw [amS])
 show fD X CL b _ _ { nx := _, rt := fun K9 _ => K9 = T.lst (((Hf ws R s).map sW).map T.sh), bk := _, ct := _ }
 unfold Hf
 have hl : ((R.getD s.i []).map L3.D.int).length = (R.getD s.i []).length := amh ..
 have hp2 : s.pk.length <= 100000 := by omega
 refine dU (fj (bL (aP E.aW) (ah (bD E.yu E.yt)) y0.at) (ah (dg hl E.cJ (cB (aP E.pS) y0.aa DR) E.cO))).1 (fun hc => ?_) (fun hc => aK ?_)
 . have hc : (s.j : Int) = ((R.getD s.i []).length : Nat) := amC hc
   rw [aml y0.b]
   exact cg (cL (bu (cF s E.jf E.fH (aG y0.X bE) trivial) b9) (aM rfl)) rfl
 have hc : ¬ (s.j : Int) = ((R.getD s.i []).length : Nat) := amR hc
 rw [amg y0.b]
 have qi : s.j < (R.getD s.i []).length := by omega
 have YC : uN ((R.getD s.i []).map L3.D.int) (s.j : Int) = some (.int ((R.getD s.i []).getD s.j 0)) := (gy y0.b y0.b).trans (by rw [amS])
 obtain ⟨w0', w1⟩ : 0 <= (R.getD s.i []).getD s.j 0 /\ (R.getD s.i []).getD s.j 0 < (ws.length : Int) := by
   refine hR (R.getD s.i []) ?_ _ ?_
   . rw [amk, amq hi]
     exact anu _
   . rw [amk (l := R.getD s.i []), amq qi]
     exact anu _
 refine bq E.g E.fc (gS (cB (cB (aP E.pS) y0.aa DR) (bL (aP E.aW) (ah (bD E.yu E.yt)) y0.at) YC) rfl) ?_
 generalize (R.getD s.i []).getD s.j 0 = w at w0' w1 ⊢
 have hwm : ws.getD w.toNat w0 ∈ ws := by
   rw [amk, amq y0.b]
   exact anu _
 obtain ⟨a1, a2, a3, a4⟩ := hA _ hwm
 have U0 : ws[w.toNat]? = some (ws.getD w.toNat w0) := by rw [amk, amq y0.b]; rfl
 have hqi : D.cI ((gK ws w).map ql) = true := dm y0.bC _
 have hql := hA.len w
 have ea : Al (ws.getD w.toNat w0).asks = (gK ws w).map ql := a4
 refine bq E.g E.eO (bz (c_ (bs, nm, tr, is, os, ws, w.toNat, ws.getD w.toNat w0) E.Cz E.nJ (aj (aP E.dh) (aj (gU (aP E.fc) (congrArg L3.D.int (show w = ((w.toNat : Nat) : Int) by omega))) aV)) (by dsimp only [fV]; exact ⟨U0, by omega, a2, a3⟩) (by show D.cI (Al _) = true; rw [ea]; exact hqi)) (t2 := .sh (.tup ((gK ws w).map ql))) (by show T.sh (.tup (Al _)) = _; rw [ea])) ?_
 refine bq E.g E.nI y0.bV ?_
 have OG : ∀ {b : Bool}, (decide ((((gK ws w).map ql).length : Int) = 0)) = b -> (b = true ↔ gK ws w = []) := fun e => by
   subst e
   rw [amh, anE]
   constructor
   . intro z; exact aog y0.b
   . intro z; rw [z]; rfl
 have hv := Yj s.hl w
 cases hlk : cR s.hl w with
 | some c =>
   have Jf : yL (Qs s.hl) (.inl w) = some (.bl c) := by rw [hv, hlk]; rfl
   refine dU (k7 (sY (fj (ah (lY E.cJ (aP E.eO) E.cO)) (ah av)).1 (fun _ => m9 (k7 (iD y0.aM (fun _ => lX (iU (gS (XD (.inl w) E.u (aP E.nI) (aP E.fc) Jf) rfl)))))))) (fun hc => ?_) (fun hc => aK ?_)
   . rw [Jf] at hc
     have wJ : gK ws w = [] \/ some c = some true := by
       cases c with
       | true => exact .inr rfl
       | false =>
         rw [Bool.and_false, Bool.or_false] at hc
         exact .inl ((OG rfl).mp hc)
     rw [aml wJ]
     exact cg y0.cb rfl
   . rw [Jf] at hc
     have hc1 : ¬ gK ws w = [] := fun z => by
       rw [(OG rfl).mpr z] at hc
       cases hc
     have hc3 : c = false := by
       cases c with
       | true => rw [Option.isSome_some, Bool.and_true, Bool.or_true] at hc; cases hc
       | false => rfl
     subst hc3
     rw [amg (fun z => z.elim hc1 (fun z => by cases z)), aml rfl]
     refine dU y0.aM (fun _ => ?_) (fun hz => by rw [Jf] at hz; cases hz)
     exact cg (cL (bu (cF s E.tK E.jQ (aG y0.X bE) trivial) b9) (aM rfl)) rfl
 | none =>
   have Jf : yL (Qs s.hl) (.inl w) = none := by rw [hv, hlk]; rfl
   refine dU (k7 (sY (fj (ah (lY E.cJ (aP E.eO) E.cO)) (ah av)).1 (fun _ => m9 (k7 (iD (q := false) y0.aM (fun hz => by rw [Jf] at hz; cases hz)))))) (fun hc => ?_) (fun hc => aK ?_)
   . rw [Jf] at hc
     have wJ : gK ws w = [] := by
       rw [Bool.and_false, Bool.or_false] at hc
       exact (OG rfl).mp hc
     rw [aml (.inl wJ)]
     exact cg y0.cb rfl
   . have hc1 : ¬ gK ws w = [] := fun z => by
       rw [(OG rfl).mpr z] at hc
       cases hc
     rw [amg (fun z => z.elim hc1 (fun z => by cases z)), amg (fun z => by cases z)]
     refine dU y0.aM (fun hz => by rw [Jf] at hz; cases hz) (fun _ => aK ?_)
     have wK : ∀ c : Bool, fZ (s.hl, w, c) := fun c => by dsimp only [fZ]; exact ⟨hlk, hh⟩
     have qD : (gK ws w).map ql ≠ [] := fun z => hc1 (List.map_eq_nil_iff.mp z)
     refine bq E.g E.D3 (mh (d := sW ⟨s.i, s.j, s.qs ++ gK ws w, s.pk, s.hl ++ [(w, true)]⟩) (wN (bu y0.cf (bu (cZ y0.X (ah (bD E.yu E.yt)) y0.at) (bu (vf y0.r (v_ E.eO.1) qD (by rw [amh, amh, amV]; omega)) (bu y0.s (bu (bz (cF (s.hl, w, true) E.yw E.mK (aG (v_ E.nI.1) (aG (v_ E.fc.1) (aG qy bE))) (wK true)) (t2 := .kZ (Qs (s.hl ++ [(w, true)]))) rfl) b9))))) (aM rfl)) (by
       rw [T.eF, T.dQ, T.dQ, T.dQ, T.dQ, T.dQ, T.dQ, T.eF, T.eF, T.eF, T.eF, T.eF, ← amP]
       rfl)) ?_
     refine bq E.g E.D4 (mh (d := sW ⟨s.i, s.j, s.qs, s.pk, s.hl ++ [(w, false)]⟩) (wN (bu y0.cf (bu (cZ y0.X (ah (bD E.yu E.yt)) y0.at) (bu y0.r (bu y0.s (bu (bz (cF (s.hl, w, false) E.yw E.mK (aG (v_ E.nI.1) (aG (v_ E.fc.1) (aG qy bE))) (wK false)) (t2 := .kZ (Qs (s.hl ++ [(w, false)]))) rfl) b9))))) (aM rfl)) (by
       rw [T.eF, T.dQ, T.dQ, T.dQ, T.dQ, T.dQ, T.dQ, T.eF, T.eF, T.eF, T.eF, T.eF]
       rfl)) ?_
     exact cg (cL (bu (cF ⟨s.i, s.j, s.qs, s.pk, s.hl ++ [(w, false)]⟩ E.tK E.jQ (aG (v_ E.D4.1) bE) trivial) (bu (cF (Qt ⟨s.i, s.j, s.qs ++ gK ws w, s.pk, s.hl ++ [(w, true)]⟩ w) E.jf E.fH (aG (cF ((⟨s.i, s.j, s.qs ++ gK ws w, s.pk, s.hl ++ [(w, true)]⟩ : tE), w) E.qX E.j8 (aG (v_ E.D3.1) (aG (v_ E.fc.1) bE)) (by exact hp2)) bE) trivial) b9)) (aM rfl)) rfl
theorem ck : n9 (aF sj) ([("chart", aJ), ("rows", aJ), ("branch", aJ), ("way", aJ), ("asks", aJ), ("held", aJ), ("holding", aJ), ("failing", aJ), ("WAY", aH), ("len", aH), ("LEAF", aH), ("at_next_leaf", aH), ("number_asks", aH), ("HELD", aH), ("with_pick", aH), ("at_next_way", aH), ("ASKED", aH), ("PICKED", aH), ("with_held", aH)]) = true := by decide +kernel
theorem AQ : bC ["chart", "rows", "branch", "way", "asks", "held", "holding", "failing"] ["chart", "rows", "branch"] (aF sj) := bJ
abbrev zu : Stmt := top 7
abbrev FP : Type := List Str × List Int × List Int × Int
def sq : FP -> List L3.D := fun (ks, es, ss, m) => [j3 ks es ss, .int m]
def oM : FP -> Prop := fun (ks, es, ss, m) => jZ es /\ 0 <= m /\ m < es.length /\ es.length <= 1000
def sr : FP -> T := fun (ks, es, ss, m) => (.lst (((iO es m).map .int).map T.sh) : T)
structure YD (X : Cx) (CL : Str -> Addr) : Prop extends dJ X where
 nB : Ln X 0 "tree"
 t7 : Ln X 1 "mood"
 cK : Ln X 2 "found"
 jR : Ln X 3 "elder"
 nA : Dn X.K (CL "Tree")
 jH : cS X.K (CL "Tree") "elders"
theorem YF {X : Cx} {CL : Str -> Addr} {b : Bx} (E : YD X CL) (ks es ss m) (h : oM (ks, es, ss, m)) :
   aR X CL b zu ["tree", "mood", "found", "elder"] (sq (ks, es, ss, m)) (sr (ks, es, ss, m)) := by
 dsimp only [aR, oM, sq, sr] at h ⊢
 obtain ⟨ht, h0, h1, hlen⟩ := h
 refine bq E.g E.cK y0.aU ?_
 refine bq E.g E.jR (gS (cB (wV E.nA E.jH (aP E.nB) yo) (aP E.t7) (gy h0 h1)) rfl) ?_
 have hm := ht.at h0 h1
 refine yW E.g (fun n δ => ∃ (k : Int) (l : List Int), δ = [some (.sh y0.br), some (.sh (.int m)), some (.lst ((l.map .int).map T.sh)), some (.sh (.int k))] /\ -1 <= k /\ k < n /\ k < es.length /\ l ++ zc n es k = iO es m /\ l.length + n <= es.length + 1) (es.length + 1)
   ⟨es.getD m.toNat 0, [], rfl, hm.1, by omega, by omega, rfl, by simp⟩ ?_
 rintro n δ ⟨k, l, rfl, k0, k1, k2, k3, k4⟩
 refine ⟨_, _, (Ex (aP E.jR) (ah (k9 (ah av)))).1, fun hp => ?_, fun hp => ?_⟩
 . have hk : ¬ k = -1 := by simpa using hp
   have ha := ht.at (k := k) y0.b k2
   cases n with
   | zero => omega
   | succ n =>
     refine jq E.cK.1 rfl (v_ E.jR.1) rfl y0.O ?_
     refine bq E.g E.jR (gS (cB (wV E.nA E.jH (aP E.nB) yo) (aP E.jR) (gy y0.b k2)) rfl) ?_
     refine aK ⟨n, Nat.lt_succ_self _, es.getD k.toNat 0, l ++ [k], ?_, ha.1, by omega, by omega, ?_, by simp; omega⟩
     . show [_, _, some (T.lst (((l.map D.int).map T.sh) ++ [T.sh (.int k)])), _] = _
       simp
     . rw [← k3, zc, amg hk, amr]
       rfl
 . have hk : k = -1 := by simpa using hp
   subst hk
   have e : l = iO es m := by
     rw [← k3]
     cases n with
     | zero => rw [zc, amH]
     | succ n => rw [zc, aml rfl, amH]
   subst e
   exact cg (vM E.cK.1) rfl
theorem vJ : n9 (aF zu) ([("tree", aJ), ("mood", aJ), ("found", aJ), ("elder", aJ)]) = true := by decide +kernel
theorem Jg : bC ["tree", "mood", "found", "elder"] ["tree", "mood"] (aF zu) := bJ
abbrev FQ : Stmt := top 10
abbrev LW : Type := List pG × List Int
def vK : LW -> List L3.D := fun (l, ops) => [.tup (l.map gC), .lst y0.ah]
def qY : LW -> Prop := fun (l, ops) => ∀ a ∈ l, a.Yc
def vN : LW -> T := fun (l, ops) => (.sh (.bl (kG ops (l.map gC))) : T)
structure ac8 (X : Cx) (CL : Str -> Addr) : Prop extends dJ X where
 eO : Ln X 0 "asks"
 bX : Ln X 1 "opens"
 lM : Ln X 2 "ask"
theorem ac9 {X : Cx} {CL : Str -> Addr} {b : Bx} (E : ac8 X CL) (l ops) (h : qY (l, ops)) :
   aR X CL b FQ ["asks", "opens", "ask"] (vK (l, ops)) (vN (l, ops)) := by
 dsimp only [aR, qY, vK, vN] at h ⊢
 show fD X CL b _ _ { nx := _, rt := fun K9 _ => K9 = T.sh (.bl (kG ops (l.map gC))), bk := _, ct := _ }
 refine kF E.g E.lM (fun j δ => ∃ o, (∀ d ∈ (l.map gC).take j, Ca ops d = true) /\ δ = [some (.sh (.tup (l.map gC))), some y0.ce, o])
   (Ez (v_ E.eO.1)) ⟨_, fun x hx => by simp at hx, rfl⟩ (fun j δ ⟨_, _, e⟩ => by subst e; exact amm rfl) ?turn ?fin
 case turn =>
   rintro j d δ hj ⟨o, qD, rfl⟩
   have htk : (l.map gC).take (j + 1) = (l.map gC).take j ++ [d] := by rw [aoh, hj]; rfl
   have hdm : d ∈ l.map gC := anb hj
   have no : Ca ops d = false -> kG ops (l.map gC) = false := fun e => List.all_eq_false.mpr ⟨d, hdm, by rw [e]; decide⟩
   obtain ⟨a, ha, rfl⟩ := amI.mp hdm
   have hk := h a ha
   have nxt : Ca ops (gC a) = true -> ∀ y ∈ (l.map gC).take (j + 1), Ca ops y = true := fun e y hy => by
     rw [htk] at hy
     rcases amx.mp hy with hy | hy
     . exact qD y hy
     . rw [amQ.mp hy]; exact e
   cases a with
   | num mk b1 m1 b2 m2 =>
     obtain ⟨n1, n2⟩ := Od hk
     refine dU (k7 (iD (q := false) (iC y0.K (ah bS)).1 (fun hb => absurd (amC hb) n1))) y0.aW (fun _ => aK ?_)
     refine dU (k7 (iD (q := false) (iC y0.K (ah bS)).1 (fun hb => absurd (amC hb) n2))) y0.aW (fun _ => aK (aK ⟨_, nxt rfl, rfl⟩))
   | xg op m =>
     have hf := IB ops op m
     refine dU (k7 (iD (iC y0.K (ah bS)).1 (fun _ => lX (yZ y0.K (aP E.bX) rfl rfl).1))) (fun hp => ?_) (fun hp => aK ?_)
     . have hp : y0.bW = true := hp
       refine cg qy ?_
       rw [no]
       rw [hf]
       cases op with
       | false => exact absurd hp (by rw [show decide (y0.P = "open") = false by decide +kernel]; simp)
       | true => rw [Bool.and_eq_true] at hp; simpa using hp.2
     have hp : y0.bW = false := hp
     refine dU (k7 (iD (iC y0.K (ah bS)).1 (fun _ => lX (rV y0.K (aP E.bX) rfl rfl).1))) (fun hq => ?_) (fun hq => aK (aK ⟨_, nxt ?_, rfl⟩))
     . have hq : y0.bX = true := hq
       refine cg qy ?_
       rw [no]
       rw [hf]
       cases op with
       | true => exact absurd hq (by rw [show decide (y0.R = "shut") = false by decide +kernel]; simp)
       | false => rw [Bool.and_eq_true] at hq; simpa using hq.2
     . have hq : y0.bX = false := hq
       rw [hf]
       cases op with
       | true => rw [show decide (y0.R = "open") = true by decide +kernel, Bool.true_and] at hp; simpa using hp
       | false => rw [show decide (y0.P = "shut") = true by decide +kernel, Bool.true_and] at hq; simpa using hq
 case fin =>
   rintro δ ⟨o, qD, rfl⟩
   rw [List.take_length] at qD
   refine cg qy ?_
   rw [show kG ops (l.map gC) = true from ano.mpr qD]
theorem FT : n9 (aF FQ) ([("asks", aJ), ("opens", aJ), ("ask", aJ)]) = true := by decide +kernel
theorem OI : bC ["asks", "opens", "ask"] ["asks", "opens"] (aF FQ) := bJ
abbrev vO : Stmt := top 9
abbrev AU : Type := List L3.D × List L3.D × List Str × List Int × List Int × List L3.D × List L3.D × List dw × List Int × Int × Str
def pT : AU -> List L3.D := fun (bs, nm, ks, es, ss, is, os, ws, ops, leaf, sg) => [iE bs nm y0.br is os y0.as, .lst y0.ah, .int leaf, .str sg]
def jA : AU -> Prop := fun (bs, nm, ks, es, ss, is, os, ws, ops, leaf, sg) => jZ es /\ es.length <= 900 /\ 0 <= leaf /\ leaf < es.length /\ ws.length <= 63 /\ xj ws
def pU : AU -> T := fun (bs, nm, ks, es, ss, is, os, ws, ops, leaf, sg) => (.lst (((Ko ws ops sg (leaf :: iO es leaf)).map .int).map T.sh) : T)
structure U1 (X : Cx) (CL : Str -> Addr) : Prop extends dJ X where
 dh : Ln X 0 "chart"
 mE : X.env.kindOf "chart" = some .cell
 bX : Ln X 1 "opens"
 jB : Ln X 2 "leaf"
 iI : Ln X 3 "sign"
 cK : Ln X 4 "found"
 d7 : Ln X 5 "number"
 fc : Ln X 6 "way"
 LX : Ln X 7 "line"
 ada : X.env.kindOf "line" = some .cell
 FU : Gl X "above"
 Jh : Gl X "enumerate"
 adb : Gl X "SIGN"
 U3 : Gl X "SOURCE"
 LY : Gl X "fits"
 LQ : Gl X "ASKS"
 AG : Gl X "sorted"
 YG : Fc X CL "above" 1 2 sq oM sr
 Ji : X.mg "enumerate" = none
 ade : ∃ u, X.mg "SIGN" = some (.int 1 u)
 Jj : ∃ u, X.mg "SOURCE" = some (.int 0 u)
 adf : Fc X CL "fits" 1 2 vK qY vN
 LR : ∃ u, X.mg "ASKS" = some (.int 2 u)
 AH : X.mg "sorted" = none
 fz : Dn X.K y0.bl
 gO : cS X.K y0.bl "ways"
 i9 : cS X.K y0.bl "tree"
 lam : XI X CL "#goable.<locals>.<lambda>" "goable.<locals>.<lambda>"
 dp : X.A.depth < recursionLimit
 rm : gb 1 X.A
theorem U4 {X : Cx} {CL : Str -> Addr} {b : Bx} (E : U1 X CL) (bs nm ks es ss is os ws ops leaf sg) (h : jA (bs, nm, ks, es, ss, is, os, ws, ops, leaf, sg)) :
   aR X CL b vO ["chart", "opens", "leaf", "sign", "found", "number", "way", "line"] (pT (bs, nm, ks, es, ss, is, os, ws, ops, leaf, sg)) (pU (bs, nm, ks, es, ss, is, os, ws, ops, leaf, sg)) := by
 dsimp only [aR, jA, pT, pU] at h ⊢
 obtain ⟨ht, hl, f0, f1, NV, Ws⟩ := h
 have hcl : (iO es leaf).length <= es.length + 1 := EZ _ _ _
 have er : ([L3.D.int leaf] ++ (iO es leaf).map L3.D.int) = (leaf :: iO es leaf).map L3.D.int := rfl
 refine bq E.g E.LX (bz (rS (ds := [.int leaf]) (uP := (iO es leaf).map .int) (bY (ds := [.int leaf]) (cL (bu (v_ E.jB.1) b9) (aM rfl))) (bY (c_ (ks, es, ss, leaf) E.YG E.FU (aj (wV E.fz E.i9 (aP E.dh) Ag) (aj (aP E.jB) aV)) (by dsimp only [oM]; exact ⟨ht, f0, f1, by omega⟩) (cT _))) rfl (fP _) (Nat.le_of_lt (cQ y0.O))) (t2 := .lst (((leaf :: iO es leaf).map .int).map T.sh)) rfl) ?_
 generalize leaf :: iO es leaf = ln
 refine bq E.g E.cK y0.aU ?_
 have aI : ∀ (l : List Int) (x : Int), (l.map L3.D.int).map T.sh ++ [T.sh (.int x)] = ((l ++ [x]).map L3.D.int).map T.sh := by intros; simp
 refine ab2 E.g (Xp E.g.nd E.g.calm E.d7 E.fc) (fun j δ => ∃ o5 o6, δ = [some (.sh (iE bs nm y0.br is os y0.as)), some y0.ce, some (.sh (.int leaf)), some (.sh (.str sg)), some (.lst ((((UB ws ops sg ln j).map fun (k : Nat) => (k : Int)).map .int).map T.sh)), o5, o6, some (.lst ((ln.map .int).map T.sh))])
   (TN (f := dz) (l := ws) w0 E.Ji (Tq E.fz E.gO (v_ E.dh.1) tX) E.Jh) ⟨_, _, rfl⟩ (fun j δ ⟨_, _, e⟩ => by subst e; intro i hi; simp only [amt, amJ, aof] at hi; rcases hi with rfl | rfl <;> exact amm rfl) ?turn ?fin
 case turn =>
   rintro j d δ hj ⟨o5, o6, rfl⟩
   obtain ⟨i, rfl, hi, him, hil, _, _⟩ := EG hj
   have ei : i = j := by
     rw [List.getElem?_range (by simpa using (List.getElem?_eq_some_iff.mp hi).1)] at hi
     exact (amK hi).symm
   subst ei
   have hil : i < ws.length := amZ.mp him
   refine ⟨_, rfl, ?_⟩
   obtain ⟨w, hw⟩ : ∃ w, ws.getD i w0 = w := ⟨_, rfl⟩
   have hwm : w ∈ ws := by rw [← hw, amk, amq hil]; exact anu _
   obtain ⟨al, Qd, hao⟩ := Ws w hwm
   show fD X CL b _ _ { nx := fun δ => ∃ o5 o6, δ = [_, _, _, _, some (.lst ((((UB ws ops sg ln (i + 1)).map fun (k : Nat) => (k : Int)).map .int).map T.sh)), o5, o6, _], rt := _, bk := _, ct := _ }
   rw [UC, hw]
   have T8 := E7 ws ops sg ln i
   generalize UB ws ops sg ln i = fl at T8 ⊢
   refine dU (k7 (iD (iC (bL (aP E.fc) (ah (bD E.ade E.adb)) y0.at) (aP E.iI)).1 (fun _ => iD (rV (bL (aP E.fc) (ah (bD E.Jj E.U3)) y0.aj) (vL E.LX.1) rfl rfl).1 (fun _ => lX (iU (bz (c_ (al, ops) E.adf E.LY (aj (gU (bL (aP E.fc) (ah (bD E.LR E.LQ)) (aY (j := 2) rfl)) (congrArg L3.D.tup Qd)) (aj (aP E.bX) aV)) (by dsimp only [qY]; exact hao) rfl) (t2 := .sh (.bl (kG ops w.asks))) (by rw [Qd]; rfl))))))) (fun hp => ?_) (fun hp => aK (aK ?_))
   . have hp : Yd ops sg ln w = true := hp
     refine jq E.cK.1 rfl (v_ E.d7.1) rfl y0.O (aK (aK ?_))
     rw [aI, aml hp, amP]
     exact ⟨_, _, rfl⟩
   . have hp : Yd ops sg ln w = false := hp
     rw [amg (by rw [hp]; decide), amH]
     exact ⟨_, _, rfl⟩
 case fin =>
   rintro δ ⟨o5, o6, rfl⟩
   rw [amh, anc]
   have T8 := E7 ws ops sg ln ws.length
   have TH : ∀ {k : Nat}, k ∈ UB ws ops sg ln ws.length -> k < ws.length /\ (ws.getD k w0).src ∈ ln := fun hk => by
     obtain ⟨h1, h2⟩ := anm.mp hk
     simp only [Yd, am1, anE] at h2
     exact ⟨amZ.mp h1, h2.2.1⟩
   refine cg (bz (Le (y := "way") (g := fun d => ((xh ln (ws.getD d.sV.toNat w0).src : Nat) : Int)) E.lam E.g E.dp E.AH E.AG (c6 (.cons E.dh.1 (.inl E.mE) (.cons E.LX.1 (.inl E.ada) .nil)) y0.a) (vL E.cK.1) (fP _) y0.O (fun f c s0 H0 b' d hd => ?key)) ?eq) rfl
   case key =>
     obtain ⟨x, hx, rfl⟩ := amI.mp hd
     obtain ⟨k, hk, rfl⟩ := amI.mp hx
     obtain ⟨k1, k2⟩ := TH hk
     have DR : uN y0.as (k : Int) = some (dz (ws.getD k w0)) := (iW (f := dz) w0 y0.b y0.b).trans (by rw [amS])
     refine ah (bz (Ud (l := ln) (j := xh ln (ws.getD k w0).src) (gU (ah (v_ (T9 (i := 2) rfl y0.a))) (eB _)) (bL (cB (wV (by exact E.fz) (by exact E.gO) (ah (v_ (T9 (i := 1) rfl y0.a))) tX) (ah (v_ (acq (i := 0) rfl y0.a))) DR) (ah (bD (by exact E.Jj) (acr y0.a))) y0.aj) (E6 k2) (fun i hi => acI hi)) ?_)
     show T.sh (.int _) = T.sh (.int ((xh ln (ws.getD (k : Int).toNat w0).src : Nat) : Int))
     rw [amS]
   case eq =>
     rw [rX]
     rfl
theorem c9 : n9 (aF vO) ([("chart", .cell), ("opens", aJ), ("leaf", aJ), ("sign", aJ), ("found", aJ), ("number", aJ), ("way", aJ), ("line", .cell), ("above", aH), ("enumerate", aH), ("SIGN", aH), ("SOURCE", aH), ("fits", aH), ("ASKS", aH), ("sorted", aH)]) = true := by decide +kernel
theorem D5 : bC ["chart", "opens", "leaf", "sign", "found", "number", "way", "line"] ["chart", "opens", "leaf", "sign"] (aF vO) := bJ
def eG (ws : List dw) (ops : List Int) (sg : Str) (es l : List Int) : List (List Int) := l.map fun m => Ko ws ops sg (m :: iO es m)
def U5 (R : List (List Int)) : T := .lst (R.map fun l => T.lst ((l.map L3.D.int).map T.sh))
theorem AV : ∀ R : List (List Int), T.dQ (R.map fun l => T.lst ((l.map L3.D.int).map T.sh)) = R.map fun l => L3.D.lst (l.map .int)
 | [] => by show T.dQ [] = _; rw [T.dQ]; rfl
 | l :: R => by
   show T.dQ (T.lst ((l.map L3.D.int).map T.sh) :: R.map fun l => T.lst ((l.map L3.D.int).map T.sh)) = _
   rw [T.dQ, eB, AV R]
   rfl
theorem xq (R : List (List Int)) : (U5 R).eF = vI R := by unfold U5 vI; rw [T.eF, AV]
theorem D6 (R : List (List Int)) : jw R ⟨0, 0, [], [], []⟩ = R := by
 unfold jw
 cases R with
 | nil => rfl
 | cons l R => rfl
theorem AW {ws : List dw} {ops : List Int} {sg : Str} {es l : List Int} : ∀ r ∈ eG ws ops sg es l, (∀ w ∈ r, 0 <= w /\ w < (ws.length : Int)) /\ r.length <= ws.length := fun r hr => by
 obtain ⟨m, _, rfl⟩ := amI.mp hr
 exact ⟨fun w hw => Yi hw, Yg _ _ _ _⟩
theorem LZ {R : List (List Int)} {k : Nat} (h : ∀ r ∈ R, r.length <= k) : kH R <= R.length * (k + 1) := by
 induction R with
 | nil => exact amM _
 | cons l R ih =>
   have := ih fun r hr => h r (amn _ hr)
   have := h l amj
   rw [bF, amB, Nat.succ_mul]
   omega
abbrev lN : Stmt := top 30
abbrev ud : Type := List L3.D × List L3.D × List Str × List Int × List Int × List L3.D × List L3.D × List dw × List Int × Str × Nat
def jg : ud -> List L3.D := fun (bs, nm, ks, es, ss, is, os, ws, ops, sg, mo) => [iE bs nm y0.br is os y0.as, .lst y0.ah, .str sg, .int mo]
def fN : ud -> Prop := fun (bs, nm, ks, es, ss, is, os, ws, ops, sg, mo) => (jZ es /\ es.length <= 900 /\ ks.length = es.length) /\ (ws.length <= 63 /\ xj ws /\ LV ws) /\ (ops.length <= 30 /\ ∀ x ∈ ops, 0 <= x /\ x < (es.length : Int)) /\ (jD ws y0.j [] [] []).length <= mo /\ mo <= 1000
def jh : ud -> T := fun (bs, nm, ks, es, ss, is, os, ws, ops, sg, mo) => (.lst (((jD ws y0.j [] [] []).map Cb).map T.sh) : T)
structure AX (X : Cx) (CL : Str -> Addr) : Prop extends dJ X where
 dh : Ln X 0 "chart"
 mE : X.env.kindOf "chart" = some .cell
 bX : Ln X 1 "opens"
 zv : X.env.kindOf "opens" = some .cell
 iI : Ln X 2 "sign"
 U6 : X.env.kindOf "sign" = some .cell
 nh : Ln X 3 "most"
 pS : Ln X 4 "rows"
 cK : Ln X 5 "found"
 iS : Ln X 6 "waiting"
 aW : Ln X 7 "branch"
 jS : Gl X "open_leaves"
 jy : Gl X "LEAF"
 cO : Gl X "len"
 su : Gl X "further"
 jb : Gl X "ASKED"
 gE : Gl X "PICKED"
 xr : Gl X "TooWide"
 tL : Fc X CL "open_leaves" 1 2 ia eU ic
 jz : ∃ u, X.mg "LEAF" = some (.int 0 u)
 cJ : X.mg "len" = none
 D7 : Fc X CL "further" 2 3 mH iR mJ
 jc : ∃ u, X.mg "ASKED" = some (.int 2 u)
 gF : ∃ u, X.mg "PICKED" = some (.int 3 u)
 uf : X.mg "TooWide" = some y0.T
 AY : z8 X.K (CL "TooWide")
 lO : Fc X CL "goable" 2 4 pT jA pU
theorem L0 {X : Cx} {CL : Str -> Addr} {b : Bx} (E : AX X CL) (bs nm ks es ss is os ws ops sg mo) (h : fN (bs, nm, ks, es, ss, is, os, ws, ops, sg, mo)) :
   aR X CL b lN ["chart", "opens", "sign", "most", "rows", "found", "waiting", "branch"] (jg (bs, nm, ks, es, ss, is, os, ws, ops, sg, mo)) (jh (bs, nm, ks, es, ss, is, os, ws, ops, sg, mo)) := by
 dsimp only [aR, fN, jg, jh] at h ⊢
 obtain ⟨⟨ht, RX, Yq⟩, ⟨NV, Ws, hag⟩, ⟨hol, ho⟩, YH, aiQ⟩ := h
 have hlv : ∀ x ∈ jo ks ops, 0 <= x /\ x < (es.length : Int) := fun x hx => ho x (anm.mp hx).1
 have hll : (jo ks ops).length <= ops.length := anz _ _
 refine pC (p := fun _ => true) (gg := fun d => T.lst (((Ko ws ops sg (d.sV :: iO es d.sV)).map L3.D.int).map T.sh)) E.g E.pS (c6 y0.bI y0.a)
   (wR y0.H) y0.bn (fun C s0 H0 f0 b' d hd => ?Fo) (Nat.le_of_lt (cQ (by rw [List.length_map]; omega))) ?rest (by exact Nat.le_of_ble_eq_true rfl) y0.bd
 case Fo =>
   obtain ⟨x, hx, rfl⟩ := amI.mp hd
   obtain ⟨x0, x1⟩ := hlv x hx
   exact ⟨rfl, fun _ => bz y0.cm rfl⟩
 case rest =>
 have em : (((jo ks ops).map L3.D.int).filter fun _ => true).map (fun d => T.lst (((Ko ws ops sg (d.sV :: iO es d.sV)).map L3.D.int).map T.sh)) = (eG ws ops sg es (jo ks ops)).map fun l => T.lst ((l.map L3.D.int).map T.sh) := by
   rw [e7, amO]
   unfold eG
   rw [amO]
   rfl
 rw [em]
 have U7 := AW (ws := ws) (ops := ops) (sg := sg) (es := es) (l := jo ks ops)
 have hRl : (eG ws ops sg es (jo ks ops)).length <= 30 := by unfold eG; rw [amh]; omega
 generalize eG ws ops sg es (jo ks ops) = R at U7 hRl YH ⊢
 refine aaF (i := 4) (d := vI R) rfl (xq R) ?_
 have hM : kH R <= 2000 := by
   have h1 := LZ (R := R) (k := ws.length) fun r hr => (U7 r hr).2
   have h2 : R.length * (ws.length + 1) <= 30 * 64 := Nat.mul_le_mul hRl y0.b
   omega
 refine bq E.g E.cK y0.aU ?_
 refine bq E.g E.iS (bz (cL (bu (mh (d := sW ⟨0, 0, [], [], []⟩) (wN (bu av (bu av (bu y0.bs (bu y0.bs (bu N7 b9))))) (aM rfl)) (by
   simp only [T.eF, T.dQ]
   rfl)) b9) (aM rfl)) (t2 := .lst ((([⟨0, 0, [], [], []⟩] : List tE).map sW).map T.sh)) rfl) ?_
 generalize hE : jD ws R [] [] [] = EE at YH ⊢
 refine yW E.g (fun n δ => ∃ (W : List tE) (F : List (List Ask × List Int)) (o : Option T), δ = [some (.sh (iE bs nm y0.br is os y0.as)), some y0.ce, some (.sh (.str sg)), some (.sh (.int mo)), some (.sh (vI R)), some (.lst ((F.map Cb).map T.sh)), some (.lst ((W.map sW).map T.sh)), o] /\ (∀ s ∈ W, IG (kH R) 0 ws R s) /\ F ++ (W.reverse.map (lq ws R)).flatten = EE /\ n = (W.map (Cd R)).sum) _
   ⟨[⟨0, 0, [], [], []⟩], [], none, rfl, fun s hs => ?_, ?_, rfl⟩ ?_
 . rw [amQ.mp hs]
   have e := D6 R
   exact ⟨amM _, amM _, by rw [e]; show 0 + _ <= _; omega, by rw [e]; show 0 + _ <= _; omega, by rw [e]; show 0 + _ <= _; omega⟩
 . show jD ws (jw R ⟨0, 0, [], [], []⟩) [] [] [] ++ [] = EE
   rw [amH, D6, hE]
 rintro n δ ⟨W, F, o, rfl, hW, hF, rfl⟩
 have hlen : F.length + W.length <= EE.length := by
   rw [← hF, amv]
   have gen : ∀ l : List tE, l.length <= ((l.map (lq ws R)).flatten).length := fun l => by
     induction l with
     | nil => exact amM _
     | cons s l ih =>
       have := Oi ws (jw R s) s.qs s.pk s.hl
       rw [amD, anR, amv, amB]
       show _ <= (jD ws (jw R s) s.qs s.pk s.hl).length + _
       omega
   have := gen W.reverse
   rw [List.length_reverse] at this
   omega
 refine ⟨_, _, Ug (vL E.iS.1), fun hp => ?_, fun hp => ?_⟩
 . have qD : W ≠ [] := fun z => by rw [z] at hp; cases hp
   obtain ⟨W, s, rfl⟩ : ∃ W' s, W = W' ++ [s] := ⟨W.dropLast, W.getLast qD, (List.dropLast_concat_getLast qD).symm⟩
   have eW : ((W ++ [s]).map sW).map T.sh = (W.map sW).map T.sh ++ [T.sh (sW s)] := by simp
   rw [eW]
   refine T3 E.g E.aW (Uh E.iS.1 rfl) ?_
   have hs := hW s (ami _ amj)
   have hW2 : ∀ t ∈ W, IG (kH R) 0 ws R t := fun t ht => hW t (amw _ ht)
   have eR : ((W ++ [s]).reverse.map (lq ws R)).flatten = lq ws R s ++ (W.reverse.map (lq ws R)).flatten := by
     rw [aok]
     rfl
   rw [eR] at hF
   have hwt : ((W ++ [s]).map (Cd R)).sum = (W.map (Cd R)).sum + Cd R s := by
     rw [amP, List.sum_append]
     show _ + (Cd R s + 0) = _
     omega
   have Jk : (R.map fun l => L3.D.lst (l.map .int)).length = R.length := amh ..
   have G7 := hs.q1
   have hp1 := hs.p1
   have hh1 := hs.h1
   rw [amv] at hlen
   refine dU (N3 y0.aa (ah (dg Jk E.cJ (aP E.pS) E.cO))).1 (fun hc => ?_) (fun hc => ?_)
   . have hc : (s.i : Int) < (R.length : Nat) := amC hc
     obtain ⟨g1, g2, g3, g4⟩ := UE hs y0.b (fun w => hag.len w)
     refine aaC E.iS.1 rfl y0.z rfl (by simp only [List.length_map]; omega) (aK (aK ?_))
     refine ⟨((W ++ Hf ws R s).map (Cd R)).sum, ?_, W ++ Hf ws R s, F, some (.sh (sW s)), ?_, fun t ht => ?_, ?_, rfl⟩
     . rw [hwt, amP, List.sum_append]
       omega
     . rw [amP, amP]
       rfl
     . rcases amx.mp ht with z | z
       . exact hW2 t z
       . exact g1 t z
     . rw [← hF, g2, aok, amP, List.flatten_append]
   . have hc : ¬ (s.i : Int) < (R.length : Nat) := amR hc
     have eX : lq ws R s = [(s.qs, s.pk)] := by
       unfold lq
       rw [show jw R s = [] by unfold jw; rw [amg y0.b], pH]
     rw [eX] at hF
     have hFl : (F.map Cb).length = F.length := amh ..
     refine dU (N3 (ah (dg hFl E.cJ (vL E.cK.1) E.cO)) (aP E.nh)).1 (fun hd => ?_) (fun hd => ?_)
     . refine jq E.cK.1 rfl (bT (aG y0.r (aG y0.s bE)) (aM rfl)) rfl (by simp only [amh]; omega) (aK (aK (aK ?_)))
       refine ⟨(W.map (Cd R)).sum, ?_, W, F ++ [(s.qs, s.pk)], some (.sh (sW s)), ?_, hW2, ?_, rfl⟩
       . rw [hwt]
         have : 0 < Cd R s := Nat.pow_pos y0.g
         omega
       . rw [amP, amP]
         rfl
       . rw [← hF, amr]
     . have hd : ¬ (F.length : Int) < (mo : Int) := amR hd
       simp only [amB, anP] at hlen
       omega
 . have qD : W = [] := by
     cases W with
     | nil => rfl
     | cons s W => cases hp
   subst qD
   have e : F = EE := by rw [← hF]; simp
   subst e
   exact cg (vM E.cK.1) rfl
theorem OJ : ∀ {l : List Nat} {n : Nat}, n ∈ l -> n <= l.sum
 | [], _, h => by cases h
 | m :: l, n, h => by
   rw [List.sum_cons]
   rcases amt.mp h with rfl | h
   . omega
   . have := OJ h; omega
theorem OL {α : Type} {f : α -> Nat} : ∀ {W : List α} {M : Nat}, W.Pairwise (fun a b => f b < f a) -> (∀ s ∈ W, f s <= M) -> W.length <= M + 1
 | [], _, _, _ => amM _
 | s :: W, M, h, k => by
   rw [am9] at h
   have a := k s amj
   cases W with
   | nil => rw [anx]; omega
   | cons t W =>
     have z := h.1 t amj
     have := OL (M := M - 1) h.2 fun x hx => by have := h.1 x hx; omega
     rw [amB]; omega
theorem YJ {ws : List dw} {R : List (List Int)} {s : tE} (hi : s.i < R.length) (hj : s.j <= (R.getD s.i []).length) : (Hf ws R s).Pairwise (fun a b => kH (jw R b) < kH (jw R a)) := by
 obtain ⟨i, j, q, p, hl⟩ := s
 dsimp only at hi hj
 unfold Hf
 dsimp only
 split
 . exact anA ..
 . split
   . exact anA ..
   . split
     . exact anA ..
     . rw [am9]
       refine ⟨fun t ht => ?_, anA ..⟩
       rw [amQ.mp ht]
       generalize (R.getD i []).getD j 0 = w
       rw [show Qt ⟨i, j, q ++ gK ws w, p, hl ++ [(w, true)]⟩ w = ⟨i, j, q ++ gK ws w, lV p w, hl ++ [(w, true)]⟩ from rfl, jE]
       unfold jw G9
       dsimp only
       rw [aml hi, bF]
       omega
abbrev pV : Type := List L3.D × List L3.D × List Str × List Int × List Int × List L3.D × List L3.D × List dw × List Int × Str × Nat
def gG : pV -> List L3.D := fun (bs, nm, ks, es, ss, is, os, ws, ops, sg, mo) => [iE bs nm y0.br is os y0.as, .lst y0.ah, .str sg, .int mo]
def dD : pV -> Prop := fun (bs, nm, ks, es, ss, is, os, ws, ops, sg, mo) => (jZ es /\ es.length <= 900 /\ ks.length = es.length) /\ (ws.length <= 63 /\ xj ws /\ LV ws) /\ (ops.length <= 64 /\ ∀ x ∈ ops, 0 <= x /\ x < (es.length : Int)) /\ mo < (jD ws y0.j [] [] []).length /\ mo <= 1000
def gH : pV -> Str := fun (bs, nm, ks, es, ss, is, os, ws, ops, sg, mo) => "TooWide"
theorem Jl {X : Cx} {CL : Str -> Addr} {b : Bx} {W : XK} (E : AX (X.wish (XE X W)) CL) (bs nm ks es ss is os ws ops sg mo) (h : dD (bs, nm, ks, es, ss, is, os, ws, ops, sg, mo)) (hE : zb b W (CL (gH (bs, nm, ks, es, ss, is, os, ws, ops, sg, mo)))) :
   fD (X.wish (XE X W)) CL b (fK lN) (entry ["chart", "opens", "sign", "most", "rows", "found", "waiting", "branch"] (gG (bs, nm, ks, es, ss, is, os, ws, ops, sg, mo))) { nx := fun _ => False, rt := fun _ _ => False } := by
 dsimp only [dD, gG, gH] at h hE ⊢
 obtain ⟨⟨ht, RX, Yq⟩, ⟨NV, Ws, hag⟩, ⟨hol, ho⟩, YH, aiQ⟩ := h
 have hlv : ∀ x ∈ jo ks ops, 0 <= x /\ x < (es.length : Int) := fun x hx => ho x (anm.mp hx).1
 have hll : (jo ks ops).length <= ops.length := anz _ _
 refine pC (p := fun _ => true) (gg := fun d => T.lst (((Ko ws ops sg (d.sV :: iO es d.sV)).map L3.D.int).map T.sh)) E.g E.pS (c6 y0.bI y0.a)
   (wR y0.H) y0.bn (fun C s0 H0 f0 b' d hd => ?Fo) (Nat.le_of_lt (cQ (by rw [List.length_map]; omega))) ?rest (by exact Nat.le_of_ble_eq_true rfl) y0.bd
 case Fo =>
   obtain ⟨x, hx, rfl⟩ := amI.mp hd
   obtain ⟨x0, x1⟩ := hlv x hx
   exact ⟨rfl, fun _ => bz y0.cm rfl⟩
 case rest =>
 have em : (((jo ks ops).map L3.D.int).filter fun _ => true).map (fun d => T.lst (((Ko ws ops sg (d.sV :: iO es d.sV)).map L3.D.int).map T.sh)) = (eG ws ops sg es (jo ks ops)).map fun l => T.lst ((l.map L3.D.int).map T.sh) := by
   rw [e7, amO]
   unfold eG
   rw [amO]
   rfl
 rw [em]
 have U7 := AW (ws := ws) (ops := ops) (sg := sg) (es := es) (l := jo ks ops)
 have hRl : (eG ws ops sg es (jo ks ops)).length <= 64 := by unfold eG; rw [amh]; omega
 generalize eG ws ops sg es (jo ks ops) = R at U7 hRl YH ⊢
 refine aaF (i := 4) (d := vI R) rfl (xq R) ?_
 have hM : kH R <= 4096 := by
   have h1 := LZ (R := R) (k := ws.length) fun r hr => (U7 r hr).2
   have h2 : R.length * (ws.length + 1) <= 64 * 64 := Nat.mul_le_mul hRl y0.b
   omega
 refine bq E.g E.cK y0.aU ?_
 refine bq E.g E.iS (bz (cL (bu (mh (d := sW ⟨0, 0, [], [], []⟩) (wN (bu av (bu av (bu y0.bs (bu y0.bs (bu N7 b9))))) (aM rfl)) (by
   simp only [T.eF, T.dQ]
   rfl)) b9) (aM rfl)) (t2 := .lst ((([⟨0, 0, [], [], []⟩] : List tE).map sW).map T.sh)) rfl) ?_
 generalize hEE : jD ws R [] [] [] = EE at YH ⊢
 refine yW E.g (fun n δ => ∃ (W : List tE) (F : List (List Ask × List Int)) (o : Option T), δ = [some (.sh (iE bs nm y0.br is os y0.as)), some y0.ce, some (.sh (.str sg)), some (.sh (.int mo)), some (.sh (vI R)), some (.lst ((F.map Cb).map T.sh)), some (.lst ((W.map sW).map T.sh)), o] /\ (∀ s ∈ W, IG (kH R) 0 ws R s) /\ F ++ (W.reverse.map (lq ws R)).flatten = EE /\ n = (W.map (Cd R)).sum /\ F.length <= mo /\ W.Pairwise (fun a b => kH (jw R b) < kH (jw R a))) _
   ⟨[⟨0, 0, [], [], []⟩], [], none, rfl, fun s hs => ?_, ?_, rfl, amM _, anA ..⟩ ?_
 . rw [amQ.mp hs]
   have e := D6 R
   exact ⟨amM _, amM _, by rw [e]; show 0 + _ <= _; omega, by rw [e]; show 0 + _ <= _; omega, by rw [e]; show 0 + _ <= _; omega⟩
 . show jD ws (jw R ⟨0, 0, [], [], []⟩) [] [] [] ++ [] = EE
   rw [amH, D6, hEE]
 rintro n δ ⟨W, F, o, rfl, hW, hF, rfl, hFm, Xr⟩
 have hlen : W.length <= kH R + 1 := OL Xr fun s hs => by have := (hW s hs).p1; omega
 refine ⟨_, _, Ug (vL E.iS.1), fun hp => ?_, fun hp => ?_⟩
 . have qD : W ≠ [] := fun z => by rw [z] at hp; cases hp
   obtain ⟨W, s, rfl⟩ : ∃ W' s, W = W' ++ [s] := ⟨W.dropLast, W.getLast qD, (List.dropLast_concat_getLast qD).symm⟩
   have eW : ((W ++ [s]).map sW).map T.sh = (W.map sW).map T.sh ++ [T.sh (sW s)] := by simp
   rw [eW]
   refine T3 E.g E.aW (Uh E.iS.1 rfl) ?_
   have hs := hW s (ami _ amj)
   rw [List.pairwise_append] at Xr
   have hds : ∀ t ∈ W, kH (jw R s) < kH (jw R t) := fun t ht => Xr.2.2 t ht s amj
   have hW2 : ∀ t ∈ W, IG (kH R) 0 ws R t := fun t ht => hW t (amw _ ht)
   have eR : ((W ++ [s]).reverse.map (lq ws R)).flatten = lq ws R s ++ (W.reverse.map (lq ws R)).flatten := by
     rw [aok]
     rfl
   rw [eR] at hF
   have hwt : ((W ++ [s]).map (Cd R)).sum = (W.map (Cd R)).sum + Cd R s := by
     rw [amP, List.sum_append]
     show _ + (Cd R s + 0) = _
     omega
   have Jk : (R.map fun l => L3.D.lst (l.map .int)).length = R.length := amh ..
   have G7 := hs.q1
   have hp1 := hs.p1
   have hh1 := hs.h1
   rw [amv] at hlen
   refine dU (N3 y0.aa (ah (dg Jk E.cJ (aP E.pS) E.cO))).1 (fun hc => ?_) (fun hc => ?_)
   . have hc : (s.i : Int) < (R.length : Nat) := amC hc
     obtain ⟨g1, g2, g3, g4⟩ := UE hs y0.b (fun w => hag.len w)
     refine aaC E.iS.1 rfl y0.z rfl (by simp only [List.length_map]; omega) (aK (aK ?_))
     refine ⟨((W ++ Hf ws R s).map (Cd R)).sum, ?_, W ++ Hf ws R s, F, some (.sh (sW s)), ?_, fun t ht => ?_, ?_, rfl, hFm, ?_⟩
     . rw [hwt, amP, List.sum_append]
       omega
     . rw [amP, amP]
       rfl
     . rcases amx.mp ht with z | z
       . exact hW2 t z
       . exact g1 t z
     . rw [← hF, g2, aok, amP, List.flatten_append]
     . have g5 : ∀ t ∈ Hf ws R s, kH (jw R t) < kH (jw R s) := fun t ht => by
         have z := OJ (amI.mpr ⟨t, ht, rfl⟩ : Cd R t ∈ (Hf ws R s).map (Cd R))
         exact (Nat.pow_lt_pow_iff_right (a := 3) y0.g).mp (show 3 ^ kH (jw R t) < 3 ^ kH (jw R s) from aoc z g3)
       rw [List.pairwise_append]
       exact ⟨Xr.1, YJ y0.b hs.j1, fun x hx y hy => Nat.lt_trans (g5 y hy) (hds x hx)⟩
   . have hc : ¬ (s.i : Int) < (R.length : Nat) := amR hc
     have eX : lq ws R s = [(s.qs, s.pk)] := by
       unfold lq
       rw [show jw R s = [] by unfold jw; rw [amg y0.b], pH]
     rw [eX] at hF
     have hFl : (F.map Cb).length = F.length := amh ..
     refine dU (N3 (ah (dg hFl E.cJ (vL E.cK.1) E.cO)) (aP E.nh)).1 (fun hd => ?_) (fun hd => ?_)
     . refine jq E.cK.1 rfl (bT (aG y0.r (aG y0.s bE)) (aM rfl)) rfl (by simp only [amh]; omega) (aK (aK (aK ?_)))
       refine ⟨(W.map (Cd R)).sum, ?_, W, F ++ [(s.qs, s.pk)], some (.sh (sW s)), ?_, hW2, ?_, rfl, ?_, Xr.1⟩
       . rw [hwt]
         have : 0 < Cd R s := Nat.pow_pos y0.g
         omega
       . rw [amP, amP]
         rfl
       . rw [← hF, amr]
       . have hd : (F.length : Int) < (mo : Int) := amC hd
         rw [amv, anx]; omega
     . exact X3 (X := X) E.g.calm E.xr E.uf E.AY hE
 . have qD : W = [] := by
     cases W with
     | nil => rfl
     | cons s W => cases hp
   subst qD
   have e : F = EE := by rw [← hF]; simp
   subst e
   omega
theorem aS : n9 (aF lN) ([("chart", .cell), ("opens", .cell), ("sign", .cell), ("most", aJ), ("rows", aJ), ("found", aJ), ("waiting", aJ), ("branch", aJ), ("open_leaves", aH), ("LEAF", aH), ("len", aH), ("further", aH), ("ASKED", aH), ("PICKED", aH), ("TooWide", aH)]) = true := by decide +kernel
theorem mL : bC ["chart", "opens", "sign", "most", "rows", "found", "waiting", "branch"] ["chart", "opens", "sign", "most"] (aF lN) := bJ
abbrev sy : Stmt := top 57
abbrev xu : Type := List L3.D × List L3.D × List Str × List Int × List Int × List L3.D × List L3.D × List dw × List Int × Str × Nat
def mO : xu -> List L3.D := fun (bs, nm, ks, es, ss, is, os, ws, ops, sg, mo) => [iE bs nm y0.br is os y0.as, .lst y0.ah, .str sg, .int mo]
def j9 : xu -> Prop := fun (bs, nm, ks, es, ss, is, os, ws, ops, sg, mo) => dD (bs, nm, ks, es, ss, is, os, ws, ops, sg, mo)
def mP : xu -> T := fun (bs, nm, ks, es, ss, is, os, ws, ops, sg, mo) => (.sh (.bl true) : T)
structure QG (X : Cx) (CL : Str -> Addr) : Prop extends dJ X where
 dh : Ln X 0 "chart"
 bX : Ln X 1 "opens"
 iI : Ln X 2 "sign"
 nh : Ln X 3 "most"
 oN : Ln X 4 "caught"
 l_e : Ln X 5 "e"
 lP : Gl X "branches"
 Jm : Gl X "MoodError"
 bA : Gl X "isinstance"
 xr : Gl X "TooWide"
 FW : Gl X "ValueError"
 QH : Gl X "BadTree"
 U8 : Gl X "BadWay"
 U9 : Gl X "NoStep"
 QI : Gl X "BadName"
 Va : Gl X "BadBox"
 QJ : Gl X "BadDeed"
 Vb : Gl X "BadRow"
 Vc : Gl X "NoName"
 AZ : Fc X CL "branches" 3 4 jg fN jh
 FY : X.mg "MoodError" = some (.ref (CL "MoodError"))
 bB : X.mg "isinstance" = none
 uf : X.mg "TooWide" = some y0.T
 AY : z8 X.K (CL "TooWide")
 FZ : X.mg "ValueError" = none
 L1 : X.mg "BadTree" = some (.ref (CL "BadTree"))
 QK : X.mg "BadWay" = some (.ref (CL "BadWay"))
 QL : X.mg "NoStep" = some (.ref (CL "NoStep"))
 L4 : X.mg "BadName" = some (.ref (CL "BadName"))
 QM : X.mg "BadBox" = some (.ref (CL "BadBox"))
 L5 : X.mg "BadDeed" = some (.ref (CL "BadDeed"))
 QN : X.mg "BadRow" = some (.ref (CL "BadRow"))
 QO : X.mg "NoName" = some (.ref (CL "NoName"))
 yx : FcR X CL "branches" 3 4 gG dD gH
 st : X.stack = X.env :: X.outer
 fm : X.env.frame = some X.env.locals
 nx : X.xe = fun _ _ => False
 qZ : PySem.W.exmOne X.K y0.T (.ref (CL "MoodError")) = some true
 ex0 : X.ex = []
 aiT : X.env.kindOf "e" = some .local
 vP : PySem.W.kitOne X.K y0.T (.ref (CL "BadBox")) = some false
 ug : PySem.W.kitOne X.K y0.T (.ref (CL "BadDeed")) = some false
 uh : PySem.W.kitOne X.K y0.T (.ref (CL "BadName")) = some false
 vQ : PySem.W.kitOne X.K y0.T (.ref (CL "BadRow")) = some false
 um : PySem.W.kitOne X.K y0.T (.ref (CL "BadTree")) = some false
 vR : PySem.W.kitOne X.K y0.T (.ref (CL "BadWay")) = some false
 vS : PySem.W.kitOne X.K y0.T (.ref (CL "NoName")) = some false
 vU : PySem.W.kitOne X.K y0.T (.ref (CL "NoStep")) = some false
 uo : PySem.W.kitOne X.K y0.T y0.T = some true
 qm : PySem.W.kitOne X.K y0.T (.type "ValueError") = some true
 pW : qF X.K (CL "TooWide")
theorem QS {X : Cx} {CL : Str -> Addr} {b : Bx} (E : QG X CL) (bs nm ks es ss is os ws ops sg mo) (h : j9 (bs, nm, ks, es, ss, is, os, ws, ops, sg, mo)) :
   aR X CL b sy ["chart", "opens", "sign", "most", "caught", "e"] (mO (bs, nm, ks, es, ss, is, os, ws, ops, sg, mo)) (mP (bs, nm, ks, es, ss, is, os, ws, ops, sg, mo)) := by
 dsimp only [aR, j9, mO, mP] at h ⊢
 refine bq E.g E.oN abN ?_
 refine acC E.st E.fm E.nx E.ex0 E.g.nd E.l_e E.aiT (fun p => acA (acz (bs, nm, ks, es, ss, is, os, ws, ops, sg, mo) E.nx E.yx.pin E.lP (aj (ah (v_ E.dh.1.pin)) (aj (ah (v_ E.bX.1.pin)) (aj (ah (v_ E.iI.1.pin)) (aj (ah (v_ E.nh.1.pin)) aV)))) h)) E.Jm E.FY E.qZ y0.bk (fun a b' hz => ?_)
 refine acD E.g.nd E.oN.hand (v_ E.l_e.1.hand) (aK ⟨.inr ⟨_, rfl⟩, ?_⟩)
 refine dU (k7 (sY (qB (iU (EX hz E.pW E.bB E.bA (aj (aP E.oN) (aj (ah (pF (v := .ref (CL "TooWide")) E.xr E.uf rfl)) aV)) (.one rfl E.uo)))) (fun _ => m9 (qB (iU (EX hz E.pW E.bB E.bA (aj (aP E.oN) (aj (ah (X6 (v := .ty "ValueError") E.FW E.FZ yN rfl)) aV)) (.one rfl E.qm))))))) y0.bK (fun _ => aK ?_)
 refine dU (iU (EX hz E.pW E.bB E.bA (aj (aP E.oN) (aj (ah (bT (ds := [.val (.ref (CL "BadTree")), .val (.ref (CL "BadWay")), .val (.ref (CL "NoStep")), .val (.ref (CL "BadName"))]) (aG (pF (v := .ref (CL "BadTree")) E.QH E.L1 rfl) (aG (pF (v := .ref (CL "BadWay")) E.U8 E.QK rfl) (aG (pF (v := .ref (CL "NoStep")) E.U9 E.QL rfl) (aG (pF (v := .ref (CL "BadName")) E.QI E.L4 rfl) bE)))) (aM rfl))) aV)) (.non (vs := [.ref (CL "BadTree"), .ref (CL "BadWay"), .ref (CL "NoStep"), .ref (CL "BadName")]) rfl (fun v hv => by
   simp only [amt, amJ, aof] at hv
   rcases hv with rfl | rfl | rfl | rfl
   . exact E.um
   . exact E.vR
   . exact E.vU
   . exact E.uh)))) y0.bK (fun _ => aK ?_)
 exact cg (S6 (EX hz E.pW E.bB E.bA (aj (aP E.oN) (aj (ah (bT (ds := [.val (.ref (CL "BadBox")), .val (.ref (CL "BadDeed")), .val (.ref (CL "BadRow")), .val (.ref (CL "NoName"))]) (aG (pF (v := .ref (CL "BadBox")) E.Va E.QM rfl) (aG (pF (v := .ref (CL "BadDeed")) E.QJ E.L5 rfl) (aG (pF (v := .ref (CL "BadRow")) E.Vb E.QN rfl) (aG (pF (v := .ref (CL "NoName")) E.Vc E.QO rfl) bE)))) (aM rfl))) aV)) (.non (vs := [.ref (CL "BadBox"), .ref (CL "BadDeed"), .ref (CL "BadRow"), .ref (CL "NoName")]) rfl (fun v hv => by
   simp only [amt, amJ, aof] at hv
   rcases hv with rfl | rfl | rfl | rfl
   . exact E.vP
   . exact E.ug
   . exact E.vQ
   . exact E.vS)))) rfl
theorem cu : n9 (aF sy) ([("chart", aJ), ("opens", aJ), ("sign", aJ), ("most", aJ), ("caught", aJ), ("e", aJ), ("branches", aH), ("MoodError", aH), ("isinstance", aH), ("TooWide", aH), ("ValueError", aH), ("BadTree", aH), ("BadWay", aH), ("NoStep", aH), ("BadName", aH), ("BadBox", aH), ("BadDeed", aH), ("BadRow", aH), ("NoName", aH)]) = true := by decide +kernel
theorem A0 : bC ["chart", "opens", "sign", "most", "caught", "e"] ["chart", "opens", "sign", "most"] (aF sy) := bJ
def L6 (n : Nat) : List Str := ("all" : Str) :: List.replicate n ("leaf" : Str)
def Kp (n : Nat) : List Int := -1 :: List.replicate n 0
def ssW (n : Nat) : List Int := List.replicate (n + 1) (-1)
def Vd (k : Nat) : dw := ⟨(k : Int) + 1, "go", [gC (.num "<" (-1) 0 (-1) ((k : Int) % 3))], [], -1, "new"⟩
def CB (n : Nat) : List dw := (List.range n).map Vd
def YK (n : Nat) : List Int := (List.range (n + 1)).map fun (i : Nat) => (i : Int)
theorem age (k : Nat) (h : k <= 61) : (k : Int).natAbs.log2 < 1920 /\ (toString (k : Int) : Str).length <= 50 := by
 have h2 : ((List.range 62).all fun k => decide ((k : Int).natAbs.log2 < 1920) && decide ((toString (k : Int) : Str).length <= 50)) = true := by decide +kernel
 have := ano.mp h2 k (amZ.mpr y0.b)
 simpa [Bool.and_eq_true] using this
theorem F0 (n : Nat) : D.cI ((CB n).map dz) = true := by
 unfold CB
 rw [amO]
 exact dm y0.bC _
theorem oO (n : Nat) : D.cI (List.replicate n (L3.D.tup [])) = true := by
 refine pA fun d hd => ?_
 rw [aor hd]
 rfl
abbrev F2 : Stmt := top 59
abbrev L7 : Type := Nat
def vV : L7 -> List L3.D := fun m => [.int m]
def vW : L7 -> Prop := fun m => m <= 60
def vX : L7 -> T := fun m => (.ins "Chart" (kB [] ((pR (m + 1)).map .str) (.ins "Tree" (tD (L6 m) (Kp m) (ssW m))) (List.replicate (m + 1) (.tup [])) (List.replicate (m + 1) (.tup [])) ((CB m).map dz)) : T)
structure adi (X : Cx) (CL : Str -> Addr) : Prop extends dJ X where
 d8 : Ln X 0 "many"
 nB : Ln X 1 "tree"
 jG : Ln X 2 "names"
 lF : Ln X 3 "ways"
 LK : Gl X "Tree"
 bP : Gl X "range"
 FL : Gl X "Chart"
 LN : Fm X CL "Tree" 1 4 nj nq nu
 bQ : X.mg "range" = none
 FN : Fm X CL "Chart" 1 7 lG lH lI
 lB : X.mg "str" = none
theorem adj {X : Cx} {CL : Str -> Addr} {b : Bx} (E : adi X CL) (m) (h : vW m) :
   aR X CL b F2 ["many", "tree", "names", "ways"] (vV m) (vX m) := by
 dsimp only [aR, vW, vV, vX] at h ⊢
 obtain ⟨n, hn⟩ : ∃ n : Nat, n = m := ⟨m, rfl⟩
 subst hn
 have h : n <= 60 := h
 have sz : ∀ {m : Nat}, m <= 61 -> 1 * m <= sizeLine := fun {m} q => by rw [amV]; omega
 have rp : ∀ (d : L3.D) (m : Nat), (List.replicate m [d]).flatten = List.replicate m d := fun d m => List.flatten_replicate_singleton
 have n1 : ((n : Int) + 1).toNat = n + 1 := by omega
 refine bq E.g E.nB (bz (mk_ (L6 n, Kp n, ssW n) E.LN E.LK
   (aj (gU (bY (rS (ds := [.str "all"]) (uP := (List.replicate (n : Int).toNat [L3.D.str "leaf"]).flatten) (bY (ds := [.str "all"]) (cL (bu bS b9) (aM rfl))) (bY (u0 (ds := [.str "leaf"]) (bY (ds := [.str "leaf"]) (cL (bu bS b9) (aM rfl))) (aP E.d8) rfl y0.b y0.b (sz y0.b))) rfl (by rw [rp]; exact pA fun d hd => by rw [aor hd]; rfl) (by rw [rp, ane, amV]; show 1 + _ <= _; omega))) (show L3.D.lst _ = L3.D.lst ((L6 n).map .str) by rw [rp, amS]; unfold L6; rw [amD, aoe]; rfl))
   (aj (gU (bY (rS (ds := [.int (-1)]) (uP := (List.replicate (n : Int).toNat [L3.D.int 0]).flatten) (bY (ds := [.int (-1)]) (cL (bu (k9 (ah av)) b9) (aM rfl))) (bY (u0 (ds := [.int 0]) (bY (ds := [.int 0]) (cL (bu av b9) (aM rfl))) (aP E.d8) rfl y0.b y0.b (sz y0.b))) rfl (by rw [rp]; exact pA fun d hd => by rw [aor hd]; rfl) (by rw [rp, ane, amV]; show 1 + _ <= _; omega))) (show L3.D.lst _ = L3.D.lst ((Kp n).map .int) by rw [rp, amS]; unfold Kp; rw [amD, aoe]; rfl))
   (aj (gU (bY (u0 (ds := [.int (-1)]) (bY (ds := [.int (-1)]) (cL (bu (k9 (ah av)) b9) (aM rfl))) (ah (b8 (aP E.d8) (ah av))) rfl y0.b y0.b (sz y0.b))) (show L3.D.lst _ = L3.D.lst ((ssW n).map .int) by rw [rp, n1]; unfold ssW; rw [aoe])) aV))) trivial (mj _ _ _)) (t2 := .ins "Tree" (tD (L6 n) (Kp n) (ssW n))) rfl) ?_
 refine pC (p := fun _ => true) (gg := fun d => T.sh (.str (UY d.sV.toNat))) E.g E.jG (c6 .nil y0.a) (dI E.bQ (ah (b8 (aP E.d8) (ah av))) y0.b E.bP) y0.bn (fun C s0 H0 f0 b' d hd => ?Fo) y0.Q ?rest y0.bk y0.bd
 case Fo =>
   obtain ⟨i, hi, rfl⟩ := amI.mp hd
   have Kh : i < n + 1 := by
     have := amZ.mp hi
     omega
   obtain ⟨q1, q2⟩ := age i y0.b
   have ei : (0 + (i : Int)) = (i : Int) := anp _
   have et : (L3.D.int (0 + (i : Int))).sV.toNat = i := by show (0 + (i : Int)).toNat = i; omega
   refine ⟨rfl, fun _ => bz y0.cn ?_⟩
   show T.sh _ = T.sh (.str (UY (L3.D.int (0 + (i : Int))).sV.toNat))
   rw [et]
   unfold UY
   rw [ei]
   rfl
 case rest =>
 have em : ((bM 0 ((n : Int) + 1).toNat).filter fun _ => true).map (fun d => T.sh (.str (UY d.sV.toNat))) = ((pR (n + 1)).map L3.D.str).map T.sh := by
   rw [e7, n1]
   unfold bM pR
   rw [amO, amO, amO]
   refine am7 fun k _ => ?_
   show T.sh (.str (UY (0 + (k : Int)).toNat)) = _
   rw [show (0 + (k : Int)).toNat = k by omega]
   rfl
 rw [em]
 refine pC (p := fun _ => true) (gg := fun d => T.sh (dz (Vd d.sV.toNat))) E.g E.lF (c6 .nil y0.a) (dI E.bQ (aP E.d8) y0.b E.bP) y0.bn (fun C s0 H0 f0 b' d hd => ?ac5) y0.Q ?UX y0.bk y0.bd
 case ac5 =>
   obtain ⟨i, hi, rfl⟩ := amI.mp hd
   have ei : (0 + (i : Int)) = (i : Int) := anp _
   have et : (L3.D.int (0 + (i : Int))).sV.toNat = i := by show (0 + (i : Int)).toNat = i; omega
   refine ⟨rfl, fun _ => bz (bT (aG (b8 y0.bJ (ah av)) (aG bS (aG (bT (aG (bT (aG bS (aG (bT (aG (k9 (ah av)) (aG av bE)) (aM rfl)) (aG (bT (aG (k9 (ah av)) (aG (bO y0.bJ (ah av) y0.g) bE)) (aM rfl)) bE))) (aM rfl)) bE) (aM rfl)) (aG y0.bs (aG (k9 (ah av)) (aG bS bE)))))) (aM rfl)) ?_⟩
   show T.sh _ = T.sh (dz (Vd (L3.D.int (0 + (i : Int))).sV.toNat))
   rw [et, ei]
   rfl
 case UX =>
 have ew : ((bM 0 (n : Int).toNat).filter fun _ => true).map (fun d => T.sh (dz (Vd d.sV.toNat))) = ((CB n).map dz).map T.sh := by
   rw [e7, amS]
   unfold bM CB
   rw [amO, amO, amO]
   refine am7 fun k _ => ?_
   show T.sh (dz (Vd (0 + (k : Int)).toNat)) = _
   rw [show (0 + (k : Int)).toNat = k by omega]
   rfl
 rw [ew]
 have er : ∀ m : Nat, m = n + 1 -> L3.D.lst (List.replicate m [L3.D.tup []]).flatten = L3.D.lst (List.replicate (n + 1) (L3.D.tup [])) := fun m q => by rw [rp, q]
 exact cg (mkP (f := "tree") (G8 := tY [] ((pR (n + 1)).map .str)) (P7 := tZ y0.bt y0.bt ((CB n).map dz)) (fun v => ([], (pR (n + 1)).map .str, v, List.replicate (n + 1) (.tup []), List.replicate (n + 1) (.tup []), (CB n).map dz)) E.FN E.FL
   (u9 (bY (ds := []) (cL b9 (aM rfl))) (u9 (vL E.jG.1)
     (HW (vM E.nB.1)
       (aj y0.bP (aj y0.bP (aj (vL E.lF.1) aV))))))
   (fun v => rfl) (fun v => ⟨rfl, lg _, oO _, oO _, F0 n⟩) (fun v => rfl) (vg rfl (lg _)) (vh (oO _) (oO _) (F0 n))) rfl
theorem pX : n9 (aF F2) ([("many", aJ), ("tree", aJ), ("names", aJ), ("ways", aJ), ("Tree", aH), ("range", aH), ("Chart", aH)]) = true := by decide +kernel
theorem OO : bC ["many", "tree", "names", "ways"] ["many"] (aF F2) := bJ
def L8 (s : List Int) (t : List Int) (k : Nat) : List Int := t.set (k % 20) (t.getD (k % 20) 0 + s.getD k 0)
def QT (s : List Int) (j : Nat) : List Int := (List.range j).foldl (L8 s) (List.replicate (min s.length 20) 0)
theorem F3 (s : List Int) : ∀ j, (QT s j).length = min s.length 20
 | 0 => by simp [QT]
 | j + 1 => by
   have := F3 s j
   unfold QT at this ⊢
   rw [anI, List.foldl_append]
   exact (List.length_set ..).trans this
theorem Ve (s : List Int) (j : Nat) : QT s (j + 1) = L8 s (QT s j) j := by
 unfold QT
 rw [anI, List.foldl_append]
 rfl
abbrev zx : Stmt := top 58
abbrev F4 : Type := List Int
def sA : F4 -> List L3.D := fun s => [.lst (s.map .int)]
def sC : F4 -> Prop := fun s => s.length <= 1000
def sE : F4 -> T := fun s => (.lst (((QT s s.length).map .int).map T.sh) : T)
structure YL (X : Cx) (CL : Str -> Addr) : Prop extends dJ X where
 aU : Ln X 0 "script"
 lU : Ln X 1 "k"
 sF : Ln X 2 "turns"
 bP : Gl X "range"
 agf : Gl X "min"
 cO : Gl X "len"
 bQ : X.mg "range" = none
 agg : X.mg "min" = none
 cJ : X.mg "len" = none
theorem YM {X : Cx} {CL : Str -> Addr} {b : Bx} (E : YL X CL) (s) (h : sC s) :
   aR X CL b zx ["script", "k", "turns"] (sA s) (sE s) := by
 dsimp only [aR, sC, sA, sE] at h ⊢
 have h : s.length <= 1000 := h
 have aiU : (if (20 : Int) < ((s.length : Nat) : Int) then (20 : Int) else ((s.length : Nat) : Int)) = ((min s.length 20 : Nat) : Int) := by split <;> omega
 refine pC (p := fun _ => true) (gg := fun _ => T.sh (.int 0)) E.g E.sF (c6 .nil y0.a) (dI E.bQ (gU (ah (Xm E.g E.agg E.agf (aj y0.bZ (aj (ah av) aV)))) (congrArg L3.D.int aiU)) y0.b E.bP) y0.bn (fun C s0 H0 f0 b' d hd => ⟨rfl, fun _ => av⟩) y0.Q ?rest y0.bk y0.bd
 have em : ((bM 0 ((min s.length 20 : Nat) : Int).toNat).filter fun _ => true).map (fun _ => T.sh (.int 0)) = ((QT s 0).map L3.D.int).map T.sh := by
   rw [e7]
   unfold bM QT
   rw [amO, amS]
   show List.map _ _ = ((List.replicate (min s.length 20) (0 : Int)).map L3.D.int).map T.sh
   rw [aoe, aoe, List.eq_replicate_iff]
   refine ⟨by simp, fun x hx => ?_⟩
   obtain ⟨k, _, rfl⟩ := amI.mp hx
   rfl
 rw [em]
 refine kF E.g E.lU (fun j δ => ∃ o, δ = [some y0.G, o, some (.lst (((QT s j).map .int).map T.sh))])
   (dI E.bQ y0.bZ y0.b E.bP) ⟨_, rfl⟩ (fun j δ ⟨_, e⟩ => by subst e; exact amm rfl) ?turn ?fin
 case turn =>
   rintro j d δ hj ⟨o, rfl⟩
   obtain ⟨rfl, qi⟩ := gA hj
   rw [anp]
   have hjs : j < s.length := by omega
   have hl := F3 s j
   have k0 : ((j : Int) % 20).toNat = j % 20 := by omega
   have k1 : j % 20 < min s.length 20 := by omega
   refine afu E.sF.1 (bz (b8 (cB (vL E.sF.1) (ah (bO y0.aT (ah av) y0.g)) (gy y0.b y0.b)) (cB y0.an y0.aT (gy y0.b y0.b))) (t2 := .sh (.int ((QT s j).getD (j % 20) 0 + s.getD j 0))) (by rw [k0]; rfl)) (ah (bO y0.aT (ah av) y0.g)) rfl (ab1 y0.b (by rw [amh, amh]; omega)) (aK ⟨some (.sh (.int j)), ?_⟩)
   rw [k0, Ve]
   unfold L8
   rw [List.map_set, List.map_set]
   rfl
 case fin =>
   rintro δ ⟨o, rfl⟩
   have e : (bM 0 (s.length : Int).toNat).length = s.length := by simp [bM]
   rw [e]
   exact cg (vM E.sF.1) rfl
theorem oQ : n9 (aF zx) ([("script", aJ), ("k", aJ), ("turns", aJ), ("range", aH), ("min", aH), ("len", aH)]) = true := by decide +kernel
theorem Jo : bC ["script", "k", "turns"] ["script"] (aF zx) := bJ
abbrev zy : Stmt := top 43
abbrev F5 : Type := List Int × List Str × List Int
def sG : F5 -> List L3.D := fun (es, ks, ch) => [.lst (es.map .int), .lst (ks.map .str), .lst (ch.map .int)]
def oR : F5 -> Prop := fun (es, ks, ch) => es.length <= 900 /\ 0 < es.length /\ ks.length = es.length /\ ch.length = es.length /\ jZ es
def sH : F5 -> T := fun (es, ks, ch) => (.lst (((E2 (ku ks) es ch (es.length - 1)).map .int).map T.sh) : T)
structure YN (X : Cx) (CL : Str -> Addr) : Prop extends dJ X where
 bN : Ln X 0 "elders"
 fL : Ln X 1 "kinds"
 gD : Ln X 2 "chosen"
 bX : Ln X 3 "opens"
 lU : Ln X 4 "k"
 jR : Ln X 5 "elder"
 bP : Gl X "range"
 cO : Gl X "len"
 bQ : X.mg "range" = none
 cJ : X.mg "len" = none
theorem YQ {X : Cx} {CL : Str -> Addr} {b : Bx} (E : YN X CL) (es ks ch) (h : oR (es, ks, ch)) :
   aR X CL b zy ["elders", "kinds", "chosen", "opens", "k", "elder"] (sG (es, ks, ch)) (sH (es, ks, ch)) := by
 dsimp only [aR, oR, sG, sH] at h ⊢
 obtain ⟨hl, hl0, hk, hc, ht⟩ := h
 refine bq E.g E.bX (kM (aG av bE) (aM rfl)) ?_
 refine kF E.g E.lU (fun j δ => ∃ o o', δ = [some y0.ap, some (.sh (.lst (ks.map .str))), some (.sh (.lst (ch.map .int))), some (.lst (((E2 (ku ks) es ch j).map .int).map T.sh)), o, o'])
   (Dz E.bQ (ah av) (ah y0.aD) y0.b E.bP) ⟨_, _, rfl⟩ (fun j δ ⟨_, _, e⟩ => by subst e; exact amm rfl) ?turn ?fin
 case turn =>
   rintro j d δ hj ⟨o, o', rfl⟩
   obtain ⟨rfl, qi⟩ := gA hj
   have hol := E3 (isAll := ku ks) (es := es) (ch := ch) j
   have ej : (1 + (j : Int)).toNat = j + 1 := by omega
   have ejI : (1 + (j : Int)) = ((j + 1 : Nat) : Int) := by omega
   refine bq E.g E.jR (bz (gS (cB (aP E.bN) y0.aT (gy y0.b y0.b)) rfl) (congrArg (fun z => T.sh (.int (es.getD z 0))) ej)) ?_
   have ha := ht (j + 1) y0.b
   show fD X CL b _ _ { nx := fun δ => ∃ o o', δ = [_, _, _, some (.lst (((E2 (ku ks) es ch (j + 1)).map .int).map T.sh)), o, o'], rt := _, bk := _, ct := _ }
   rw [E2]
   generalize es.getD (j + 1) 0 = x at ha ⊢
   have hx0 : x ∈ E2 (ku ks) es ch j -> 0 <= x := fun hx => (zg j hx).1
   refine dU (k7 (iD (rV (aP E.jR) (vL E.bX.1) (rfl) rfl).1 (fun hb => (lX (k7 (sY (iC (cB (aP E.fL) (aP E.jR) (iW Str.empty (hx0 (amC hb)) y0.b)) (ah bS)).1 (fun hb2 => (m9 (fj (cB (aP E.gD) (aP E.jR) (gy (hx0 (amC hb)) y0.b)) y0.aT).1)))))))) (fun hp => ?_) (fun hp => aK (aK ?_))
   . simp only [am1, Bool.or_eq_true, anE] at hp
     refine jq E.bX.1 rfl (v_ E.lU.1) rfl y0.O (aK (aK ?_))
     rw [aml ⟨hp.1, hp.2.elim (fun z => .inl (anC z)) (fun z => .inr (by rw [z, ejI]))⟩]
     have e1 : ((E2 (ku ks) es ch j).map L3.D.int).map T.sh ++ [T.sh (.int (1 + (j : Int)))] = ((E2 (ku ks) es ch j ++ [((j + 1 : Nat) : Int)]).map L3.D.int).map T.sh := by
       rw [ejI]; simp
     rw [e1]
     exact ⟨_, _, rfl⟩
   . rw [amg (fun z => by
       have : (decide (x ∈ E2 (ku ks) es ch j) && (decide (ks.getD x.toNat Str.empty = "all") || decide (ch.getD x.toNat 0 = 1 + (j : Int)))) = true := by
         simp only [am1, Bool.or_eq_true, anE]
         exact ⟨z.1, z.2.elim (fun z => .inl (amC z)) (fun z => .inr (by rw [z, ejI]))⟩
       rw [this] at hp
       cases hp)]
     exact ⟨_, _, rfl⟩
 case fin =>
   rintro δ ⟨o, o', rfl⟩
   have e : (bM 1 ((es.length : Int) - 1).toNat).length = es.length - 1 := by simp [bM]
   rw [e]
   exact cg (vM E.bX.1) rfl
theorem kg : n9 (aF zy) ([("elders", aJ), ("kinds", aJ), ("chosen", aJ), ("opens", aJ), ("k", aJ), ("elder", aJ), ("range", aH), ("len", aH)]) = true := by decide +kernel
theorem Jp : bC ["elders", "kinds", "chosen", "opens", "k", "elder"] ["elders", "kinds", "chosen"] (aF zy) := bJ
def adk : L3.D -> Nat
 | .tup ds => ds.length
 | _ => 0
def Vf (d : L3.D) : Bool := decide ((adk d : Int) = 3)
theorem YR {n : Nat} {bs : List Int} {l : List pG} (h : ∀ a ∈ l, a.Ok n bs) : (l.map gC).filter Vf = Al (l.map gC) := by
 unfold Al
 refine List.filter_congr fun d hd => ?_
 obtain ⟨a, ha, rfl⟩ := amI.mp hd
 have hk := h a ha
 cases a with
 | xg op m =>
   show false = !decide (y0.k ∈ (["open", "shut"] : List Str))
   cases op <;> decide +kernel
 | num mk b1 m1 b2 m2 =>
   have : ∀ x ∈ Qq, true = (!decide (x ∈ (["open", "shut"] : List Str))) := by decide +kernel
   exact this mk hk.1
abbrev sJ : Stmt := top 54
abbrev xx : Type := List L3.D × List Int × List Str × List Int × List L3.D × List L3.D × List dw × Nat × dw × List pG × Nat × List Int
def mQ : xx -> List L3.D := fun (bs, es, ks, ss, is, os, ws, k, w, al, n, vs) => [jx bs es ks ss is os y0.as, .int k]
def kh : xx -> Prop := fun (bs, es, ks, ss, is, os, ws, k, w, al, n, vs) => ws[k]? = some w /\ w.asks = al.map gC /\ al.length <= 1000 /\ ∀ a ∈ al, a.Ok n vs
def mR : xx -> T := fun (bs, es, ks, ss, is, os, ws, k, w, al, n, vs) => (.sh (.tup ((UD w).map ql)) : T)
structure QV (X : Cx) (CL : Str -> Addr) : Prop extends dJ X where
 bV : Ln X 0 "parts"
 d7 : Ln X 1 "number"
 g7 : Gl X "tuple"
 g8 : X.mg "tuple" = none
 cJ : X.mg "len" = none
theorem QW {X : Cx} {CL : Str -> Addr} {b : Bx} (E : QV X CL) (bs es ks ss is os ws k w al n vs) (h : kh (bs, es, ks, ss, is, os, ws, k, w, al, n, vs)) :
   aR X CL b sJ ["parts", "number"] (mQ (bs, es, ks, ss, is, os, ws, k, w, al, n, vs)) (mR (bs, es, ks, ss, is, os, ws, k, w, al, n, vs)) := by
 dsimp only [aR, kh, mQ, mR] at h ⊢
 obtain ⟨hk, ea, hl, ha⟩ := h
 have DR : uN y0.as (k : Int) = some (dz w) := aY (by rw [amT, hk]; rfl)
 have hi : D.cI w.asks = true := by rw [ea]; exact dm (fun a => IA a) _
 have e2 : w.asks.filter Vf = (UD w).map ql := by
   rw [ea, YR ha, Oh ha]
   unfold UD
   rw [ea, E8]
 have hi2 : D.cI ((UD w).map ql) = true := dm y0.bC _
 refine cg (rR E.g8 (bY (ds := (UD w).map ql) (bz (vd (p := fun d => decide ((adk d : Int) = 3)) (g := fun d => T.sh d) (c6 .nil y0.a) E.g.calm (Ez (cZ (K0 (cZ (v_ E.bV.1) (ah av) (aY (j := 6) rfl)) (aP E.d7) DR) (ah av) (aY (j := 2) rfl))) y0.bn (fun C s0 H0 f0 b' d hd => ?Fo) (anf (cQ (by rw [ea, amh]; omega)))) (by rw [show (fun d => decide ((adk d : Int) = 3)) = Vf from rfl, e2]))) hi2 E.g7) rfl
 case Fo =>
   rw [ea] at hd
   obtain ⟨a, ha2, rfl⟩ := amI.mp hd
   cases a with
   | xg op m => exact ⟨(fj (ah (lY (by exact E.cJ) y0.bJ (g6 y0.a))) (ah av)).1, fun _ => v_ (eN (i := 0) rfl y0.a)⟩
   | num mk b1 m1 b2 m2 => exact ⟨(fj (ah (lY (by exact E.cJ) y0.bJ (g6 y0.a))) (ah av)).1, fun _ => v_ (eN (i := 0) rfl y0.a)⟩
theorem uq : n9 (aF sJ) ([("parts", aJ), ("number", aJ), ("tuple", aH)]) = true := by decide +kernel
theorem A1 : bC ["parts", "number"] ["parts", "number"] (aF sJ) := bJ
structure CD (ws : List dw) (h : List (Int × Bool)) (p past : List Int) : Prop where
 tr : ∀ w, cR h w = some true ↔ (w ∈ p /\ ¬ gK ws w = [])
 fl : ∀ w, cR h w = some false ↔ w ∈ past
 ne : ∀ w ∈ past, ¬ gK ws w = []
section
variable {ws : List dw} {h : List (Int × Bool)} {p past : List Int} {w : Int}
theorem CD.pick (o : CD ws h p past) (hq : gK ws w = []) : CD ws h (p ++ [w]) past := ⟨fun v => by
 rw [o.tr v, amx, amQ]
 constructor
 . exact fun z => ⟨.inl z.1, z.2⟩
 . rintro ⟨z | z, k⟩
   . exact ⟨z, k⟩
   . rw [z] at k; exact absurd hq k, o.fl, o.ne⟩
theorem CD.yes (o : CD ws h p past) (hn : cR h w = none) (hq : ¬ gK ws w = []) : CD ws (h ++ [(w, true)]) (p ++ [w]) past := ⟨fun v => by
 rw [kT, amx, amQ]
 by_cases z : w = v
 . rw [← z, hn, aml rfl]
   exact ⟨fun _ => ⟨.inr rfl, hq⟩, fun _ => rfl⟩
 . rw [amg z, Option.or_none, o.tr v]
   exact ⟨fun k => ⟨.inl k.1, k.2⟩, fun k => ⟨k.1.resolve_right fun q => z q.symm, k.2⟩⟩, fun v => by
 rw [kT]
 by_cases z : w = v
 . rw [← z, hn, aml rfl]
   refine ⟨(fun k => by cases k), fun k => ?_⟩
   rw [(o.fl w).mpr k] at hn
   cases hn
 . rw [amg z, Option.or_none]
   exact o.fl v, o.ne⟩
theorem CD.no (o : CD ws h p past) (hn : cR h w = none) (hq : ¬ gK ws w = []) : CD ws (h ++ [(w, false)]) p (past ++ [w]) := ⟨fun v => by
 rw [kT]
 by_cases z : w = v
 . rw [← z, hn, aml rfl]
   refine ⟨(fun k => by cases k), fun k => ?_⟩
   rw [(o.tr w).mpr k] at hn
   cases hn
 . rw [amg z, Option.or_none]
   exact o.tr v, fun v => by
 rw [kT, amx, amQ]
 by_cases z : w = v
 . rw [← z, hn, aml rfl]
   exact ⟨fun _ => .inr rfl, fun _ => rfl⟩
 . rw [amg z, Option.or_none, o.fl v]
   exact ⟨.inl, fun k => k.resolve_right fun q => z q.symm⟩, fun v hv => by
 rcases amx.mp hv with z | z
 . exact o.ne v z
 . rw [amQ.mp z]; exact hq⟩
end
structure CF (ws : List dw) (R : List (List Int)) (s : tE) (past : List Int) (dd : Nat) : Prop where
 i1 : s.i <= R.length
 j1 : s.j <= (R.getD s.i []).length
 hd : CD ws s.hl s.pk past
 q1 : s.qs.length + 100 * kH (jw R s) <= 20000
 p1 : s.pk.length + kH (jw R s) <= 200
 a1 : past.length + kH (jw R s) <= 200
 d1 : kH (jw R s) < dd
 l1 : (lq ws R s).length <= 1000
section
variable {ws : List dw} {R : List (List Int)} {s : tE} {past : List Int} {dd : Nat} {w : Int}
theorem A2 (hi : s.i < R.length) : jw R s = (R.getD s.i []).drop s.j :: R.drop (s.i + 1) := by unfold jw; rw [aml hi]
theorem F6 (hj : s.j < (R.getD s.i []).length) (hw : (R.getD s.i []).getD s.j 0 = w) : (R.getD s.i []).drop s.j = w :: (R.getD s.i []).drop (s.j + 1) := by
 rw [an5 hj, ← hw, amk (l := R.getD s.i []), amq hj]
 rfl
theorem Jq {l : List Int} (h : w ∉ l) : lV l w = l ++ [w] := by unfold lV; rw [amg h]
theorem Vg {l : List Int} (h : w ∈ l) : lV l w = l := by unfold lV; rw [aml h]
theorem YS (h : CF ws R s past dd) (hi : s.i < R.length) (hc : s.j = (R.getD s.i []).length \/ (s.j < (R.getD s.i []).length /\ (R.getD s.i []).getD s.j 0 ∈ s.pk)) : lq ws R s = lq ws R (Fb s) /\ CF ws R (Fb s) past (dd - 1) := by
 have e2 : jw R (Fb s) = R.drop (s.i + 1) := jE s.i s.j s.qs s.pk s.hl
 have er := A2 hi
 have ex : lq ws R s = lq ws R (Fb s) := by
   unfold lq
   rw [e2, er]
   rcases hc with hc | ⟨hj, hc⟩
   . rw [List.drop_eq_nil_of_le y0.b, ou]
     rfl
   . rw [F6 hj rfl]
     have hp : gK ws ((R.getD s.i []).getD s.j 0) = [] \/ cR s.hl ((R.getD s.i []).getD s.j 0) = some true := by
       by_cases z : gK ws ((R.getD s.i []).getD s.j 0) = []
       . exact .inl z
       . exact .inr ((h.hd.tr _).mpr ⟨hc, z⟩)
     rw [oz hp, Vg hc]
     rfl
 obtain ⟨_, _, a3, a4, a5, a6, a7, a8⟩ := h
 rw [er, bF] at a4 a5 a6 a7
 refine ⟨ex, by show s.i + 1 <= R.length; omega, amM _, a3, ?_, ?_, ?_, ?_, by rw [← ex]; exact a8⟩
 . rw [e2]; show s.qs.length + _ <= _; omega
 . rw [e2]; show s.pk.length + _ <= _; omega
 . rw [e2]; omega
 . rw [e2]; omega
theorem YT (h : CF ws R s past dd) (hi : s.i < R.length) (hj : s.j < (R.getD s.i []).length) (hp : (R.getD s.i []).getD s.j 0 ∈ past) : lq ws R s = lq ws R (G9 s) /\ CF ws R (G9 s) past (dd - 1) := by
 have e2 : jw R (G9 s) = (R.getD s.i []).drop (s.j + 1) :: R.drop (s.i + 1) := A2 (s := G9 s) hi
 have er := A2 hi
 have ex : lq ws R s = lq ws R (G9 s) := by
   unfold lq
   rw [e2, er, F6 hj rfl]
   have hf := (h.hd.fl _).mpr hp
   rw [qG (fun z => z.elim (h.hd.ne _ hp) fun z => by rw [hf] at z; cases z) hf]
   rfl
 obtain ⟨_, _, a3, a4, a5, a6, a7, a8⟩ := h
 rw [er, bF, am8] at a4 a5 a6 a7
 refine ⟨ex, by show s.i <= R.length; omega, by show s.j + 1 <= (R.getD s.i []).length; omega, a3, ?_, ?_, ?_, ?_, by rw [← ex]; exact a8⟩
 . rw [e2, bF, am8]; show s.qs.length + _ <= _; omega
 . rw [e2, bF, am8]; show s.pk.length + _ <= _; omega
 . rw [e2, bF, am8]; omega
 . rw [e2, bF, am8]; omega
def RZ (ws : List dw) (s : tE) (w : Int) : tE := ⟨s.i + 1, 0, s.qs ++ gK ws w, s.pk ++ [w], if gK ws w = [] then s.hl else s.hl ++ [(w, true)]⟩
def tkW (s : tE) (w : Int) : tE := ⟨s.i, s.j + 1, s.qs, s.pk, s.hl ++ [(w, false)]⟩
theorem YV (h : CF ws R s past dd) (hi : s.i < R.length) (hj : s.j < (R.getD s.i []).length) (hw : (R.getD s.i []).getD s.j 0 = w) (hn : w ∉ s.pk) (hp : w ∉ past) (hq : (gK ws w).length <= 100) :
   CF ws R (RZ ws s w) past (dd - 1) /\ (gK ws w = [] -> lq ws R s = lq ws R (RZ ws s w)) /\ (¬ gK ws w = [] -> lq ws R s = lq ws R (RZ ws s w) ++ lq ws R (tkW s w) /\ CF ws R (tkW s w) (past ++ [w]) (dd - 1)) := by
 have e1 : jw R (RZ ws s w) = R.drop (s.i + 1) := jE s.i s.j _ _ _
 have e2 : jw R (tkW s w) = (R.getD s.i []).drop (s.j + 1) :: R.drop (s.i + 1) := A2 (s := tkW s w) hi
 have er := A2 hi
 have ed := F6 hj hw
 have x1 : gK ws w = [] -> lq ws R s = lq ws R (RZ ws s w) := fun z => by
   unfold lq
   rw [e1, er, ed, oz (.inl z), Jq hn]
   unfold RZ
   dsimp only
   rw [z, aml rfl, amH]
 have x2 : ¬ gK ws w = [] -> cR s.hl w = none /\ lq ws R s = lq ws R (RZ ws s w) ++ lq ws R (tkW s w) := fun z => by
   have hl : cR s.hl w = none := by
     rcases qH s.hl w with q | q | q
     . exact absurd ((h.hd.tr w).mp q).1 hn
     . exact absurd ((h.hd.fl w).mp q) hp
     . exact q
   refine ⟨hl, ?_⟩
   unfold lq
   rw [e1, e2, er, ed, oA z hl, Jq hn]
   unfold RZ tkW
   dsimp only
   rw [amg z]
 obtain ⟨_, _, a3, a4, a5, a6, a7, a8⟩ := h
 rw [er, bF, am8] at a4 a5 a6 a7
 have h1 : CF ws R (RZ ws s w) past (dd - 1) := by
   refine ⟨by show s.i + 1 <= R.length; omega, amM _, ?_, ?_, ?_, ?_, ?_, ?_⟩
   . unfold RZ
     dsimp only
     by_cases z : gK ws w = []
     . rw [aml z]; exact a3.pick z
     . rw [amg z]; exact a3.yes (x2 z).1 z
   . rw [e1]; show (s.qs ++ gK ws w).length + _ <= _; rw [amv]; omega
   . rw [e1]; show (s.pk ++ [w]).length + _ <= _; rw [amv, anx]; omega
   . rw [e1]; omega
   . rw [e1]; omega
   . by_cases z : gK ws w = []
     . rw [← x1 z]; exact a8
     . have := congrArg List.length (x2 z).2
       rw [amv] at this
       omega
 refine ⟨h1, x1, fun z => ⟨(x2 z).2, ?_⟩⟩
 refine ⟨by show s.i <= R.length; omega, by show s.j + 1 <= (R.getD s.i []).length; omega, a3.no (x2 z).1 z, ?_, ?_, ?_, ?_, ?_⟩
 . rw [e2, bF, am8]; show s.qs.length + _ <= _; omega
 . rw [e2, bF, am8]; show s.pk.length + _ <= _; omega
 . rw [e2, bF, am8, amv, anx]; omega
 . rw [e2, bF, am8]; omega
 . have := congrArg List.length (x2 z).2
   rw [amv] at this
   omega
end
theorem F7 (x : List Ask × List Int) : (Cb x).oW = true := by
 have e1 : D.cI (x.1.map ql) = true := dm y0.bC _
 have e2 : D.cI (x.2.map .int) = true := fP _
 show (D.cI _ && (D.cI _ && true)) = true
 rw [e1, e2]
 rfl
abbrev jT : Stmt := top 56
abbrev nK : Type := List L3.D × List Int × List Str × List Int × List L3.D × List L3.D × List dw × List (List Int) × List Int × tE × List Int
def fW : nK -> List L3.D := fun (bs, es, ks, ss, is, os, ws, R, vs, s, past) => [jx bs es ks ss is os y0.as, vI R, .int s.i, .int s.j, Cb (s.qs, s.pk), .lst (past.map .int)]
def cN (dd : Nat) : nK -> Prop := fun (bs, es, ks, ss, is, os, ws, R, vs, s, past) => CF ws R s past dd /\ (∀ l ∈ R, ∀ w ∈ l, 0 <= w /\ w < (ws.length : Int)) /\ kN es.length vs ws /\ LV ws
def fX : nK -> T := fun (bs, es, ks, ss, is, os, ws, R, vs, s, past) => (.lst (((lq ws R s).map Cb).map T.sh) : T)
structure CG (X : Cx) (CL : Str -> Addr) (dd : Nat) : Prop extends dJ X where
 bV : Ln X 0 "parts"
 gq : Ln X 1 "lists"
 jB : Ln X 2 "leaf"
 iF : Ln X 3 "at"
 aW : Ln X 4 "branch"
 A3 : Ln X 5 "past"
 d7 : Ln X 6 "number"
 eO : Ln X 7 "asks"
 Vh : Ln X 8 "more"
 A4 : Ln X 9 "ends"
 cO : Gl X "len"
 eV : Gl X "_law_branches"
 A5 : Gl X "_law_numbers"
 cJ : X.mg "len" = none
 f9 : ∀ d', d' < dd -> Fc X CL "_law_branches" (2 + d') 6 fW (cN d') fX
 QX : Fc X CL "_law_numbers" 1 2 mQ kh mR
theorem CH {X : Cx} {CL : Str -> Addr} {b : Bx} {dd : Nat} (E : CG X CL dd) (bs es ks ss is os ws R vs s past) (h : cN dd (bs, es, ks, ss, is, os, ws, R, vs, s, past)) :
   aR X CL b jT ["parts", "lists", "leaf", "at", "branch", "past", "number", "asks", "more", "ends"] (fW (bs, es, ks, ss, is, os, ws, R, vs, s, past)) (fX (bs, es, ks, ss, is, os, ws, R, vs, s, past)) := by
 dsimp only [aR, cN, fW, fX] at h ⊢
 obtain ⟨hb, hR, hA, hG⟩ := h
 have Jk : (R.map fun l => L3.D.lst (l.map .int)).length = R.length := amh ..
 have hl : ((R.getD s.i []).map L3.D.int).length = (R.getD s.i []).length := amh ..
 have hi1 := hb.i1
 have hj1 := hb.j1
 have G7 := hb.q1
 have hp1 := hb.p1
 have ha1 := hb.a1
 have hd1 := hb.d1
 have hl1 := hb.l1
 have ci : ∀ r : List (List Ask × List Int), D.cI (r.map Cb) = true := fun r => dm (fun x => F7 x) _
 show fD X CL b _ _ { nx := _, rt := fun K9 _ => K9 = T.lst (((lq ws R s).map Cb).map T.sh), bk := _, ct := _ }
 refine dU (fj (aP E.jB) (ah (dg Jk E.cJ (aP E.gq) E.cO))).1 (fun hc => ?_) (fun hc => aK ?_)
 . have hc : (s.i : Int) = (R.length : Nat) := amC hc
   have eX : lq ws R s = [(s.qs, s.pk)] := by
     unfold lq
     rw [show jw R s = [] by unfold jw; rw [amg y0.b], pH]
   rw [eX]
   exact cg (cL (bu y0.X b9) (aM rfl)) rfl
 have hc : ¬ (s.i : Int) = (R.length : Nat) := amR hc
 have hil : s.i < R.length := by omega
 have DR : uN (R.map fun l => L3.D.lst (l.map .int)) (s.i : Int) = some (.lst ((R.getD s.i []).map .int)) := (iW (f := fun l : List Int => L3.D.lst (l.map .int)) [] y0.b y0.b).trans (by rw [amS])
 have YC : ∀ {j : Nat}, decide ((j : Int) = ((R.getD s.i []).length : Nat)) = false -> j <= (R.getD s.i []).length -> uN ((R.getD s.i []).map L3.D.int) (j : Int) = some (.int ((R.getD s.i []).getD j 0)) := fun {j} qD hle => by
   have := amR qD
   exact (gy y0.b y0.b).trans (by rw [amS])
 refine dU (k7 (sY (fj (aP E.iF) (ah (dg hl E.cJ (cB (aP E.gq) (aP E.jB) DR) E.cO))).1 (fun qD => m9 (rV (l := s.pk) (cB (cB (aP E.gq) (aP E.jB) DR) (aP E.iF) (YC qD hj1)) (bL (aP E.aW) (ah av) y0.at) rfl rfl).1))) (fun wJ => ?_) (fun wJ => aK ?_)
 . have wJ : (decide ((s.j : Int) = ((R.getD s.i []).length : Nat)) || decide ((R.getD s.i []).getD s.j 0 ∈ s.pk)) = true := wJ
   rw [Bool.or_eq_true, anE, anE] at wJ
   obtain ⟨ex, hb2⟩ := YS hb hil (by
     by_cases z : s.j = (R.getD s.i []).length
     . exact .inl z
     . exact .inr ⟨by omega, wJ.resolve_left y0.b⟩)
   rw [ex]
   exact cg (bz (c_ (bs, es, ks, ss, is, os, ws, R, vs, Fb s, past) (E.f9 (dd - 1) y0.b) E.eV (aj (aP E.bV) (aj (aP E.gq) (aj y0.aN (aj (ah av) (aj (aP E.aW) (aj (aP E.A3) aV)))))) (by dsimp only [cN]; exact ⟨hb2, hR, hA, hG⟩) (cM (ci _))) rfl) rfl
 have wJ : (decide ((s.j : Int) = ((R.getD s.i []).length : Nat)) || decide ((R.getD s.i []).getD s.j 0 ∈ s.pk)) = false := wJ
 rw [Bool.or_eq_false_iff] at wJ
 obtain ⟨qD, hnp⟩ := wJ
 have qi : s.j < (R.getD s.i []).length := by
   have := amR qD
   omega
 have hnp := amR hnp
 refine bq E.g E.d7 (gS (cB (cB (aP E.gq) (aP E.jB) DR) (aP E.iF) (YC qD hj1)) rfl) ?_
 obtain ⟨x0, x1⟩ : 0 <= (R.getD s.i []).getD s.j 0 /\ (R.getD s.i []).getD s.j 0 < (ws.length : Int) := by
   refine hR (R.getD s.i []) ?_ _ ?_
   . rw [amk, amq hil]
     exact anu _
   . rw [amk (l := R.getD s.i []), amq qi]
     exact anu _
 refine dU (rV (l := past) (aP E.d7) (aP E.A3) rfl rfl).1 (fun hp => ?_) (fun hp => aK ?_)
 . obtain ⟨ex, hb2⟩ := YT hb hil qi (amC hp)
   rw [ex]
   exact cg (bz (c_ (bs, es, ks, ss, is, os, ws, R, vs, G9 s, past) (E.f9 (dd - 1) y0.b) E.eV (aj (aP E.bV) (aj (aP E.gq) (aj (aP E.jB) (aj y0.ch (aj (aP E.aW) (aj (aP E.A3) aV)))))) (by dsimp only [cN]; exact ⟨hb2, hR, hA, hG⟩) (cM (ci _))) rfl) rfl
 have hp := amR hp
 obtain ⟨w, hw⟩ : ∃ w, (R.getD s.i []).getD s.j 0 = w := ⟨_, rfl⟩
 rw [hw] at x0 x1 hp hnp ⊢
 have hwm : ws.getD w.toNat w0 ∈ ws := by
   rw [amk, amq y0.b]
   exact anu _
 obtain ⟨al, a1, a2, a3⟩ := hA _ hwm
 have U0 : ws[w.toNat]? = some (ws.getD w.toNat w0) := by rw [amk, amq y0.b]; rfl
 have hql : (gK ws w).length <= 100 := hG.len w
 obtain ⟨b1, y1, y2⟩ := YV hb hil qi hw hnp hp hql
 refine bq E.g E.eO (bz (c_ (bs, es, ks, ss, is, os, ws, w.toNat, ws.getD w.toNat w0, al, es.length, vs) E.QX E.A5 (aj (aP E.bV) (aj (gU (aP E.d7) (congrArg L3.D.int (show w = ((w.toNat : Nat) : Int) by omega))) aV)) (by dsimp only [kh]; exact ⟨U0, a1, by omega, a3⟩) (dm y0.bC _)) (t2 := .sh (.tup ((gK ws w).map ql))) rfl) ?_
 refine bq E.g E.Vh (bz (bT (aG (Uu (cZ y0.X (ah av) y0.aj) (v_ E.eO.1) (by rw [amh, amh, amV]; show s.qs.length + _ <= _; omega)) (aG (vf (cZ y0.X (ah av) y0.at) (bT (aG (v_ E.d7.1) bE) (aM rfl)) (List.cons_ne_nil _ _) (by rw [amh, amV]; show s.pk.length + 1 <= _; omega)) bE)) (aM rfl)) (t2 := .sh (Cb (s.qs ++ gK ws w, s.pk ++ [w]))) (by unfold Cb; rw [amP, amP]; rfl)) ?_
 refine bq E.g E.A4 (bz (c_ (bs, es, ks, ss, is, os, ws, R, vs, RZ ws s w, past) (E.f9 (dd - 1) y0.b) E.eV (aj (aP E.bV) (aj (aP E.gq) (aj y0.aN (aj (ah av) (aj (aP E.Vh) (aj (aP E.A3) aV)))))) (by dsimp only [cN]; exact ⟨b1, hR, hA, hG⟩) (cM (ci _))) (t2 := .lst (((lq ws R (RZ ws s w)).map Cb).map T.sh)) rfl) ?_
 have Qd : ((gK ws w).map ql).length = (gK ws w).length := amh ..
 refine dU (HK (ah (lY E.cJ (aP E.eO) E.cO)) (ah av)).1 (fun hq => ?_) (fun hq => aK ?_)
 . have hq : (0 : Int) < (((gK ws w).map ql).length : Nat) := amC hq
   have hqn : ¬ gK ws w = [] := fun z => by rw [z] at hq; exact absurd hq y0.g
   obtain ⟨ex, b2⟩ := y2 hqn
   have el := congrArg List.length ex
   rw [amv] at el
   refine bq E.g E.A4 (bz (rS (vL E.A4.1) (bY (bz (c_ (bs, es, ks, ss, is, os, ws, R, vs, tkW s w, past ++ [w]) (E.f9 (dd - 1) y0.b) E.eV (aj (aP E.bV) (aj (aP E.gq) (aj (aP E.jB) (aj y0.ch (aj (aP E.aW) (aj (gU (bY (rS (uP := [.int w]) (aP E.A3) (bY (ds := [.int w]) (cL (bu (v_ E.d7.1) b9) (aM rfl))) (fP _) rfl (by rw [List.length_map, sizeLine_eq]; show past.length + 1 <= _; omega))) (show L3.D.lst (past.map .int ++ [.int w]) = L3.D.lst ((past ++ [w]).map .int) by rw [List.map_append]; rfl)) aV)))))) (by dsimp only [cN]; exact ⟨b2, hR, hA, hG⟩) (cM (ci _))) (t2 := .lst (((lq ws R (tkW s w)).map Cb).map T.sh)) rfl)) (ci _) (ci _) (by rw [List.length_map, List.length_map, sizeLine_eq]; omega)) (t2 := .lst (((lq ws R s).map Cb).map T.sh)) (by rw [ex, List.map_append, List.map_append, List.map_append])) (aK ?_)
   exact cg (vM E.A4.1) rfl
 . have hq : ¬ (0 : Int) < (((gK ws w).map ql).length : Nat) := amR hq
   have hqn : gK ws w = [] := by
     cases hz : gK ws w with
     | nil => rfl
     | cons d l => rw [hz] at hq; exact absurd (show (0 : Int) < ((l.length + 1 : Nat) : Int) by omega) (by simpa using hq)
   rw [y1 hqn]
   exact cg (vM E.A4.1) rfl
theorem bZ : n9 (aF jT) ([("parts", aJ), ("lists", aJ), ("leaf", aJ), ("at", aJ), ("branch", aJ), ("past", aJ), ("number", aJ), ("asks", aJ), ("more", aJ), ("ends", aJ), ("len", aH), ("_law_branches", aH), ("_law_numbers", aH)]) = true := by decide +kernel
theorem q8 : bC ["parts", "lists", "leaf", "at", "branch", "past", "number", "asks", "more", "ends"] ["parts", "lists", "leaf", "at", "branch", "past"] (aF jT) := bJ
abbrev sL : Stmt := top 52
abbrev xA : Type := List pG × List Int
def mS : xA -> List L3.D := fun (l, ops) => [.tup (l.map gC), .lst y0.ah]
def mU : xA -> Prop := fun (l, ops) => ∀ a ∈ l, a.Yc
def mV : xA -> T := fun (l, ops) => (.sh (.bl (kG ops (l.map gC))) : T)
structure QY (X : Cx) (CL : Str -> Addr) : Prop extends dJ X where
 eO : Ln X 0 "asks"
 bX : Ln X 1 "opens"
 lM : Ln X 2 "ask"
theorem QZ {X : Cx} {CL : Str -> Addr} {b : Bx} (E : QY X CL) (l ops) (h : mU (l, ops)) :
   aR X CL b sL ["asks", "opens", "ask"] (mS (l, ops)) (mV (l, ops)) := by
 dsimp only [aR, mU, mS, mV] at h ⊢
 show fD X CL b _ _ { nx := _, rt := fun K9 _ => K9 = T.sh (.bl (kG ops (l.map gC))), bk := _, ct := _ }
 refine kF E.g E.lM (fun j δ => ∃ o, (∀ d ∈ (l.map gC).take j, Ca ops d = true) /\ δ = [some (.sh (.tup (l.map gC))), some y0.ce, o])
   (Ez (v_ E.eO.1)) ⟨_, fun x hx => by simp at hx, rfl⟩ (fun j δ ⟨_, _, e⟩ => by subst e; exact amm rfl) ?turn ?fin
 case turn =>
   rintro j d δ hj ⟨o, qD, rfl⟩
   have htk : (l.map gC).take (j + 1) = (l.map gC).take j ++ [d] := by rw [aoh, hj]; rfl
   have hdm : d ∈ l.map gC := anb hj
   have no : Ca ops d = false -> kG ops (l.map gC) = false := fun e => List.all_eq_false.mpr ⟨d, hdm, by rw [e]; decide⟩
   obtain ⟨a, ha, rfl⟩ := amI.mp hdm
   have hk := h a ha
   have nxt : Ca ops (gC a) = true -> ∀ y ∈ (l.map gC).take (j + 1), Ca ops y = true := fun e y hy => by
     rw [htk] at hy
     rcases amx.mp hy with hy | hy
     . exact qD y hy
     . rw [amQ.mp hy]; exact e
   cases a with
   | num mk b1 m1 b2 m2 =>
     obtain ⟨n1, n2⟩ := Od hk
     refine dU (k7 (iD (q := false) (iC y0.K (ah bS)).1 (fun hb => absurd (amC hb) n1))) y0.aW (fun _ => aK ?_)
     refine dU (k7 (iD (q := false) (iC y0.K (ah bS)).1 (fun hb => absurd (amC hb) n2))) y0.aW (fun _ => aK (aK ⟨_, nxt rfl, rfl⟩))
   | xg op m =>
     have hf := IB ops op m
     refine dU (k7 (iD (iC y0.K (ah bS)).1 (fun _ => lX (yZ y0.K (aP E.bX) rfl rfl).1))) (fun hp => ?_) (fun hp => aK ?_)
     . have hp : y0.bW = true := hp
       refine cg qy ?_
       rw [no]
       rw [hf]
       cases op with
       | false => exact absurd hp (by rw [show decide (y0.P = "open") = false by decide +kernel]; simp)
       | true => rw [Bool.and_eq_true] at hp; simpa using hp.2
     have hp : y0.bW = false := hp
     refine dU (k7 (iD (iC y0.K (ah bS)).1 (fun _ => lX (rV y0.K (aP E.bX) rfl rfl).1))) (fun hq => ?_) (fun hq => aK (aK ⟨_, nxt ?_, rfl⟩))
     . have hq : y0.bX = true := hq
       refine cg qy ?_
       rw [no]
       rw [hf]
       cases op with
       | true => exact absurd hq (by rw [show decide (y0.R = "shut") = false by decide +kernel]; simp)
       | false => rw [Bool.and_eq_true] at hq; simpa using hq.2
     . have hq : y0.bX = false := hq
       rw [hf]
       cases op with
       | true => rw [show decide (y0.R = "open") = true by decide +kernel, Bool.true_and] at hp; simpa using hp
       | false => rw [show decide (y0.P = "shut") = true by decide +kernel, Bool.true_and] at hq; simpa using hq
 case fin =>
   rintro δ ⟨o, qD, rfl⟩
   rw [List.take_length] at qD
   refine cg qy ?_
   rw [show kG ops (l.map gC) = true from ano.mpr qD]
theorem ur : n9 (aF sL) ([("asks", aJ), ("opens", aJ), ("ask", aJ)]) = true := by decide +kernel
theorem A6 : bC ["asks", "opens", "ask"] ["asks", "opens"] (aF sL) := bJ
theorem agi {ws : List dw} {ops : List Int} {sg : Str} {es : List Int} (ht : jZ es) {k : Int} (h0 : 0 <= k) (h1 : k < es.length) : gsW ws ops sg (k :: iO es k) = Oe ws ops sg k ws.length ++ (if es.getD k.toNat 0 = -1 then [] else gsW ws ops sg (es.getD k.toNat 0 :: iO es (es.getD k.toNat 0))) := by
 show (k :: iO es k).flatMap _ = _
 rw [anw, w9 ht h0 h1]
 congr 1
 split <;> rfl
abbrev mW : Stmt := top 53
abbrev rg : Type := List L3.D × List Int × List Str × List Int × List L3.D × List L3.D × List dw × List Int × Int × Str
def jU : rg -> List L3.D := fun (bs, es, ks, ss, is, os, ws, ops, leaf, sg) => [jx bs es ks ss is os y0.as, .lst y0.ah, .int leaf, .str sg]
def gZ : rg -> Prop := fun (bs, es, ks, ss, is, os, ws, ops, leaf, sg) => jZ es /\ es.length <= 900 /\ 0 <= leaf /\ leaf < es.length /\ ws.length <= 63 /\ xj ws
def jV : rg -> T := fun (bs, es, ks, ss, is, os, ws, ops, leaf, sg) => (.lst (((Ko ws ops sg (leaf :: iO es leaf)).map .int).map T.sh) : T)
structure Jr (X : Cx) (CL : Str -> Addr) : Prop extends dJ X where
 bV : Ln X 0 "parts"
 bX : Ln X 1 "opens"
 jB : Ln X 2 "leaf"
 iI : Ln X 3 "sign"
 Ma : Ln X 4 "some"
 iF : Ln X 5 "at"
 d7 : Ln X 6 "number"
 fc : Ln X 7 "way"
 bP : Gl X "range"
 cO : Gl X "len"
 Js : Gl X "_law_fits"
 bQ : X.mg "range" = none
 cJ : X.mg "len" = none
 Q0 : Fc X CL "_law_fits" 1 2 mS mU mV
theorem Jt {X : Cx} {CL : Str -> Addr} {b : Bx} (E : Jr X CL) (bs es ks ss is os ws ops leaf sg) (h : gZ (bs, es, ks, ss, is, os, ws, ops, leaf, sg)) :
   aR X CL b mW ["parts", "opens", "leaf", "sign", "some", "at", "number", "way"] (jU (bs, es, ks, ss, is, os, ws, ops, leaf, sg)) (jV (bs, es, ks, ss, is, os, ws, ops, leaf, sg)) := by
 dsimp only [aR, gZ, jU, jV] at h ⊢
 obtain ⟨ht, hl, f0, f1, NV, Ws⟩ := h
 show fD X CL b _ _ { nx := _, rt := fun K9 _ => K9 = T.lst (((Ko ws ops sg (leaf :: iO es leaf)).map .int).map T.sh), bk := _, ct := _ }
 rw [go_eq (Ak ht f0 f1)]
 refine bq E.g E.Ma y0.aU ?_
 refine bq E.g E.iF (v_ E.jB.1) ?_
 refine yW E.g (fun n δ => ∃ (k : Int) (l : List Int) (o6 o7 : Option T), δ = [some y0.ca, some y0.ce, some (.sh (.int leaf)), some (.sh (.str sg)), some (.lst ((l.map .int).map T.sh)), some (.sh (.int k)), o6, o7] /\ -1 <= k /\ k < n /\ k < es.length /\ l ++ (if k = -1 then [] else gsW ws ops sg (k :: iO es k)) = gsW ws ops sg (leaf :: iO es leaf) /\ l.length + 63 * n <= 63 * (es.length + 1)) (es.length + 1)
   ⟨leaf, [], _, _, rfl, by omega, by omega, f1, by rw [amg y0.b]; rfl, by simp⟩ ?_
 rintro n δ ⟨k, l, o6, o7, rfl, k0, k1, k2, k3, k4⟩
 refine ⟨_, _, (Ex (aP E.iF) (ah (k9 (ah av)))).1, fun hp => ?_, fun hp => ?_⟩
 . have hk : ¬ k = -1 := by simpa using hp
   rw [amg hk, agi ht y0.b k2] at k3
   have hke := ht.at (k := k) y0.b k2
   cases n with
   | zero => omega
   | succ n =>
     have aiW : (ws.map dz).length = ws.length := amh ..
     refine kF E.g E.d7 (fun j δ => ∃ o6 o7, δ = [some y0.ca, some y0.ce, some (.sh (.int leaf)), some (.sh (.str sg)), some (.lst (((l ++ Oe ws ops sg k j).map .int).map T.sh)), some (.sh (.int k)), o6, o7])
       (dI E.bQ (ah (dg aiW E.cJ (bL (aP E.bV) (ah av) (aY (j := 6) rfl)) E.cO)) y0.b E.bP) ⟨_, _, by rw [show Oe ws ops sg k 0 = [] from rfl, amH]⟩ (fun j δ ⟨_, _, e⟩ => by subst e; exact amm rfl) ?turn ?fin
     case turn =>
       rintro j d δ hj ⟨o6, o7, rfl⟩
       obtain ⟨rfl, qi⟩ := gA hj
       have qi : j < ws.length := by simpa using qi
       rw [anp]
       have U0 : uN y0.as (j : Int) = some (dz (ws.getD j w0)) := (iW w0 y0.b y0.b).trans (by rw [amS])
       obtain ⟨al, ea, Qd⟩ := Ws (ws.getD j w0) (by rw [amk, amq qi]; exact anu _)
       have hgl := Og ws ops sg k j
       show fD X CL b _ _ { nx := fun δ => ∃ o6 o7, δ = [_, _, _, _, some (.lst (((l ++ Oe ws ops sg k (j + 1)).map .int).map T.sh)), _, o6, o7], rt := _, bk := _, ct := _ }
       rw [IC]
       generalize Oe ws ops sg k j = gl at hgl ⊢
       refine bq E.g E.fc (K0 (cZ (v_ E.bV.1) (ah av) (aY (j := 6) rfl)) (aP E.d7) U0) ?_
       generalize ws.getD j w0 = w at ea Qd ⊢
       refine dU (k7 (iD (fj (bL (aP E.fc) (ah av) y0.aj) (aP E.iF)).1 (fun _ => iD (iC (bL (aP E.fc) (ah av) y0.at) (aP E.iI)).1 (fun _ => lX (iU (bz (c_ (al, ops) E.Q0 E.Js (aj (gU (bL (aP E.fc) (ah av) (aY (j := 2) rfl)) (by rw [ea])) (aj (aP E.bX) aV)) Qd rfl) (t2 := .sh (.bl (kG ops w.asks))) (by rw [ea]; rfl))))))) (fun hp => ?_) (fun hp => aK ?_)
       . rw [aml hp]
         refine jq E.Ma.1 rfl (v_ E.d7.1) rfl (by simp only [amh, amv]; omega) (aK (aK ?_))
         rw [show ((l ++ gl).map L3.D.int).map T.sh ++ [T.sh (.int (j : Int))] = ((l ++ (gl ++ [(j : Int)])).map L3.D.int).map T.sh by simp]
         exact ⟨_, _, rfl⟩
       . rw [amg (by rw [hp]; decide), amH]
         exact aK ⟨_, _, rfl⟩
     case fin =>
       rintro δ ⟨o6, o7, rfl⟩
       rw [show (bM 0 ((ws.length : Nat) : Int).toNat).length = ws.length by simp [bM]]
       have hgl := Og ws ops sg k ws.length
       have DR : uN (es.map L3.D.int) k = some (.int (es.getD k.toNat 0)) := gy y0.b k2
       refine bq E.g E.iF (gS (cB (bL (aP E.bV) (ah av) y0.at) (aP E.iF) DR) rfl) (aK ⟨n, Nat.lt_succ_self _, es.getD k.toNat 0, l ++ Oe ws ops sg k ws.length, _, _, rfl, hke.1, by omega, by omega, by rw [amr]; exact k3, ?_⟩)
       rw [amv]
       omega
 . have hk : k = -1 := by simpa using hp
   rw [aml hk, amH] at k3
   subst k3
   exact cg (vM E.Ma.1) rfl
theorem dF : n9 (aF mW) ([("parts", aJ), ("opens", aJ), ("leaf", aJ), ("sign", aJ), ("some", aJ), ("at", aJ), ("number", aJ), ("way", aJ), ("range", aH), ("len", aH), ("_law_fits", aH)]) = true := by decide +kernel
theorem vY : bC ["parts", "opens", "leaf", "sign", "some", "at", "number", "way"] ["parts", "opens", "leaf", "sign"] (aF mW) := bJ
abbrev zA : Stmt := top 55
abbrev F8 : Type := List L3.D × List Int × List Str × List Int × List L3.D × List L3.D × List dw × List Int × Str
def sM : F8 -> List L3.D := fun (bs, es, ks, ss, is, os, ws, ops, sg) => [jx bs es ks ss is os y0.as, .lst y0.ah, .str sg]
def oS : F8 -> Prop := fun (bs, es, ks, ss, is, os, ws, ops, sg) => (jZ es /\ es.length <= 900 /\ ks.length = es.length) /\ (ws.length <= 63 /\ xj ws) /\ ops.length <= 1000 /\ ∀ x ∈ ops, 0 <= x /\ x < (es.length : Int)
def sN : F8 -> T := fun (bs, es, ks, ss, is, os, ws, ops, sg) => (.lst ((eG ws ops sg es (jo ks ops)).map fun l => T.lst ((l.map L3.D.int).map T.sh)) : T)
structure YW (X : Cx) (CL : Str -> Addr) : Prop extends dJ X where
 bV : Ln X 0 "parts"
 bX : Ln X 1 "opens"
 iI : Ln X 2 "sign"
 gq : Ln X 3 "lists"
 t7 : Ln X 4 "mood"
 CJ : Gl X "_law_goable"
 Ju : Fc X CL "_law_goable" 2 4 jU gZ jV
theorem YX {X : Cx} {CL : Str -> Addr} {b : Bx} (E : YW X CL) (bs es ks ss is os ws ops sg) (h : oS (bs, es, ks, ss, is, os, ws, ops, sg)) :
   aR X CL b zA ["parts", "opens", "sign", "lists", "mood"] (sM (bs, es, ks, ss, is, os, ws, ops, sg)) (sN (bs, es, ks, ss, is, os, ws, ops, sg)) := by
 dsimp only [aR, oS, sM, sN] at h ⊢
 obtain ⟨⟨ht, RX, Yq⟩, ⟨NV, Ws⟩, hol, ho⟩ := h
 refine bq E.g E.gq y0.aU ?_
 refine kF E.g E.t7 (fun j δ => ∃ o, δ = [some y0.ca, some y0.ce, some (.sh (.str sg)), some (.lst ((eG ws ops sg es (jo ks (ops.take j))).map fun l => T.lst ((l.map L3.D.int).map T.sh))), o])
   (wR (v_ E.bX.1)) ⟨_, rfl⟩ (fun j δ ⟨_, e⟩ => by subst e; exact amm rfl) ?turn ?fin
 case turn =>
   rintro j d δ hj ⟨o, rfl⟩
   obtain ⟨x, rfl, _, hx, qi, _, htk⟩ := EG hj
   obtain ⟨x0, x1⟩ := ho x hx
   have DR : uN (ks.map L3.D.str) x = some (.str (ks.getD x.toNat Str.empty)) := iW Str.empty x0 y0.b
   have hl1 : (eG ws ops sg es (jo ks (ops.take j))).length <= j := by
     unfold eG
     rw [amh]
     have h1 := anz (IE ks) (ops.take j)
     have h2 := List.length_take_le j ops
     unfold jo
     omega
   show fD X CL b _ _ { nx := fun δ => ∃ o, δ = [_, _, _, some (.lst ((eG ws ops sg es (jo ks (ops.take (j + 1)))).map fun l => T.lst ((l.map L3.D.int).map T.sh))), o], rt := _, bk := _, ct := _ }
   rw [htk]
   have en : jo ks (ops.take j ++ [x]) = jo ks (ops.take j) ++ (if IE ks x = true then [x] else []) := by
     unfold jo
     rw [aod, List.filter_cons, aom]
   rw [en]
   refine dU (iC (cB (bL (aP E.bV) (ah av) (aY (j := 2) rfl)) (aP E.t7) DR) (ah bS)).1 (fun hp => ?_) (fun hp => aK ?_)
   . rw [aml (show IE ks x = true from hp)]
     refine jq E.gq.1 rfl (bz (c_ (bs, es, ks, ss, is, os, ws, ops, x, sg) E.Ju E.CJ (aj (aP E.bV) (aj (aP E.bX) (aj (aP E.t7) (aj (aP E.iI) aV)))) (by dsimp only [gZ]; exact ⟨ht, RX, x0, x1, NV, Ws⟩) (cT _)) (t2 := .lst (((Ko ws ops sg (x :: iO es x)).map .int).map T.sh)) rfl) rfl (by rw [List.length_map]; omega) (aK (aK ?_))
     rw [show (eG ws ops sg es (jo ks (ops.take j))).map (fun l => T.lst ((l.map L3.D.int).map T.sh)) ++ [T.lst (((Ko ws ops sg (x :: iO es x)).map .int).map T.sh)] = (eG ws ops sg es (jo ks (ops.take j) ++ [x])).map (fun l => T.lst ((l.map L3.D.int).map T.sh)) by unfold eG; rw [amP, amP]; rfl]
     exact ⟨_, rfl⟩
   . have hp : ¬ IE ks x = true := fun z => by
       have z : decide (ks.getD x.toNat Str.empty = "leaf") = true := z
       rw [hp] at z
       cases z
     rw [amg hp, amH]
     exact aK ⟨_, rfl⟩
 case fin =>
   rintro δ ⟨o, rfl⟩
   rw [amh, List.take_length]
   exact cg (vM E.gq.1) rfl
theorem oU : n9 (aF zA) ([("parts", aJ), ("opens", aJ), ("sign", aJ), ("lists", aJ), ("mood", aJ), ("_law_goable", aH)]) = true := by decide +kernel
theorem Jv : bC ["parts", "opens", "sign", "lists", "mood"] ["parts", "opens", "sign"] (aF zA) := bJ
def Sm : Nat -> L3.D -> Prop
 | _, .int _ => True
 | _, .str _ => True
 | n + 1, .lst ds => ds.length <= 1000 /\ ∀ d ∈ ds, Sm n d
 | n + 1, .tup ds => ds.length <= 1000 /\ ∀ d ∈ ds, Sm n d
 | _, _ => False
theorem F9 {ds : List L3.D} {j : Nat} (h : j < ds.length) : uN ds (j : Int) = some ds[j] := aY (amq h)
abbrev s_same : Stmt := top 38
abbrev Mb : Type := L3.D
def rj : Mb -> List L3.D := fun d => [d, d]
def lQ (dd : Nat) : Mb -> Prop := fun d => Sm dd d
def rq : Mb -> T := fun d => (.sh (.bl true) : T)
structure adl (X : Cx) (CL : Str -> Addr) (dd : Nat) : Prop extends dJ X where
 cK : Ln X 0 "found"
 gu : Ln X 1 "due"
 lU : Ln X 2 "k"
 bA : Gl X "isinstance"
 vp : Gl X "str"
 DT : Gl X "int"
 g_bool : Gl X "bool"
 dW : Gl X "list"
 g7 : Gl X "tuple"
 cO : Gl X "len"
 bP : Gl X "range"
 ki : Gl X "_law_same"
 bB : X.mg "isinstance" = none
 lB : X.mg "str" = none
 DU : X.mg "int" = none
 adn : X.mg "bool" = none
 dX : X.mg "list" = none
 g8 : X.mg "tuple" = none
 cJ : X.mg "len" = none
 bQ : X.mg "range" = none
 A7 : ∀ d', d' < dd -> Fc X CL "_law_same" (1 + d') 2 rj (lQ d') rq
theorem ado {X : Cx} {CL : Str -> Addr} {b : Bx} {dd : Nat} (E : adl X CL dd) (d) (h : lQ dd d) :
   aR X CL b s_same ["found", "due", "k"] (rj d) (rq d) := by
 dsimp only [aR, lQ, rj, rq] at h ⊢
 cases d with
 | int i =>
   refine dU y0.aO y0.bK (fun _ => aK ?_)
   refine dU (iU (isI E.bB E.DU E.bA E.DT (aP E.gu))) (fun hp => ?_) y0.bK
   refine cg (KZ (isI E.bB E.DU E.bA E.DT (aP E.cK)) (fun hb => (KZ (S6 (isB E.bB E.adn E.bA E.g_bool (aP E.cK))) (fun hb2 => (SY (fj (aP E.cK) (aP E.gu)).2))))) ?_
   simp
 | str x =>
   refine dU y0.aO (fun hp => ?_) y0.bK
   refine cg (KZ (isS E.bB E.lB E.bA E.vp (aP E.cK)) (fun hb => (SY (iC (aP E.cK) (aP E.gu)).2))) ?_
   simp
 | lst ds =>
   obtain ⟨n, rfl⟩ : ∃ n, dd = n + 1 := by
     cases dd with
     | zero => exact absurd h (by intro z; cases z)
     | succ n => exact ⟨n, rfl⟩
   obtain ⟨hl, hd⟩ : ds.length <= 1000 /\ ∀ d ∈ ds, Sm n d := h
   refine dU y0.aO y0.bK (fun _ => aK ?_)
   refine dU (iU (isI E.bB E.DU E.bA E.DT (aP E.gu))) y0.bK (fun _ => aK ?_)
   refine dU y0.Y y0.bK (fun _ => aK ?_)
   refine dU (Ex (ah (yV E.cJ (aP E.cK) E.cO)) (ah (yV E.cJ (aP E.gu) E.cO))).1 y0.aW (fun _ => aK ?_)
   refine kF E.g E.lU (fun j δ => ∃ o, δ = [some (.sh (.lst ds)), some (.sh (.lst ds)), o])
     (dI E.bQ (ah (yV E.cJ (aP E.gu) E.cO)) y0.b E.bP) ⟨_, rfl⟩ (fun j δ ⟨_, e⟩ => by subst e; exact amm rfl) ?turn ?fin
   case turn =>
     rintro j d δ hj ⟨o, rfl⟩
     obtain ⟨rfl, qi⟩ := gA hj
     have qi : j < ds.length := by omega
     rw [anp]
     refine dU (qB (iU (c_ ds[j] (E.A7 n y0.b) E.ki (aj (cB (aP E.cK) y0.aT (F9 qi)) (aj (cB (aP E.gu) y0.aT (F9 qi)) aV)) (by dsimp only [lQ]; exact hd _ (List.getElem_mem _)) rfl))) (fun hp => by cases hp) (fun _ => aK (aK ⟨_, rfl⟩))
   case fin =>
     rintro δ ⟨o, rfl⟩
     exact cg qy rfl
 | tup ds =>
   obtain ⟨n, rfl⟩ : ∃ n, dd = n + 1 := by
     cases dd with
     | zero => exact absurd h (by intro z; cases z)
     | succ n => exact ⟨n, rfl⟩
   obtain ⟨hl, hd⟩ : ds.length <= 1000 /\ ∀ d ∈ ds, Sm n d := h
   refine dU y0.aO y0.bK (fun _ => aK ?_)
   refine dU (iU (isI E.bB E.DU E.bA E.DT (aP E.gu))) y0.bK (fun _ => aK ?_)
   refine dU y0.Y y0.bK (fun _ => aK ?_)
   refine dU (Ex (ah (lY E.cJ (aP E.cK) E.cO)) (ah (lY E.cJ (aP E.gu) E.cO))).1 y0.aW (fun _ => aK ?_)
   refine kF E.g E.lU (fun j δ => ∃ o, δ = [some (.sh (.tup ds)), some (.sh (.tup ds)), o])
     (dI E.bQ (ah (lY E.cJ (aP E.gu) E.cO)) y0.b E.bP) ⟨_, rfl⟩ (fun j δ ⟨_, e⟩ => by subst e; exact amm rfl) ?turn ?fin
   case turn =>
     rintro j d δ hj ⟨o, rfl⟩
     obtain ⟨rfl, qi⟩ := gA hj
     have qi : j < ds.length := by omega
     rw [anp]
     refine dU (qB (iU (c_ ds[j] (E.A7 n y0.b) E.ki (aj (bL (aP E.cK) y0.aT (F9 qi)) (aj (bL (aP E.gu) y0.aT (F9 qi)) aV)) (by dsimp only [lQ]; exact hd _ (List.getElem_mem _)) rfl))) (fun hp => by cases hp) (fun _ => aK (aK ⟨_, rfl⟩))
   case fin =>
     rintro δ ⟨o, rfl⟩
     exact cg qy rfl
 | non => exact absurd h y0.ac
 | bl _ => exact absurd h y0.ac
 | ins _ _ => exact absurd h y0.ac
 | any => exact absurd h y0.ac
 | kZ _ => exact absurd h y0.ac
 | dct _ => exact absurd h y0.ac
 | val _ => exact absurd h y0.ac
theorem iB : n9 (aF s_same) ([("found", aJ), ("due", aJ), ("k", aJ), ("isinstance", aH), ("str", aH), ("int", aH), ("bool", aH), ("list", aH), ("tuple", aH), ("len", aH), ("range", aH), ("_law_same", aH)]) = true := by decide +kernel
theorem OQ : bC ["found", "due", "k"] ["found", "due"] (aF s_same) := bJ
def Jw (n m : Nat) (c : Int) : pG := if c % 3 = 1 then .xg (decide (c / 3 % 2 = 0)) (c / 6 % (m : Int)) else .num ((["<", "<=", "=", "!="] : List Str).getD (c / 3 % 4).toNat Str.empty) (c / 12 % ((n : Int) + 1) - 1) (Ce (c / 12 / 4)) (c / 48 % ((n : Int) + 1) - 1) (Ce (c / 48 / 4))
theorem YY (n m : Nat) (c : Int) : IK n m c = gC (Jw n m c) := by
 unfold IK Jw
 split
 . have : c / 3 % 2 = 0 \/ c / 3 % 2 = 1 := by omega
   rcases this with e | e
   . rw [e]; rfl
   . rw [e]; rfl
 . rfl
theorem Vi {n m : Nat} {vs : List Int} (hm : 1 <= m) (hv : vs.length = n) (c : Int) : (Jw n m c).Ok m vs := by
 unfold Jw
 split
 . exact ⟨amN _ y0.b, amA _ y0.b⟩
 . have a1 := amN (c / 12) (b := (n : Int) + 1) y0.b
   have a2 := amA (c / 12) (b := (n : Int) + 1) y0.b
   have b1 := amN (c / 48) (b := (n : Int) + 1) y0.b
   have b2 := amA (c / 48) (b := (n : Int) + 1) y0.b
   refine ⟨?_, by omega, by omega⟩
   have : c / 3 % 4 = 0 \/ c / 3 % 4 = 1 \/ c / 3 % 4 = 2 \/ c / 3 % 4 = 3 := by omega
   rcases this with e | e | e | e <;> rw [e] <;> decide +kernel
theorem Vj {s es : List Int} {n : Nat} {vs : List Int} (hm : 1 <= es.length) (hv : vs.length = n) : kN es.length vs (tG s es n) := fun w hw => by
 obtain ⟨k, _, rfl⟩ := amI.mp hw
 have hl := Qz s (200 + 12 * (k : Int) + 1) es.length n
 unfold qL at hl
 rw [amh, anc] at hl
 refine ⟨(List.range (aN s (200 + 12 * (k : Int) + 1) % 3).toNat).map fun (j : Nat) => Jw n es.length (aN s (200 + 12 * (k : Int) + 1 + 1 + (j : Int))), ?_, by rw [amh, anc]; exact hl, fun a ha => ?_⟩
 . show qL s (200 + 12 * (k : Int) + 1) es.length n = _
   unfold qL
   rw [amO]
   refine am7 fun j _ => ?_
   exact YY _ _ _
 . obtain ⟨j, _, rfl⟩ := amI.mp ha
   exact Vi hm hv _
theorem kN.g {n : Nat} {vs : List Int} {ws : List dw} (h : kN n vs ws) : LV ws := fun w hw => by
 obtain ⟨l, e, hl, ha⟩ := h w hw
 refine ⟨by rw [e, amh]; omega, by rw [e]; exact dm (fun a => IA a) _, fun d hd => ?_, ?_⟩
 . rw [e] at hd
   obtain ⟨a, _, rfl⟩ := amI.mp hd
   cases a with
   | xg op m => exact ⟨_, _, rfl⟩
   | num mk b1 m1 b2 m2 => exact ⟨_, _, rfl⟩
 . rw [e, Oh ha]
   unfold UD
   rw [e, E8]
theorem vZ {bs nm is os ws : List L3.D} {t : T} (h1 : D.cI bs = true) (h2 : D.cI nm = true) (h3 : t.clean = true) (h4 : D.cI is = true) (h5 : D.cI os = true) (h6 : D.cI ws = true) : T.cz (kB bs nm t is os ws) = true := by
 unfold kB tY tZ
 rw [amL, amL, anQ, T.cz, T.cz, T.cz, T.cz, T.cz, T.cz, T.cz, cM h1, cM h2, h3, cM h4, cM h5, cM h6]
 rfl
theorem Vk (n : Nat) {l : List Int} (h : l.length <= 1000) : Sm (n + 1) (.lst (l.map .int)) := ⟨by rw [amh]; exact h, fun d hd => by
 obtain ⟨i, _, rfl⟩ := amI.mp hd
 cases n <;> trivial⟩
theorem v5 (n : Nat) : (Kp n).length = n + 1 := by unfold Kp; rw [amB, ane]
theorem Vl {n k : Nat} (h : k < n) : (Kp n).getD (k + 1) 0 = 0 := by
 unfold Kp
 rw [List.getD_cons_succ, amk, aob, aml h]
 rfl
theorem Vm (n : Nat) : jZ (Kp n) := fun k hk => by
 rw [v5] at hk
 cases k with
 | zero => exact ⟨Int.le_refl _, show (-1 : Int) < 0 by decide⟩
 | succ k => rw [Vl y0.b]; omega
theorem YZ (n : Nat) : (L6 n).length = n + 1 := by unfold L6; rw [amB, ane]
theorem OS (n : Nat) : (CB n).length = n := by unfold CB; rw [amh, anc]
theorem Vo {n k : Nat} (h : k < n) : (CB n).getD k w0 = Vd k := by
 unfold CB
 rw [amk, amT, anr h]
 rfl
theorem Y0 (n m : Nat) : kN m [] (CB n) := fun w hw => by
 obtain ⟨k, _, rfl⟩ := amI.mp hw
 refine ⟨[.num "<" (-1) 0 (-1) ((k : Int) % 3)], rfl, amm rfl, fun a ha => ?_⟩
 rw [amQ.mp ha]
 exact ⟨by decide +kernel, .inl rfl, .inl rfl⟩
theorem gmW {n : Nat} (ops : List Int) (m : Int) : ∀ j, j <= n -> Oe (CB n) ops "go" m j = if 1 <= m /\ m <= (j : Int) then [m - 1] else []
 | 0, _ => by rw [amg y0.b]; rfl
 | j + 1, hj => by
   rw [IC, gmW ops m j y0.b, Vo y0.b]
   have e : (decide ((Vd j).src = m) && (decide ((Vd j).sign = ("go" : Str)) && kG ops (Vd j).asks)) = decide ((j : Int) + 1 = m) := by
     rw [show decide ((Vd j).sign = ("go" : Str)) = true from anC rfl, show kG ops (Vd j).asks = true from rfl, Bool.and_true, Bool.and_true]
     rfl
   rw [e]
   by_cases z : (j : Int) + 1 = m
   . rw [amg y0.b, anC z, aml rfl, aml y0.b, anQ]
     congr 1
     omega
   . rw [ang z, amg amE, amH]
     by_cases q : 1 <= m /\ m <= (j : Int)
     . rw [aml q, aml y0.b]
     . rw [amg q, amg y0.b]
theorem lvW (n : Nat) : jo (L6 n) (YK n) = (List.range n).map fun (k : Nat) => (k : Int) + 1 := by
 unfold jo YK
 rw [List.range_succ_eq_map, amD, amO, anT (show ¬ IE (L6 n) ((0 : Nat) : Int) = true from (by decide +kernel : ¬ decide (("all" : Str) = "leaf") = true))]
 rw [List.filter_eq_self.mpr fun x hx => ?_]
 . exact am7 fun k _ => rfl
 . obtain ⟨k, hk, rfl⟩ := amI.mp hx
   have hk := amZ.mp hk
   show decide ((L6 n).getD ((k + 1 : Nat) : Int).toNat Str.empty = "leaf") = true
   rw [amS]
   unfold L6
   rw [List.getD_cons_succ, amk, aob, aml hk]
   rfl
theorem aiY (n : Nat) : eG (CB n) (YK n) "go" (Kp n) (jo (L6 n) (YK n)) = ((List.range n).map fun (k : Nat) => (k : Int)).map fun w => [w] := by
 rw [lvW]
 unfold eG
 rw [amO, amO]
 refine am7 fun k hk => ?_
 have hk := amZ.mp hk
 have hl := v5 n
 show Ko (CB n) (YK n) "go" (((k : Int) + 1) :: iO (Kp n) ((k : Int) + 1)) = [(k : Int)]
 have ht := Vm n
 rw [go_eq (Ak ht y0.b y0.b), w9 ht y0.b y0.b, show ((k : Int) + 1).toNat = k + 1 by omega, Vl hk, amg y0.g, w9 ht y0.g y0.b, aml (show (Kp n).getD (0 : Int).toNat 0 = -1 from rfl)]
 unfold gsW
 rw [OS, anw, anw, List.flatMap_nil, gmW _ _ n (amo _), gmW _ _ n (amo _), aml y0.b, amg y0.b, anQ, amH]
 congr 1
 omega
theorem adp {n k : Nat} (h : k < n) : ¬ gK (CB n) (k : Int) = [] := by
 unfold gK
 rw [amS, Vo h]
 intro z
 cases z
theorem exW {ws : List dw} : ∀ (l : List Int) (q : List Ask) (p : List Int) (h : List (Int × Bool)), l.Nodup -> (∀ w ∈ l, ¬ gK ws w = []) -> (∀ w ∈ l, cR h w = none) -> 2 ^ l.length <= (jD ws (l.map fun w => [w]) q p h).length
 | [], q, p, h, _, _, _ => by rw [List.map_nil, pH]; exact amo _
 | w :: l, q, p, h, nd, hq, hn => by
   rw [ank] at nd
   have nx : ∀ c, ∀ v ∈ l, cR (h ++ [(w, c)]) v = none := fun c v hv => by
     rw [kT, hn v (amn _ hv), amg (show ¬ w = v from fun z => nd.1 (by rw [z]; exact hv))]
     rfl
   have i1 := exW l (q ++ gK ws w) (lV p w) (h ++ [(w, true)]) nd.2 (fun v hv => hq v (amn _ hv)) (nx true)
   have i2 := exW l q p (h ++ [(w, false)]) nd.2 (fun v hv => hq v (amn _ hv)) (nx false)
   rw [amD, oA (hq w amj) (hn w amj), amv, ou, amB, Nat.pow_succ]
   omega
theorem agj {n mo : Nat} (h : 20 <= n) (hm : mo <= 300) : mo < (jD (CB n) (eG (CB n) (YK n) "go" (Kp n) (jo (L6 n) (YK n))) [] [] []).length := by
 rw [aiY]
 have z := exW (ws := CB n) ((List.range n).map fun (k : Nat) => (k : Int)) [] [] [] (List.pairwise_map.mpr (List.nodup_range.imp fun {x y} q z => q (Int.ofNat.inj z))) (fun w hw => by
     obtain ⟨k, hk, rfl⟩ := amI.mp hw
     exact adp (amZ.mp hk)) (fun w _ => rfl)
 rw [amh, anc] at z
 have z2 : 2 ^ 20 <= 2 ^ n := an6 y0.g h
 have : (2 : Nat) ^ 20 = 1048576 := by decide
 omega
theorem Vp {ws : List dw} (hw : ∀ w, (gK ws w).length <= 2) (r : List (List Int)) (q : List Ask) (p : List Int) (h : List (Int × Bool)) : ∀ x ∈ jD ws r q p h, x.1.length <= q.length + 2 * kH r /\ x.2.length <= p.length + kH r := by
 refine E9 (ws := ws) (P := fun r q p h => ∀ x ∈ jD ws r q p h, x.1.length <= q.length + 2 * kH r /\ x.2.length <= p.length + kH r) ?_ ?_ ?_ ?_ ?_ (kH r) r (amo _) q p h
 . intro q p h x hx
   rw [pH] at hx
   rw [amQ.mp hx]
   exact ⟨Nat.le_add_right _ _, Nat.le_add_right _ _⟩
 . intro r q p h i x hx
   rw [ou] at hx
   have := i x hx
   rw [bF]
   omega
 . intro w l r q p h hc i x hx
   rw [oz hc] at hx
   have := i x hx
   have := Fd p w
   rw [bF]
   omega
 . intro w l r q p h hc hf i x hx
   rw [qG hc hf] at hx
   have := i x hx
   rw [bF] at this
   rw [bF, amB]
   omega
 . intro w l r q p h hn hl i1 i2 x hx
   rw [oA hn hl] at hx
   have z := hw w
   have := Fd p w
   rcases amx.mp hx with hx | hx
   . have := i1 x hx
     rw [amv] at this
     rw [bF]
     omega
   . have := i2 x hx
     rw [bF] at this
     rw [bF, amB]
     omega
theorem Y3 {n : Nat} {vs : List Int} {ws : List dw} (h : kN n vs ws) (w : Int) : (gK ws w).length <= 2 := by
 unfold gK
 by_cases hk : w.toNat < ws.length
 . rw [amk, amq hk]
   obtain ⟨l, e, hl, _⟩ := h ws[w.toNat] (anu _)
   show (UD ws[w.toNat]).length <= 2
   unfold UD
   rw [e, E8]
   have : ∀ l : List pG, (l.flatMap Yh).length <= l.length := fun l => by
     induction l with
     | nil => exact amo _
     | cons a l ih =>
       rw [anw, amv, amB]
       have : (Yh a).length <= 1 := by cases a <;> exact amm rfl
       omega
   have := this l
   omega
 . rw [amk, anY y0.b]
   exact amM _
abbrev OU : Stmt := top 60
abbrev Vq : Type := List Int
def sO : Vq -> List L3.D := fun a => [.lst (a.map .int)]
def sP : Vq -> Prop := fun a => a.length <= 63
def sQ : Vq -> T := fun a => (.sh (.bl true) : T)
structure agk (X : Cx) (CL : Str -> Addr) : Prop extends dJ X where
 aU : Ln X 0 "script"
 bV : Ln X 1 "parts"
 dh : Ln X 2 "chart"
 bW : Ln X 3 "cell"
 A8 : Ln X 4 "wide"
 pI : Ln X 5 "turn"
 gD : Ln X 6 "chosen"
 bX : Ln X 7 "opens"
 iI : Ln X 8 "sign"
 gu : Ln X 9 "due"
 v7 : Ln X 10 "handed"
 nh : Ln X 11 "most"
 Ga : Gl X "_law_parts"
 Gb : Gl X "_law_chart"
 bf : Gl X "_law_cell"
 rA : Gl X "_law_refused"
 Jx : Gl X "_law_wide"
 dW : Gl X "list"
 bP : Gl X "range"
 Gd : Gl X "_law_turns"
 ni : Gl X "_law_chosen"
 Ge : Gl X "_law_opens"
 j6 : Gl X "_law_name"
 eV : Gl X "_law_branches"
 Gf : Gl X "_law_lists"
 cO : Gl X "len"
 ki : Gl X "_law_same"
 lP : Gl X "branches"
 Y4 : Fc X CL "_law_parts" 5 2 r6 r9 sd
 Y5 : Fc X CL "_law_chart" 3 1 se oK sf
 c7 : Fc X CL "_law_cell" 1 2 fQ bG fE
 D8 : Fc X CL "_law_refused" 4 4 mO j9 mP
 adq : Fc X CL "_law_wide" 3 1 vV vW vX
 dX : X.mg "list" = none
 bQ : X.mg "range" = none
 Y6 : Fc X CL "_law_turns" 1 1 sA sC sE
 AI : Fc X CL "_law_chosen" 2 4 lz iG lA
 Y7 : Fc X CL "_law_opens" 1 3 sG oR sH
 Ay : Fc X CL "_law_name" 2 2 oF i6 oG
 f9 : Fc X CL "_law_branches" 102 6 fW (cN 100) fX
 Y8 : Fc X CL "_law_lists" 3 3 sM oS sN
 cJ : X.mg "len" = none
 A7 : Fc X CL "_law_same" 9 2 rj (lQ 8) rq
 AZ : Fc X CL "branches" 3 4 jg fN jh
 yx : FcR X CL "branches" 3 4 gG dD gH
theorem agl {X : Cx} {CL : Str -> Addr} {b : Bx} (E : agk X CL) (a) (h : sP a) :
   aR X CL b OU ["script", "parts", "chart", "cell", "wide", "turn", "chosen", "opens", "sign", "due", "handed", "most"] (sO a) (sQ a) := by
 dsimp only [aR, sP, sO, sQ] at h ⊢
 have hs : a.length <= 1000 := by omega
 refine bq E.g E.bV (bz (cF (a, 9) E.Y4 E.Ga (bu (v_ E.aU.1) (bu av b9)) ⟨hs, by omega, by omega⟩) (t2 := .sh (jx ((LD a).map Ai) (lW a (fq a 9)) (Fg a (lW a (fq a 9)) (fq a 9)) (Oo a (lW a (fq a 9)) (Fg a (lW a (fq a 9)) (fq a 9)) 16 (fq a 9)) (IV a 100 (fq a 9)) (IV a 103 (fq a 9)) ((tG a (lW a (fq a 9)) (pO a)).map dz))) rfl) ?_
 obtain ⟨n1, n2, _⟩ := Oz a (most := 9) y0.b
 generalize fq a 9 = n at n1 n2 ⊢
 obtain ⟨RX, wK⟩ := Ol a n1 n2
 generalize lW a n = es at RX wK ⊢
 have ht := wK.1
 have Yq := Fi a es n
 have LJ := Om a es
 rw [RX] at LJ
 generalize Fg a es n = ks at Yq LJ ⊢
 generalize Oo a es ks 16 n = ss
 have iw := AA a es (pO a)
 have hwa : ∀ vs : List Int, vs.length = pO a -> kN es.length vs (tG a es (pO a)) := fun vs hv => Vj y0.b hv
 have NV : (tG a es (pO a)).length <= 8 := by
   unfold tG
   rw [amh, anc]
   exact DZ a es.length
 have hnb : pO a <= 3 := by
   have := amA (aN a 32) (show (0 : Int) < 4 by decide)
   unfold pO
   omega
 have ib := QC a
 have hbl : ((LD a).map Ai).length = pO a := by
   unfold LD pO
   rw [amh, amh, anc]
 generalize pO a = nb at iw hwa NV hnb hbl ⊢
 generalize tG a es nb = ws at iw hwa NV ⊢
 have ii := D0 a 100 n
 have io := D0 a 103 n
 generalize IV a 100 n = is at ii ⊢
 generalize IV a 103 n = os at io ⊢
 generalize (LD a).map Ai = bs at ib hbl ⊢
 refine bq E.g E.dh (mh (d := iE bs ((pR es.length).map .str) y0.br is os y0.as) (c_ (bs, es, ks, ss, is, os, ws.map dz) E.Y5 E.Gb (aj (aP E.bV) aV) (by dsimp only [oK]; exact ⟨ib, ii, io, iw, by omega⟩) (by
   show T.cz (kB _ _ _ _ _ _) = true
   exact vZ ib (lg _) (mj ks es ss) ii io iw)) (by
   show T.eF (.ins "Chart" (kB _ _ _ _ _ _)) = _
   rw [Ah, DP])) ?_
 have hcl : ∀ R : List (List Int), (T.lst (R.map fun l => T.lst ((l.map L3.D.int).map T.sh))).clean = true := fun R => by
   rw [oi]
   induction R with
   | nil => rfl
   | cons l R ih => rw [amD, T.ju, cT, ih]; rfl
 refine zR (fun δ => ∃ o3 o4, δ = [some (.sh (.lst (a.map .int))), some y0.ca, some (.sh (iE bs ((pR es.length).map .str) y0.br is os y0.as)), o3, o4, none, none, none, none, none, none, none]) (fj (ah (bO (ah (c_ ((a, 63)) E.c7 E.bf y0.D y0.e rfl)) (ah av) y0.g)) (ah av)).1 (fun _ => ?_) (fun _ => aK ⟨_, _, rfl⟩) ?_
 . refine bq E.g E.bW (cY (ah (c_ ((a, 63)) E.c7 E.bf y0.D y0.e rfl)) (ah av) ⟨by decide, by decide⟩) ?_
   generalize aN a 63 / 8 = c
   refine bq E.g E.A8 (b8 (ah av) y0.bL) ?_
   have c0 := amN c (b := 41) y0.g
   have c1 := amA c (show (0 : Int) < 41 by decide)
   obtain ⟨n, hn⟩ : ∃ n : Nat, 20 + c % 41 = (n : Int) := ⟨(20 + c % 41).toNat, by omega⟩
   have m0 := amN (c / 41) (b := 301) y0.g
   have m1 := amA (c / 41) (show (0 : Int) < 301 by decide)
   obtain ⟨mo, YH⟩ : ∃ mo : Nat, c / 41 % 301 = (mo : Int) := ⟨(c / 41 % 301).toNat, by omega⟩
   have Qd := Y0 n (n + 1)
   rw [hn]
   refine dU (qB (iU (bz (c_ ([], (pR (n + 1)).map L3.D.str, L6 n, Kp n, ssW n, List.replicate (n + 1) (L3.D.tup []), List.replicate (n + 1) (L3.D.tup []), CB n, YK n, ("go" : Str), mo) E.D8 E.rA
     (aj (ah (mh (d := iE [] ((pR (n + 1)).map .str) (j3 (L6 n) (Kp n) (ssW n)) y0.bt y0.bt ((CB n).map dz)) (c_ n E.adq E.Jx (aj (aP E.A8) aV) (show n <= 60 by omega) (by
       show T.cz (kB _ _ _ _ _ _) = true
       exact vZ rfl (lg _) (mj _ _ _) (oO _) (oO _) (F0 n))) (by
       show T.eF (.ins "Chart" (kB _ _ _ _ _ _)) = _
       rw [Ah, DP])))
     (aj (bY (Ue (n := n + 1) E.g E.dX E.bQ (gU (ah (b8 (aP E.A8) (ah av))) (show L3.D.int ((n : Int) + 1) = L3.D.int ((n + 1 : Nat) : Int) from rfl)) y0.b E.dW E.bP)) (aj (ah bS) (aj (gU y0.bS (congrArg L3.D.int YH)) aV))))
     (by
       dsimp only [j9, dD]
       refine ⟨⟨Vm n, by rw [v5]; omega, by rw [v5, YZ]⟩, ⟨by rw [OS]; omega, Qd.ok, Qd.g⟩, ⟨by unfold YK; rw [amh, anc]; omega, fun x hx => ?_⟩, agj y0.b y0.b, by omega⟩
       obtain ⟨k, hk, rfl⟩ := amI.mp hx
       have := amZ.mp hk
       rw [v5]
       omega) rfl) (t2 := .sh (.bl true)) rfl))) y0.bK (fun _ => aK (aK ⟨_, _, rfl⟩))
 rintro δ ⟨o3, o4, rfl⟩
 refine bq E.g E.pI av ?_
 have htl := F3 a a.length
 refine kF E.g E.bW (fun j δ => ∃ o3 o4 o6 o7 o8 o9 o10 o11, δ = [some (.sh (.lst (a.map .int))), some y0.ca, some (.sh (iE bs ((pR es.length).map .str) y0.br is os y0.as)), o3, o4, some (.sh (.int (j : Int))), o6, o7, o8, o9, o10, o11])
   (wR (y9 (bz (rS (ds := [.int 0]) (uP := (QT a a.length).map .int) (bY (ds := [.int 0]) (cL (bu av b9) (aM rfl))) (bY (bz (c_ a E.Y6 E.Gd (aj y0.an aV) hs (cT _)) rfl)) rfl (fP _) (anf (cQ (by simp only [amh, amv, amB, anP]; omega)))) (t2 := .lst (((0 :: QT a a.length).map .int).map T.sh)) rfl))) ⟨_, _, _, _, _, _, _, _, rfl⟩ (fun j δ ⟨_, _, _, _, _, _, _, _, e⟩ => by subst e; exact amm rfl) ?turn ?fin
 case turn =>
   rintro j d δ hj ⟨o3, o4, o6, o7, o8, o9, o10, o11, rfl⟩
   obtain ⟨c, rfl, _, _, qi, _, _⟩ := EG hj
   rw [amB] at qi
   have alL : j <= 70 := by omega
   refine bq E.g E.gD (bz (c_ (a, es, ks, 16 + (j : Int)) E.AI E.ni (aj y0.an (aj (bL (aP E.bV) (ah av) y0.at) (aj (bL (aP E.bV) (ah av) (aY (j := 2) rfl)) (aj (ah (b8 (ah av) (aP E.pI))) aV)))) (by dsimp only [iG]; exact ⟨by omega, hs, by omega, LJ, by omega, by omega⟩) (cT _)) (t2 := .lst (((Oo a es ks (16 + (j : Int)) es.length).map .int).map T.sh)) rfl) ?_
   have agm := Oq a es ks (16 + (j : Int)) es.length
   generalize Oo a es ks (16 + (j : Int)) es.length = ch at agm ⊢
   refine bq E.g E.bX (bz (c_ (es, ks, ch) E.Y7 E.Ge (aj (bL (aP E.bV) (ah av) y0.at) (aj (bL (aP E.bV) (ah av) (aY (j := 2) rfl)) (aj (vL E.gD.1) aV))) (by dsimp only [oR]; exact ⟨by omega, by omega, by omega, agm, ht⟩) (cT _)) (t2 := .lst (((E2 (ku ks) es ch (es.length - 1)).map .int).map T.sh)) rfl) ?_
   have X4 : ∀ x ∈ E2 (ku ks) es ch (es.length - 1), 0 <= x /\ x < (es.length : Int) := fun x hx => by
     have := zg _ hx
     omega
   have hol := E3 (isAll := ku ks) (es := es) (ch := ch) (es.length - 1)
   generalize E2 (ku ks) es ch (es.length - 1) = ops at X4 hol ⊢
   have q0 := amN (c + (j : Int)) (b := 4) y0.g
   have q1 := amA (c + (j : Int)) (b := 4) y0.g
   refine bq E.g E.iI (bz (c_ (a, (c + (j : Int)) % 4) E.Ay E.j6 (aj y0.an (aj (ah (bO (ah (b8 (aP E.bW) (aP E.pI))) (ah av) y0.g)) aV)) (by dsimp only [i6]; exact ⟨hs, by omega, by omega⟩) rfl) (t2 := .sh (.str (Wt a ((c + (j : Int)) % 4)))) rfl) ?_
   generalize Wt a ((c + (j : Int)) % 4) = sg
   have haa := hwa (List.replicate nb 0) (ane ..)
   generalize List.replicate nb (0 : Int) = vs at haa
   have hg := haa.g
   have U7 := AW (ws := ws) (ops := ops) (sg := sg) (es := es) (l := jo ks ops)
   have hRl : (eG ws ops sg es (jo ks ops)).length <= 9 := by
     have := anz (IE ks) ops
     unfold eG jo
     rw [amh]
     omega
   have ai1 : (jD ws y0.j [] [] []).length <= 300 := by
     have h1 := Yl ws ws.length y0.j [] [] [] fun l hl => (U7 l hl).1
     have h2 : mq ws.length [] <= ws.length := by
       unfold mq
       refine anB (anz _ _) ?_
       rw [anc]
       exact amo _
     have h3 : 2 ^ mq ws.length [] <= 2 ^ 8 := an6 y0.g y0.b
     omega
   have afY := Oi ws y0.j [] [] []
   have hms : kH y0.j <= 81 := by
     have h1 := LZ (R := eG ws ops sg es (jo ks ops)) (k := ws.length) fun r hr => (U7 r hr).2
     have h2 : (eG ws ops sg es (jo ks ops)).length * (ws.length + 1) <= 9 * 9 := Nat.mul_le_mul hRl y0.b
     omega
   have hql := Vp (fun w => Y3 haa w) y0.j [] [] []
   have hx : ∀ mo : Nat, (mo < (jD ws y0.j [] [] []).length -> dD (bs, (pR es.length).map L3.D.str, ks, es, ss, is, os, ws, ops, sg, mo)) /\ ((jD ws y0.j [] [] []).length <= mo -> mo <= 1000 -> fN (bs, (pR es.length).map L3.D.str, ks, es, ss, is, os, ws, ops, sg, mo)) := fun mo => by
     dsimp only [dD, fN]
     exact ⟨fun z => ⟨⟨ht, by omega, by omega⟩, ⟨by omega, haa.ok, hg⟩, ⟨by omega, X4⟩, z, by omega⟩, fun z z2 => ⟨⟨ht, by omega, by omega⟩, ⟨by omega, haa.ok, hg⟩, ⟨by omega, X4⟩, z, z2⟩⟩
   have e0 : lq ws y0.j ⟨0, 0, [], [], []⟩ = jD ws y0.j [] [] [] := by
     show jD ws (jw _ ⟨0, 0, [], [], []⟩) [] [] [] = _
     rw [D6]
   have hlb : CF ws y0.j ⟨0, 0, [], [], []⟩ [] 100 := by
     have e1 := D6 y0.j
     refine ⟨amM _, amM _, ⟨fun w => ⟨fun z => (by cases z), fun z => absurd z.1 amJ⟩, fun w => ⟨fun z => (by cases z), fun z => absurd z amJ⟩, fun w hw => absurd hw amJ⟩, ?_, ?_, ?_, ?_, by rw [e0]; omega⟩
     . rw [e1]; show 0 + _ <= _; omega
     . rw [e1]; show 0 + _ <= _; omega
     . rw [e1]; show 0 + _ <= _; omega
     . rw [e1]; omega
   refine bq E.g E.gu (bz (c_ (bs, es, ks, ss, is, os, ws, eG ws ops sg es (jo ks ops), vs, ⟨0, 0, [], [], []⟩, []) E.f9 E.eV (aj (aP E.bV) (aj (ah (mh (d := vI y0.j) (bz (c_ (bs, es, ks, ss, is, os, ws, ops, sg) E.Y8 E.Gf (aj (aP E.bV) (aj (vL E.bX.1) (aj (aP E.iI) aV))) (by dsimp only [oS]; exact ⟨⟨ht, by omega, by omega⟩, ⟨by omega, haa.ok⟩, by omega, X4⟩) (hcl _)) (t2 := U5 y0.j) rfl) (xq _))) (aj (ah av) (aj (ah av) (aj (ah (bT (aG y0.bs (aG y0.bs bE)) (aM rfl))) (aj (bY (ds := []) (cL b9 (aM rfl))) aV)))))) (by dsimp only [cN]; exact ⟨hlb, fun l hl => (U7 l hl).1, haa, hg⟩) (cM (dm (fun x => F7 x) _))) (t2 := .lst (((jD ws y0.j [] [] []).map Cb).map T.sh)) (by rw [← e0]; rfl)) ?_
   refine bq E.g E.v7 (dY E.dX (vL E.bX.1) (fP _) E.dW cC) ?_
   obtain ⟨EE, hEE⟩ : ∃ EE, jD ws y0.j [] [] [] = EE := ⟨_, rfl⟩
   rw [hEE] at ai1 afY hql hx ⊢
   have hdl : (EE.map Cb).length = EE.length := amh ..
   have q3 := amN c (b := 3) y0.g
   have q4 := amA c y0.aV
   obtain ⟨mo, YH⟩ : ∃ mo : Nat, (EE.length : Int) + c % 3 = (mo : Int) := ⟨EE.length + (c % 3).toNat, by omega⟩
   refine bq E.g E.nh (bz (b8 (ah (dg hdl E.cJ (vL E.gu.1) E.cO)) y0.bL) (t2 := .sh (.int (mo : Int))) (by rw [YH])) ?_
   have ai2 : Sm 8 (.lst (EE.map Cb)) := ⟨by rw [hdl]; omega, fun d hd => by
     obtain ⟨x, hx2, rfl⟩ := amI.mp hd
     obtain ⟨l1, l2⟩ := hql x hx2
     rw [anP] at l1 l2
     refine ⟨amm rfl, fun d hd => ?_⟩
     simp only [amt, amJ, aof] at hd
     rcases hd with rfl | rfl
     . refine ⟨by rw [amh]; omega, fun d hd => ?_⟩
       obtain ⟨q, _, rfl⟩ := amI.mp hd
       refine ⟨amm rfl, fun d hd => ?_⟩
       simp only [amt, amJ, aof] at hd
       rcases hd with rfl | rfl | rfl
       . trivial
       . refine ⟨amm rfl, fun d hd => ?_⟩
         simp only [amt, amJ, aof] at hd
         rcases hd with rfl | rfl <;> trivial
       . refine ⟨amm rfl, fun d hd => ?_⟩
         simp only [amt, amJ, aof] at hd
         rcases hd with rfl | rfl <;> trivial
     . refine ⟨by rw [amh]; omega, fun d hd => ?_⟩
       obtain ⟨q, _, rfl⟩ := amI.mp hd
       trivial⟩
   have ai3 : Sm 8 (.lst y0.ah) := Vk 7 y0.b
   refine dU (k7 (sY (qB (iU (bz (c_ (L3.D.lst (EE.map Cb)) E.A7 E.ki (aj (bY (bz (c_ (bs, (pR es.length).map L3.D.str, ks, es, ss, is, os, ws, ops, sg, mo) E.AZ E.lP (aj (aP E.dh) (aj (vL E.v7.1) (aj (aP E.iI) (aj (aP E.nh) aV)))) ((hx mo).2 y0.b y0.b) (cM (dm (fun x => F7 x) _))) (t2 := .lst ((EE.map Cb).map T.sh)) (by show T.lst (((jD ws y0.j [] [] []).map Cb).map T.sh) = _; rw [hEE]))) (aj (vL E.gu.1) aV)) ai2 rfl) (t2 := .sh (.bl true)) rfl))) (fun _ => m9 (qB (iU (bz (c_ (L3.D.lst y0.ah) E.A7 E.ki (aj (vL E.v7.1) (aj (vL E.bX.1) aV)) ai3 rfl) (t2 := .sh (.bl true)) rfl)))))) y0.bK (fun _ => aK ?_)
   obtain ⟨m2, hm2⟩ : ∃ m2 : Nat, (EE.length : Int) - 1 = (m2 : Int) := ⟨EE.length - 1, by omega⟩
   refine dU (qB (iU (bz (c_ (bs, (pR es.length).map L3.D.str, ks, es, ss, is, os, ws, ops, sg, m2) E.D8 E.rA (aj (aP E.dh) (aj (vL E.v7.1) (aj (aP E.iI) (aj (gU (ah (m8 (ah (dg hdl E.cJ (vL E.gu.1) E.cO)) (ah av))) (congrArg L3.D.int hm2)) aV)))) ((hx m2).1 y0.b) rfl) (t2 := .sh (.bl true)) rfl))) y0.bK (fun _ => aK ?_)
   exact bq E.g E.pI (b8 (aP E.pI) (ah av)) (aK ⟨_, _, _, _, _, _, _, _, rfl⟩)
 case fin =>
   rintro δ ⟨o3, o4, o6, o7, o8, o9, o10, o11, rfl⟩
   exact cg qy rfl
theorem dH : n9 (aF OU) ([("script", aJ), ("parts", aJ), ("chart", aJ), ("cell", aJ), ("wide", aJ), ("turn", aJ), ("chosen", aJ), ("opens", aJ), ("sign", aJ), ("due", aJ), ("handed", aJ), ("most", aJ), ("_law_parts", aH), ("_law_chart", aH), ("_law_cell", aH), ("_law_refused", aH), ("_law_wide", aH), ("list", aH), ("range", aH), ("_law_turns", aH), ("_law_chosen", aH), ("_law_opens", aH), ("_law_name", aH), ("_law_branches", aH), ("_law_lists", aH), ("len", aH), ("_law_same", aH), ("branches", aH)]) = true := by decide +kernel
theorem Vr : bC ["script", "parts", "chart", "cell", "wide", "turn", "chosen", "opens", "sign", "due", "handed", "most"] ["script"] (aF OU) := bJ
def cl (ay aE ak ao aq az au aA ai aB aC aD aL : Addr) : Str -> Addr := fun c => if c = "Chart" then ay else if c = "Tree" then aE else if c = "MoodError" then ak else if c = "BadTree" then ao else if c = "BadName" then aq else if c = "BadBox" then az else if c = "BadDeed" then au else if c = "BadWay" then aA else if c = "TooWide" then ai else if c = "NoStep" then aB else if c = "BadRow" then aC else if c = "NoName" then aD else if c = "#goable.<locals>.<lambda>" then aL else 0
theorem yy {ay aE ak ao aq az au aA ai aB aC aD aL : Addr} : cl ay aE ak ao aq az au aA ai aB aC aD aL "#goable.<locals>.<lambda>" = aL := by unfold cl; rw [amg y0.a]; rw [amg y0.a]; rw [amg y0.a]; rw [amg y0.a]; rw [amg y0.a]; rw [amg y0.a]; rw [amg y0.a]; rw [amg y0.a]; rw [amg y0.a]; rw [amg y0.a]; rw [amg y0.a]; rw [amg y0.a]; rw [aml rfl]
theorem gI {ay aE ak ao aq az au aA ai aB aC aD aL : Addr} : cl ay aE ak ao aq az au aA ai aB aC aD aL "Chart" = ay := by unfold cl; rw [aml rfl]
theorem mX {ay aE ak ao aq az au aA ai aB aC aD aL : Addr} : cl ay aE ak ao aq az au aA ai aB aC aD aL "Tree" = aE := by unfold cl; rw [amg y0.a]; rw [aml rfl]
theorem v8 {ay aE ak ao aq az au aA ai aB aC aD aL : Addr} : cl ay aE ak ao aq az au aA ai aB aC aD aL "MoodError" = ak := by unfold cl; rw [amg y0.a]; rw [amg y0.a]; rw [aml rfl]
theorem A9 {ay aE ak ao aq az au aA ai aB aC aD aL : Addr} : cl ay aE ak ao aq az au aA ai aB aC aD aL "BadTree" = ao := by unfold cl; rw [amg y0.a]; rw [amg y0.a]; rw [amg y0.a]; rw [aml rfl]
theorem Ba {ay aE ak ao aq az au aA ai aB aC aD aL : Addr} : cl ay aE ak ao aq az au aA ai aB aC aD aL "BadName" = aq := by unfold cl; rw [amg y0.a]; rw [amg y0.a]; rw [amg y0.a]; rw [amg y0.a]; rw [aml rfl]
theorem D9 {ay aE ak ao aq az au aA ai aB aC aD aL : Addr} : cl ay aE ak ao aq az au aA ai aB aC aD aL "BadBox" = az := by unfold cl; rw [amg y0.a]; rw [amg y0.a]; rw [amg y0.a]; rw [amg y0.a]; rw [amg y0.a]; rw [aml rfl]
theorem Bb {ay aE ak ao aq az au aA ai aB aC aD aL : Addr} : cl ay aE ak ao aq az au aA ai aB aC aD aL "BadDeed" = au := by unfold cl; rw [amg y0.a]; rw [amg y0.a]; rw [amg y0.a]; rw [amg y0.a]; rw [amg y0.a]; rw [amg y0.a]; rw [aml rfl]
theorem Ea {ay aE ak ao aq az au aA ai aB aC aD aL : Addr} : cl ay aE ak ao aq az au aA ai aB aC aD aL "BadWay" = aA := by unfold cl; rw [amg y0.a]; rw [amg y0.a]; rw [amg y0.a]; rw [amg y0.a]; rw [amg y0.a]; rw [amg y0.a]; rw [amg y0.a]; rw [aml rfl]
theorem cD {ay aE ak ao aq az au aA ai aB aC aD aL : Addr} : cl ay aE ak ao aq az au aA ai aB aC aD aL "TooWide" = ai := by unfold cl; rw [amg y0.a]; rw [amg y0.a]; rw [amg y0.a]; rw [amg y0.a]; rw [amg y0.a]; rw [amg y0.a]; rw [amg y0.a]; rw [amg y0.a]; rw [aml rfl]
theorem Eb {ay aE ak ao aq az au aA ai aB aC aD aL : Addr} : cl ay aE ak ao aq az au aA ai aB aC aD aL "NoStep" = aB := by unfold cl; rw [amg y0.a]; rw [amg y0.a]; rw [amg y0.a]; rw [amg y0.a]; rw [amg y0.a]; rw [amg y0.a]; rw [amg y0.a]; rw [amg y0.a]; rw [amg y0.a]; rw [aml rfl]
theorem Ec {ay aE ak ao aq az au aA ai aB aC aD aL : Addr} : cl ay aE ak ao aq az au aA ai aB aC aD aL "BadRow" = aC := by unfold cl; rw [amg y0.a]; rw [amg y0.a]; rw [amg y0.a]; rw [amg y0.a]; rw [amg y0.a]; rw [amg y0.a]; rw [amg y0.a]; rw [amg y0.a]; rw [amg y0.a]; rw [amg y0.a]; rw [aml rfl]
theorem Ed {ay aE ak ao aq az au aA ai aB aC aD aL : Addr} : cl ay aE ak ao aq az au aA ai aB aC aD aL "NoName" = aD := by unfold cl; rw [amg y0.a]; rw [amg y0.a]; rw [amg y0.a]; rw [amg y0.a]; rw [amg y0.a]; rw [amg y0.a]; rw [amg y0.a]; rw [amg y0.a]; rw [amg y0.a]; rw [amg y0.a]; rw [amg y0.a]; rw [aml rfl]
theorem Y9 {ay aE ak ao aq az au aA ai aB aC aD aL : Addr} {x : Str} (h : HJ x = true) (h0 : cl ay aE ak ao aq az au aA ai aB aC aD aL x ≠ 0) : (cl ay aE ak ao aq az au aA ai aB aC aD aL x, PL x) ∈ ([(aL, "goable.<locals>.<lambda>")] : List (Addr × Str)) := by
 unfold cl at h0 ⊢
 rw [amg (fun e => by rw [e] at h; exact absurd h y0.a)] at h0 ⊢
 rw [amg (fun e => by rw [e] at h; exact absurd h y0.a)] at h0 ⊢
 rw [amg (fun e => by rw [e] at h; exact absurd h y0.a)] at h0 ⊢
 rw [amg (fun e => by rw [e] at h; exact absurd h y0.a)] at h0 ⊢
 rw [amg (fun e => by rw [e] at h; exact absurd h y0.a)] at h0 ⊢
 rw [amg (fun e => by rw [e] at h; exact absurd h y0.a)] at h0 ⊢
 rw [amg (fun e => by rw [e] at h; exact absurd h y0.a)] at h0 ⊢
 rw [amg (fun e => by rw [e] at h; exact absurd h y0.a)] at h0 ⊢
 rw [amg (fun e => by rw [e] at h; exact absurd h y0.a)] at h0 ⊢
 rw [amg (fun e => by rw [e] at h; exact absurd h y0.a)] at h0 ⊢
 rw [amg (fun e => by rw [e] at h; exact absurd h y0.a)] at h0 ⊢
 rw [amg (fun e => by rw [e] at h; exact absurd h y0.a)] at h0 ⊢
 by_cases Bc : x = "#goable.<locals>.<lambda>"
 . rw [aml Bc, Bc, show PL ("#goable.<locals>.<lambda>" : Str) = "goable.<locals>.<lambda>" by decide +kernel]; simp
 rw [amg Bc] at h0 ⊢
 exact absurd rfl h0
def agn {α : Type} : Nat -> (List α -> Prop) -> Prop
 | 0, P => P []
 | n + 1, P => ∀ a, agn n fun r => P (a :: r)
theorem cE {α : Type} {n : Nat} {P : List α -> Prop} (h : agn n P) : ∀ us : List α, us.length = n -> P us := by
 intro us hl
 induction us generalizing n P with
 | nil => subst hl; exact h
 | cons a r ih => subst hl; exact ih (P := fun r => P (a :: r)) (h a) rfl
theorem all_mk {l : PySem.W.OpenLaw} {w : World} {K : PySem.W.Frag} {h : Heap} {mg : Str -> Option Value} {T0 : List Addr} {fa Mf Bd Gg uv Be Mg Bf Mh Mi Gh Mj Gi mY kP Gj nL lR nM rB nO rC xB Gk Ml Bg pY xC Mm Gm Gn xD nP xE rD Gp Mp aaM ay aE ak ao aq az au aA ai aB aC aD aL : Addr} (XX : K.In h) (G : h.Ns mainGlobals mg) (hfa : mg "law" = some (.ref fa))
   {adt Vs Za Mq Vt adu Vu adv adw Zb adx Zc Jy Gq Zd jS fH nJ j8 jQ mK su FU LY Jz lP Q5 ady Ze Zf Q6 tM Q7 JA Zg g_same aaN : FuncData}
   (Gr : PySem.W.nsIn K mainGlobals "Chart" = some (some (.ref ay))) (Bh : PySem.W.plainGet K ay Str.empty = true) (Bj : PySem.W.hasDictIn K ay = true) (Bk : PySem.W.plainOver K ay = true) (Bl : PySem.W.findIn K (.ref ay) "__setattr__" = some y0.aX) (v9 : PySem.W.makesIn K ay = true) (wc : PySem.W.keepIn K (.ref ay) = true)
   (nQ : PySem.W.findIn K (.ref ay) "boxes" = some none)
   (nR : PySem.W.findIn K (.ref ay) "names" = some none)
   (pZ : PySem.W.findIn K (.ref ay) "tree" = some none)
   (rE : PySem.W.findIn K (.ref ay) "ins" = some none)
   (qa : PySem.W.findIn K (.ref ay) "outs" = some none)
   (qb : PySem.W.findIn K (.ref ay) "ways" = some none)
   (Mr : PySem.W.nsIn K mainGlobals "Tree" = some (some (.ref aE))) (Gs : PySem.W.plainGet K aE Str.empty = true) (Gu : PySem.W.hasDictIn K aE = true) (Gv : PySem.W.plainOver K aE = true) (Gw : PySem.W.findIn K (.ref aE) "__setattr__" = some y0.aX) (zB : PySem.W.makesIn K aE = true) (zC : PySem.W.keepIn K (.ref aE) = true)
   (qc : PySem.W.findIn K (.ref aE) "kinds" = some none)
   (nS : PySem.W.findIn K (.ref aE) "elders" = some none)
   (nT : PySem.W.findIn K (.ref aE) "starts" = some none)
   (rG : PySem.W.nsIn K mainGlobals "MoodError" = some (some (.ref ak)))
   (xF : PySem.W.nsIn K mainGlobals "BadTree" = some (some (.ref ao)))
   (xG : PySem.W.nsIn K mainGlobals "BadName" = some (some (.ref aq)))
   (Bm : PySem.W.nsIn K mainGlobals "BadBox" = some (some (.ref az)))
   (xH : PySem.W.nsIn K mainGlobals "BadDeed" = some (some (.ref au)))
   (Bo : PySem.W.nsIn K mainGlobals "BadWay" = some (some (.ref aA)))
   (xJ : PySem.W.nsIn K mainGlobals "TooWide" = some (some (.ref ai)))
   {Ms Mt : Str} {xK : Addr} {Mu Bp Mv : List Value} {Mw Mx : Bool} {My : List Str} {JB : Option Bool} {Mz : Option Addr} {MA MB MC MD MF : Option Value} (uw : K.lookup ai = some (excClassObj Ms Mt ai xK Mu Bp Mw My Mv Mx JB Mz MA MB MC MD MF "ValueError.__new__")) (ux : PySem.W.nsOkIn K xK = true) (uy : PySem.W.nsIn K xK "__init__" = some none) (uz : PySem.W.tailIn K EV Bp = true)
   (Bq : PySem.W.nsIn K mainGlobals "NoStep" = some (some (.ref aB)))
   (Br : PySem.W.nsIn K mainGlobals "BadRow" = some (some (.ref aC)))
   (Bs : PySem.W.nsIn K mainGlobals "NoName" = some (some (.ref aD)))
   (ji : PySem.W.kitOne K (.ref ai) (.ref az) = some false)
   (iJ : PySem.W.kitOne K (.ref ai) (.ref au) = some false)
   (iK : PySem.W.kitOne K (.ref ai) (.ref aq) = some false)
   (jk : PySem.W.kitOne K (.ref ai) (.ref aC) = some false)
   (iL : PySem.W.kitOne K (.ref ai) (.ref ao) = some false)
   (jl : PySem.W.kitOne K (.ref ai) (.ref aA) = some false)
   (jm : PySem.W.kitOne K (.ref ai) (.ref aD) = some false)
   (jn : PySem.W.kitOne K (.ref ai) (.ref aB) = some false)
   (iM : PySem.W.kitOne K (.ref ai) (.ref ai) = some true)
   (gi : PySem.W.kitOne K (.ref ai) (.type "ValueError") = some true)
   (uA : PySem.W.findIn K (.ref ai) "__getattribute__" = some (some (.builtin "BaseException.__getattribute__"))) (uB : PySem.W.findIn K (.ref ai) "__getattr__" = some none) (uC : PySem.W.hasDictIn K ai = true) (uD : PySem.W.findIn K (.ref ai) "__class__" = some (some y0.ae)) (uE : PySem.W.mroIn K ai (.type "object") = some true) (uF : PySem.W.mroIn K ai (.type "BaseException") = some true)
   (MG : PySem.W.specialIn K y0.ae "__get__" = some (some y0.aY)) (MH : PySem.W.takesIn K y0.ae = some true)
   (gJ : PySem.W.exmOne K (.ref ai) (.ref ak) = some true)
   (MJ : PySem.W.nsIn K mainGlobals "_law_cell" = some (some (.ref Mf))) (MK : kY K "_law_cell" "_law_cell" Fe Mf adt)
   (Bt : PySem.W.nsIn K mainGlobals "_law_elders" = some (some (.ref Bd))) (Bu : kY K "_law_elders" "_law_elders" vm Bd Vs)
   (Gy : PySem.W.nsIn K mainGlobals "_law_kinds" = some (some (.ref Gg))) (Gz : kY K "_law_kinds" "_law_kinds" zk Gg Za)
   (uG : PySem.W.nsIn K mainGlobals "_law_inner" = some (some (.ref uv))) (uH : kY K "_law_inner" "_law_inner" pM uv Mq)
   (Bv : PySem.W.nsIn K mainGlobals "_law_chosen" = some (some (.ref Be))) (Bw : kY K "_law_chosen" "_law_chosen" vo Be Vt)
   (ML : PySem.W.nsIn K mainGlobals "_law_name" = some (some (.ref Mg))) (MN : kY K "_law_name" "_law_name" Fp Mg adu)
   (By : PySem.W.nsIn K mainGlobals "_law_number" = some (some (.ref Bf))) (BD : kY K "_law_number" "_law_number" vq Bf Vu)
   (MP : PySem.W.nsIn K mainGlobals "_law_term" = some (some (.ref Mh))) (MQ : kY K "_law_term" "_law_term" Fq Mh adv)
   (MR : PySem.W.nsIn K mainGlobals "_law_asks" = some (some (.ref Mi))) (MS : kY K "_law_asks" "_law_asks" Fv Mi adw)
   (GA : PySem.W.nsIn K mainGlobals "_law_deeds" = some (some (.ref Gh))) (GB : kY K "_law_deeds" "_law_deeds" zl Gh Zb)
   (MT : PySem.W.nsIn K mainGlobals "_law_ways" = some (some (.ref Mj))) (MV : kY K "_law_ways" "_law_ways" Fx Mj adx)
   (GC : PySem.W.nsIn K mainGlobals "_law_parts" = some (some (.ref Gi))) (GD : kY K "_law_parts" "_law_parts" zo Gi Zc)
   (mZ : PySem.W.findIn K (.ref aE) "__init__" = some (some (.ref mY))) (m5 : PySem.W.isFn K (.ref mY) = true) (yz : kY K "__init__" "Tree.__init__" mD mY Jy)
   (kQ : PySem.W.findIn K (.ref ay) "__init__" = some (some (.ref kP))) (kR : PySem.W.isFn K (.ref kP) = true) (wg : kY K "__init__" "Chart.__init__" kO kP Gq)
   (GF : PySem.W.nsIn K mainGlobals "_law_chart" = some (some (.ref Gj))) (GH : kY K "_law_chart" "_law_chart" zq Gj Zd)
   (nU : PySem.W.nsIn K mainGlobals "open_leaves" = some (some (.ref nL))) (nV : kY K "open_leaves" "open_leaves" jI nL jS)
   (lS : PySem.W.nsIn K mainGlobals "at_next_leaf" = some (some (.ref lR))) (lT : kY K "at_next_leaf" "at_next_leaf" ja lR fH)
   (nW : PySem.W.nsIn K mainGlobals "number_asks" = some (some (.ref nM))) (nX : kY K "number_asks" "number_asks" jJ nM nJ)
   (rH : PySem.W.nsIn K mainGlobals "with_pick" = some (some (.ref rB))) (rJ : kY K "with_pick" "with_pick" mF rB j8)
   (nY : PySem.W.nsIn K mainGlobals "at_next_way" = some (some (.ref nO))) (n5 : kY K "at_next_way" "at_next_way" jN nO jQ)
   (rK : PySem.W.nsIn K mainGlobals "with_held" = some (some (.ref rC))) (rL : kY K "with_held" "with_held" mG rC mK)
   (xM : PySem.W.nsIn K mainGlobals "further" = some (some (.ref xB))) (xN : kY K "further" "further" sj xB su)
   (GJ : PySem.W.nsIn K mainGlobals "above" = some (some (.ref Gk))) (GK : kY K "above" "above" zu Gk FU)
   (MX : PySem.W.nsIn K mainGlobals "fits" = some (some (.ref Ml))) (MY : kY K "fits" "fits" FQ Ml LY)
   (BE : PySem.W.nsIn K mainGlobals "goable" = some (some (.ref Bg))) (BF : kY K "goable" "goable" vO Bg Jz)
   {lO : Addr} {Q8 : Option Addr} {Ef : Array Value} {Q9 : Array (Option Value)} (xO : Jz.code = .ref lO) (Eg : K.lookup lO = some ⟨.type "code", Q8, .fields Ef, Q9⟩) (Eh : Ef[11]? = some (.ref aL)) (sR : PySem.W.codeHdIn K lO aL = true) (xP : aL ≠ 0) (xQ : K.lookup aL = none) (xR : aL ∈ T0)
   (uI : PySem.W.nsIn K mainGlobals "branches" = some (some (.ref pY))) (jC : kY K "branches" "branches" lN pY lP)
   (xS : PySem.W.nsIn K mainGlobals "_law_refused" = some (some (.ref xC))) (xT : kY K "_law_refused" "_law_refused" sy xC Q5)
   (MZ : PySem.W.nsIn K mainGlobals "_law_wide" = some (some (.ref Mm))) (M0 : kY K "_law_wide" "_law_wide" F2 Mm ady)
   (GL : PySem.W.nsIn K mainGlobals "_law_turns" = some (some (.ref Gm))) (GN : kY K "_law_turns" "_law_turns" zx Gm Ze)
   (GO : PySem.W.nsIn K mainGlobals "_law_opens" = some (some (.ref Gn))) (GP : kY K "_law_opens" "_law_opens" zy Gn Zf)
   (xU : PySem.W.nsIn K mainGlobals "_law_numbers" = some (some (.ref xD))) (xV : kY K "_law_numbers" "_law_numbers" sJ xD Q6)
   (n6 : PySem.W.nsIn K mainGlobals "_law_branches" = some (some (.ref nP))) (jW : kY K "_law_branches" "_law_branches" jT nP tM)
   (xW : PySem.W.nsIn K mainGlobals "_law_fits" = some (some (.ref xE))) (xX : kY K "_law_fits" "_law_fits" sL xE Q7)
   (rM : PySem.W.nsIn K mainGlobals "_law_goable" = some (some (.ref rD))) (rN : kY K "_law_goable" "_law_goable" mW rD JA)
   (GQ : PySem.W.nsIn K mainGlobals "_law_lists" = some (some (.ref Gp))) (GR : kY K "_law_lists" "_law_lists" zA Gp Zg)
   (M3 : PySem.W.nsIn K mainGlobals "_law_same" = some (some (.ref Mp))) (GU : kY K "_law_same" "_law_same" s_same Mp g_same)
   (OV : PySem.W.nsIn K mainGlobals "law" = some (some (.ref aaM))) (Vv : kY K "law" "law" OU aaM aaN)
   (Vw : PySem.W.nsIn K mainGlobals "len" = some none)
   (GV : PySem.W.nsIn K mainGlobals "range" = some none)
   (Vx : PySem.W.nsIn K mainGlobals "int" = some none)
   (Vy : PySem.W.nsIn K mainGlobals "str" = some none)
   (GX : PySem.W.nsIn K mainGlobals "tuple" = some none)
   (BG : PySem.W.nsIn K mainGlobals "sorted" = some none)
   (Vz : PySem.W.nsIn K mainGlobals "max" = some none)
   (M4 : PySem.W.nsIn K mainGlobals "list" = some none)
   {Zh : Tok} (M5 : PySem.W.nsIn K mainGlobals "LEAF" = some (some (.int 0 Zh)))
   {VA : Tok} (GY : PySem.W.nsIn K mainGlobals "ASKED" = some (some (.int 2 VA)))
   {Ra : Tok} (BH : PySem.W.nsIn K mainGlobals "PICKED" = some (some (.int 3 Ra)))
   {Zi : Tok} (M6 : PySem.W.nsIn K mainGlobals "HELD" = some (some (.int 4 Zi)))
   {Zj : Tok} (M7 : PySem.W.nsIn K mainGlobals "ASKS" = some (some (.int 2 Zj)))
   {adz : Tok} (VB : PySem.W.nsIn K mainGlobals "WAY" = some (some (.int 1 adz)))
   (M8 : PySem.W.nsIn K mainGlobals "dict" = some none)
   (rO : PySem.W.nsIn K mainGlobals "enumerate" = some none)
   {Zk : Tok} (M9 : PySem.W.nsIn K mainGlobals "SIGN" = some (some (.int 1 Zk)))
   {Rb : Tok} (BI : PySem.W.nsIn K mainGlobals "SOURCE" = some (some (.int 0 Rb)))
   (qd : PySem.W.nsIn K mainGlobals "isinstance" = some none)
   (qe : PySem.W.nsIn K mainGlobals "ValueError" = some none)
   (VC : PySem.W.nsIn K mainGlobals "min" = some none)
   (y_bool : PySem.W.nsIn K mainGlobals "bool" = some none)
   : ∃ (fd : FuncData) (ts : List (Addr × Str)), (∀ p ∈ ts, p.1 ∈ T0 /\ ts.lookup p.1 = some p.2 /\ K.lookup p.1 = none /\ ∃ c, PySem.W.CodeHd h c p.1) /\ (∀ (s : Shared) (v : Value), BindsTo s fd ⟨[v], []⟩ [("script", v)]) /\ ∀ base : Heap, K.In base -> base.Ns mainGlobals mg -> z6 mg base -> cV l.prog w K mg base iT 103 fa fd ["script"] (spT K ts 1 sO sP sQ) := by
 have e := hfa.symm.trans (amu XX G OV)
 cases e
 have adA := amu XX G MJ
 have adB := MK.binds (ps := ["script", "k"]) fun _ _ _ _ _ _ => by refine cE ?_; exact fun _ _ => rfl
 have VD := amu XX G Bt
 have VF := Bu.binds (ps := ["script", "many"]) fun _ _ _ _ _ _ => by refine cE ?_; exact fun _ _ => rfl
 have Zm := amu XX G Gy
 have Zn := Gz.binds (ps := ["script", "elders"]) fun _ _ _ _ _ _ => by refine cE ?_; exact fun _ _ => rfl
 have Nb := amu XX G uG
 have Nf := uH.binds (ps := ["elders", "mood"]) fun _ _ _ _ _ _ => by refine cE ?_; exact fun _ _ => rfl
 have VG := amu XX G Bv
 have VH := Bw.binds (ps := ["script", "elders", "kinds", "base"]) fun _ _ _ _ _ _ => by refine cE ?_; exact fun _ _ _ _ => rfl
 have adC := amu XX G ML
 have adD := MN.binds (ps := ["script", "k"]) fun _ _ _ _ _ _ => by refine cE ?_; exact fun _ _ => rfl
 have VJ := amu XX G By
 have VL := BD.binds (ps := ["cell"]) fun _ _ _ _ _ _ => by refine cE ?_; exact fun _ => rfl
 have adE := amu XX G MP
 have adF := MQ.binds (ps := ["cell", "boxes"]) fun _ _ _ _ _ _ => by refine cE ?_; exact fun _ _ => rfl
 have adG := amu XX G MR
 have adH := MS.binds (ps := ["script", "at", "many", "boxes"]) fun _ _ _ _ _ _ => by refine cE ?_; exact fun _ _ _ _ => rfl
 have Zo := amu XX G GA
 have Zq := GB.binds (ps := ["script", "at", "boxes"]) fun _ _ _ _ _ _ => by refine cE ?_; exact fun _ _ _ => rfl
 have adI := amu XX G MT
 have adJ := MV.binds (ps := ["script", "elders", "boxes"]) fun _ _ _ _ _ _ => by refine cE ?_; exact fun _ _ _ => rfl
 have Zr := amu XX G GC
 have Zt := GD.binds (ps := ["script", "most"]) fun _ _ _ _ _ _ => by refine cE ?_; exact fun _ _ => rfl
 have yC := yz.binds (ps := ["self", "kinds", "elders", "starts"]) fun _ _ _ _ _ _ => by refine cE ?_; exact fun _ _ _ _ => rfl
 have wj := wg.binds (ps := ["self", "boxes", "names", "tree", "ins", "outs", "ways"]) fun _ _ _ _ _ _ => by refine cE ?_; exact fun _ _ _ _ _ _ _ => rfl
 have Zu := amu XX G GF
 have Zv := GH.binds (ps := ["parts"]) fun _ _ _ _ _ _ => by refine cE ?_; exact fun _ => rfl
 have CK := amu XX G nU
 have CM := nV.binds (ps := ["chart", "opens"]) fun _ _ _ _ _ _ => by refine cE ?_; exact fun _ _ => rfl
 have BJ := amu XX G lS
 have BK := lT.binds (ps := ["branch"]) fun _ _ _ _ _ _ => by refine cE ?_; exact fun _ => rfl
 have CN := amu XX G nW
 have CP := nX.binds (ps := ["chart", "way"]) fun _ _ _ _ _ _ => by refine cE ?_; exact fun _ _ => rfl
 have JC := amu XX G rH
 have JD := rJ.binds (ps := ["branch", "way"]) fun _ _ _ _ _ _ => by refine cE ?_; exact fun _ _ => rfl
 have CQ := amu XX G nY
 have CT := n5.binds (ps := ["branch"]) fun _ _ _ _ _ _ => by refine cE ?_; exact fun _ => rfl
 have JF := amu XX G rK
 have JG := rL.binds (ps := ["held", "way", "holds"]) fun _ _ _ _ _ _ => by refine cE ?_; exact fun _ _ _ => rfl
 have Rc := amu XX G xM
 have Rf := xN.binds (ps := ["chart", "rows", "branch"]) fun _ _ _ _ _ _ => by refine cE ?_; exact fun _ _ _ => rfl
 have Zw := amu XX G GJ
 have Zx := GK.binds (ps := ["tree", "mood"]) fun _ _ _ _ _ _ => by refine cE ?_; exact fun _ _ => rfl
 have adK := amu XX G MX
 have adL := MY.binds (ps := ["asks", "opens"]) fun _ _ _ _ _ _ => by refine cE ?_; exact fun _ _ => rfl
 have VM := amu XX G BE
 have VN := BF.binds (ps := ["chart", "opens", "leaf", "sign"]) fun _ _ _ _ _ _ => by refine cE ?_; exact fun _ _ _ _ => rfl
 have uJ := amu XX G uI
 have uK := jC.binds (ps := ["chart", "opens", "sign", "most"]) fun _ _ _ _ _ _ => by refine cE ?_; exact fun _ _ _ _ => rfl
 have Rg := amu XX G xS
 have Rh := xT.binds (ps := ["chart", "opens", "sign", "most"]) fun _ _ _ _ _ _ => by refine cE ?_; exact fun _ _ _ _ => rfl
 have adM := amu XX G MZ
 have adN := M0.binds (ps := ["many"]) fun _ _ _ _ _ _ => by refine cE ?_; exact fun _ => rfl
 have Zy := amu XX G GL
 have Zz := GN.binds (ps := ["script"]) fun _ _ _ _ _ _ => by refine cE ?_; exact fun _ => rfl
 have ZC := amu XX G GO
 have ZD := GP.binds (ps := ["elders", "kinds", "chosen"]) fun _ _ _ _ _ _ => by refine cE ?_; exact fun _ _ _ => rfl
 have Ri := amu XX G xU
 have Rj := xV.binds (ps := ["parts", "number"]) fun _ _ _ _ _ _ => by refine cE ?_; exact fun _ _ => rfl
 have tN := amu XX G n6
 have tO := jW.binds (ps := ["parts", "lists", "leaf", "at", "branch", "past"]) fun _ _ _ _ _ _ => by refine cE ?_; exact fun _ _ _ _ _ _ => rfl
 have Rk := amu XX G xW
 have Rl := xX.binds (ps := ["asks", "opens"]) fun _ _ _ _ _ _ => by refine cE ?_; exact fun _ _ => rfl
 have JH := amu XX G rM
 have JK := rN.binds (ps := ["parts", "opens", "leaf", "sign"]) fun _ _ _ _ _ _ => by refine cE ?_; exact fun _ _ _ _ => rfl
 have ZE := amu XX G GQ
 have ZF := GR.binds (ps := ["parts", "opens", "sign"]) fun _ _ _ _ _ _ => by refine cE ?_; exact fun _ _ _ => rfl
 have VP := amu XX G M3
 have VQ := GU.binds (ps := ["found", "due"]) fun _ _ _ _ _ _ => by refine cE ?_; exact fun _ _ => rfl
 have ajX := amu XX G OV
 have ajY := Vv.binds (ps := ["script"]) fun _ _ _ _ _ _ => by refine cE ?_; exact fun _ => rfl
 have OW := amu XX G Gr
 have fz : Dn K ay := ⟨Bh, Bj, Bk, Bl⟩
 have zE : Dn K ((cl ay aE ak ao aq az au aA ai aB aC aD aL) "Chart") := by rw [gI]; exact fz
 have CV : cS K ((cl ay aE ak ao aq az au aA ai aB aC aD aL) "Chart") "boxes" := by rw [gI]; exact nQ
 have CW : cS K ((cl ay aE ak ao aq az au aA ai aB aC aD aL) "Chart") "names" := by rw [gI]; exact nR
 have qf : cS K ((cl ay aE ak ao aq az au aA ai aB aC aD aL) "Chart") "tree" := by rw [gI]; exact pZ
 have JL : cS K ((cl ay aE ak ao aq az au aA ai aB aC aD aL) "Chart") "ins" := by rw [gI]; exact rE
 have GZ : cS K ((cl ay aE ak ao aq az au aA ai aB aC aD aL) "Chart") "outs" := by rw [gI]; exact qa
 have qg : cS K ((cl ay aE ak ao aq az au aA ai aB aC aD aL) "Chart") "ways" := by rw [gI]; exact qb
 have VR := amu XX G Mr
 have nA : Dn K aE := ⟨Gs, Gu, Gv, Gw⟩
 have Ng : Dn K ((cl ay aE ak ao aq az au aA ai aB aC aD aL) "Tree") := by rw [mX]; exact nA
 have wk : cS K ((cl ay aE ak ao aq az au aA ai aB aC aD aL) "Tree") "kinds" := by rw [mX]; exact qc
 have tP : cS K ((cl ay aE ak ao aq az au aA ai aB aC aD aL) "Tree") "elders" := by rw [mX]; exact nS
 have CY : cS K ((cl ay aE ak ao aq az au aA ai aB aC aD aL) "Tree") "starts" := by rw [mX]; exact nT
 have JM := amu XX G rG
 have Rm := amu XX G xF
 have Rn := amu XX G xG
 have VW := amu XX G Bm
 have Ro := amu XX G xH
 have VX := amu XX G Bo
 have xY := amu XX G xJ
 have Nh : qF K ai := ⟨uA, uB, uC, uD, MG, MH, uE, uF⟩
 have uL : z8 K ai := ⟨⟨_, _, _, _, _, _, _, _, _, _, _, _, _, _, _, _, uw, ux, uy, uz⟩⟩
 have VY := amu XX G Bq
 have VZ := amu XX G Br
 have V0 := amu XX G Bs
 have kI := ana XX G Vw
 have fO := ana XX G GV
 have aaO := ana XX G Vx
 have JN := ana XX G Vy
 have wm := ana XX G GX
 have JQ := ana XX G BG
 have ago := ana XX G Vz
 have BL := ana XX G M4
 have xZ : ∃ u, mg "LEAF" = some (.int 0 u) := ⟨_, amu XX G M5⟩
 have sS : ∃ u, mg "ASKED" = some (.int 2 u) := ⟨_, amu XX G GY⟩
 have oV : ∃ u, mg "PICKED" = some (.int 3 u) := ⟨_, amu XX G BH⟩
 have G0 : ∃ u, mg "HELD" = some (.int 4 u) := ⟨_, amu XX G M6⟩
 have V1 : ∃ u, mg "ASKS" = some (.int 2 u) := ⟨_, amu XX G M7⟩
 have V2 : ∃ u, mg "WAY" = some (.int 1 u) := ⟨_, amu XX G VB⟩
 have adO := ana XX G M8
 have JR := ana XX G rO
 have adP : ∃ u, mg "SIGN" = some (.int 1 u) := ⟨_, amu XX G M9⟩
 have V3 : ∃ u, mg "SOURCE" = some (.int 0 u) := ⟨_, amu XX G BI⟩
 have wo := ana XX G qd
 have G3 := ana XX G qe
 have agp := ana XX G VC
 have adQ := ana XX G y_bool
 refine ⟨aaN, [(aL, "goable.<locals>.<lambda>")], ?tabs, ?bind, fun base kb _ bl => ?_⟩
 case tabs =>
   intro p hp
   simp only [amt, amJ, aof] at hp
   rcases hp with rfl
   . exact ⟨xR, by simp only [am4, an9], xQ, lO, PySem.W.codeHd_of_K XX sR⟩
 case bind =>
   obtain ⟨oc, od, kV, doc, pm, an, eo, ct, Pr, rfl, lk, ko⟩ := Vv.ex
   exact fun s v => .of_eq rfl
 have adR : cV l.prog w K mg base iT 1 Mf _ ["script", "k"] (n8 K y0.c 2 fQ bG fE) := bU MK Oj fun eo Ar outer s H E b a hr hp => by
   obtain ⟨p0, p1⟩ := a; refine acL ?_ p0 p1 hp
   exact ⟨⟨⟨Oj.nd, rfl, .never⟩, hr.units⟩, bK zj 0, bK zj 1, bK zj 2, cG zj 3, kI⟩
 have qh := dS adR adA MK.kp adB
 have V4 : cV l.prog w K mg base iT 2 Bd _ ["script", "many"] (n8 K y0.c 2 pJ ly pK) := bU Bu DS fun eo Ar outer s H E b a hr hp => by
   obtain ⟨p0, p1⟩ := a; refine UJ ?_ p0 p1 hp
   exact ⟨⟨⟨DS.nd, rfl, .never⟩, hr.units⟩, bK fY 0, bK fY 1, bK fY 2, bK fY 3, bK fY 4, bK fY 5, bK fY 6, bK fY 7, cG fY 8, cG fY 9, dP qh hr, fO⟩
 have V5 := dS V4 VD Bu.kp VF
 have ZG : cV l.prog w K mg base iT 2 Gg _ ["script", "elders"] (n8 K y0.c 2 rY oE rZ) := bU Gz II fun eo Ar outer s H E b a hr hp => by
   obtain ⟨p0, p1⟩ := a; refine Yp ?_ p0 p1 hp
   exact ⟨⟨⟨II.nd, rfl, .never⟩, hr.units⟩, bK gY 0, bK gY 1, bK gY 2, bK gY 3, bK gY 4, bK gY 5, cG gY 6, cG gY 7, cG gY 8, cG gY 9, dP qh hr, fO, kI, aaO⟩
 have ZH := dS ZG Zm Gz.kp Zn
 have Ni : cV l.prog w K mg base iT 1 uv _ ["elders", "mood"] (n8 K y0.c 2 iZ fM gM) := bU uH yq fun eo Ar outer s H E b a hr hp => by
   obtain ⟨p0, p1⟩ := a; refine Ls ?_ p0 p1 hp
   exact ⟨⟨⟨yq.nd, rfl, .never⟩, hr.units⟩, La iP 0, eu iP 0 rfl, La iP 1, eu iP 1 rfl, cG iP 2, cG iP 3, fO, kI⟩
 have BO := dS Ni Nb uH.kp Nf
 have V6 : cV l.prog w K mg base iT 2 Be _ ["script", "elders", "kinds", "base"] (n8 K y0.c 4 lz iG lA) := bU Bw DV fun eo Ar outer s H E b a hr hp => by
   obtain ⟨p0, p1, p2, p3⟩ := a; refine UL ?_ p0 p1 p2 p3 hp
   exact ⟨⟨⟨DV.nd, rfl, .never⟩, hr.units⟩, bK fF 0, bK fF 1, bK fF 2, bK fF 3, bK fF 4, bK fF 5, bK fF 6, cG fF 7, cG fF 8, cG fF 9, cG fF 10, fO, kI, dP BO hr, dP qh hr⟩
 have JS := dS V6 VG Bw.kp VH
 have adS : cV l.prog w K mg base iT 2 Mg _ ["script", "k"] (n8 K y0.c 2 oF i6 oG) := bU MN Ou fun eo Ar outer s H E b a hr hp => by
   obtain ⟨p0, p1⟩ := a; refine acT ?_ p0 p1 hp
   exact ⟨⟨⟨Ou.nd, rfl, .never⟩, hr.units⟩, bK mw 0, bK mw 1, bK mw 2, bK mw 3, bK mw 4, bK mw 5, cG mw 6, cG mw 7, dP qh hr, JN⟩
 have Nj := dS adS adC MN.kp adD
 have V7 : cV l.prog w K mg base iT 1 Bf _ ["cell"] (n8 K y0.c 1 lC lD lE) := bU BD DW fun eo Ar outer s H E b a hr hp => by
   refine UQ ?_ a hp
   exact ⟨⟨⟨DW.nd, rfl, .never⟩, hr.units⟩, bK Qx 0⟩
 have JT := dS V7 VJ BD.kp VL
 have adT : cV l.prog w K mg base iT 2 Mh _ ["cell", "boxes"] (n8 K y0.c 2 qI qJ qK) := bU MQ Ov fun eo Ar outer s H E b a hr hp => by
   obtain ⟨p0, p1⟩ := a; refine acV ?_ p0 p1 hp
   exact ⟨⟨⟨Ov.nd, rfl, .never⟩, hr.units⟩, bK Ft 0, bK Ft 1, cG Ft 2, dP JT hr⟩
 have V8 := dS adT adE MQ.kp adF
 have adU : cV l.prog w K mg base iT 3 Mi _ ["script", "at", "many", "boxes"] (n8 K y0.c 4 vt qM vv) := bU MS Ow fun eo Ar outer s H E b a hr hp => by
   obtain ⟨p0, p1, p2, p3⟩ := a; refine acX ?_ p0 p1 p2 p3 hp
   exact ⟨⟨⟨Ow.nd, rfl, .never⟩, hr.units⟩, bK g9 0, bK g9 1, bK g9 2, bK g9 3, bK g9 4, bK g9 5, bK g9 6, bK g9 7, cG g9 8, cG g9 9, cG g9 10, cG g9 11, fO, dP qh hr, dP V8 hr, wm⟩
 have adV := dS adU adG MS.kp adH
 have ZI : cV l.prog w K mg base iT 3 Gh _ ["script", "at", "boxes"] (n8 K y0.c 3 oH iQ oJ) := bU GB IQ fun eo Ar outer s H E b a hr hp => by
   obtain ⟨p0, p1, p2⟩ := a; refine Yt ?_ p0 p1 p2 hp
   exact ⟨⟨⟨IQ.nd, rfl, .never⟩, hr.units⟩, bK fS 0, bK fS 1, bK fS 2, bK fS 3, bK fS 4, bK fS 5, bK fS 6, cG fS 7, cG fS 8, cG fS 9, cG fS 10, cG fS 11, fO, dP qh hr, dP Nj hr, dP V8 hr, wm⟩
 have OX := dS ZI Zo GB.kp Zq
 have adW : cV l.prog w K mg base iT 4 Mj _ ["script", "elders", "boxes"] (n8 K y0.c 3 vz qO vA) := bU MV Ox fun eo Ar outer s H E b a hr hp => by
   obtain ⟨p0, p1, p2⟩ := a; refine ac1 ?_ p0 p1 p2 hp
   exact ⟨⟨⟨Ox.nd, rfl, .never⟩, hr.units⟩, La cU 0, eu cU 0 rfl, bK cU 1, bK cU 2, La cU 3, eu cU 3 rfl, bK cU 4, bK cU 5, bK cU 6, bK cU 7, bK cU 8, bK cU 9, bK cU 10, bK cU 11, bK cU 12, bK cU 13, bK cU 14, bK cU 15, cG cU 16, cG cU 17, cG cU 18, cG cU 19, cG cU 20, cG cU 21, cG cU 22, cG cU 23, kI, dP qh hr, JQ, fO, dP Nj hr, dP adV hr, dP OX hr, dP BO hr⟩
 have adX := dS adW adI MV.kp adJ
 have ZJ : cV l.prog w K mg base iT 5 Gi _ ["script", "most"] (n8 K y0.c 2 r6 r9 sd) := bU GD IX fun eo Ar outer s H E b a hr hp => by
   obtain ⟨p0, p1⟩ := a; refine Yx ?_ p0 p1 hp
   exact ⟨⟨⟨IX.nd, rfl, .never⟩, hr.units⟩, La dB 0, eu dB 0 rfl, bK dB 1, bK dB 2, bK dB 3, bK dB 4, bK dB 5, La dB 6, eu dB 6 rfl, bK dB 7, bK dB 8, bK dB 9, cG dB 10, cG dB 11, cG dB 12, cG dB 13, cG dB 14, cG dB 15, cG dB 16, dP qh hr, ago, dP V5 hr, dP ZH hr, dP JS hr, fO, dP adX hr, JN, dP JT hr, dP OX hr⟩
 have ZK := dS ZJ Zr GD.kp Zt
 have yE : cV l.prog w K mg base iT 1 mY _ ["self", "kinds", "elders", "starts"] (spI K y0.c "Tree" 4 nj nq nu) := N5 yz vE fun eo Ar outer s H E b a y hr hp => by
   obtain ⟨p0, p1, p2⟩ := a; refine IZ ?_ p0 p1 p2 y hp
   exact ⟨⟨⟨vE.nd, rfl, .never⟩, hr.units⟩, bK i7 0, bK i7 1, bK i7 2, bK i7 3, cG i7 4, BL, Ng, wk, tP, CY⟩
 have wu : cV l.prog w K mg base iT 1 kP _ ["self", "boxes", "names", "tree", "ins", "outs", "ways"] (spI K y0.c "Chart" 7 lG lH lI) := N5 wg tH fun eo Ar outer s H E b a y hr hp => by
   obtain ⟨p0, p1, p2, p3, p4, p5⟩ := a; refine FI ?_ p0 p1 p2 p3 p4 p5 y hp
   exact ⟨⟨⟨tH.nd, rfl, .never⟩, hr.units⟩, bK ef 0, bK ef 1, bK ef 2, bK ef 3, bK ef 4, bK ef 5, bK ef 6, cG ef 7, BL, zE, CV, CW, qf, JL, GZ, qg⟩
 have ZL : cV l.prog w K mg base iT 3 Gj _ ["parts"] (n8 K y0.c 1 se oK sf) := bU GH Ja fun eo Ar outer s H E b a hr hp => by
   obtain ⟨p0, p1, p2, p3, p4, p5, p6⟩ := a; refine Yz ?_ p0 p1 p2 p3 p4 p5 p6 hp
   exact ⟨⟨⟨Ja.nd, rfl, .never⟩, hr.units⟩, bK j7 0, bK j7 1, bK j7 2, cG j7 3, cG j7 4, cG j7 5, cG j7 6, cG j7 7, fO, kI, ⟨⟨_, _, _, by rw [mX]; exact ⟨zB, mZ, m5, zC⟩, yE, by rw [mX]; exact VR, yC⟩, hr.mono y0.g⟩, BL, ⟨⟨_, _, _, by rw [gI]; exact ⟨v9, kQ, kR, wc⟩, wu, by rw [gI]; exact OW, wj⟩, hr.mono y0.g⟩, JN⟩
 have ZM := dS ZL Zu GH.kp Zv
 have CZ : cV l.prog w K mg base iT 1 nL _ ["chart", "opens"] (n8 K y0.c 2 ia eU ic) := bU nV qR fun eo Ar outer s H E b a hr hp => by
   obtain ⟨p0, p1, p2, p3, p4, p5, p6, p7, p8⟩ := a; refine Ct ?_ p0 p1 p2 p3 p4 p5 p6 p7 p8 hp
   exact ⟨⟨⟨qR.nd, rfl, .never⟩, hr.units⟩, La lJ 0, eu lJ 0 rfl, bK lJ 1, zE, Ng, wk, qf⟩
 have tQ := dS CZ CK nV.kp CM
 have BP : cV l.prog w K mg base iT 1 lR _ ["branch"] (n8 K y0.c 1 gP gQ gR) := bU lT qj fun eo Ar outer s H E b a hr hp => by
   refine AK ?_ a hp
   exact ⟨⟨⟨qj.nd, rfl, .never⟩, hr.units⟩, bK fU 0, cG fU 1, cG fU 2, cG fU 3, cG fU 4, xZ, sS, oV, G0⟩
 have BQ := dS BP BJ lT.kp BK
 have C1 : cV l.prog w K mg base iT 1 nM _ ["chart", "way"] (n8 K y0.c 2 ig fV iu) := bU nX qS fun eo Ar outer s H E b a hr hp => by
   obtain ⟨p0, p1, p2, p3, p4, p5, p6, p7⟩ := a; refine Cv ?_ p0 p1 p2 p3 p4 p5 p6 p7 hp
   exact ⟨⟨⟨qS.nd, rfl, .never⟩, hr.units⟩, bK jd 0, bK jd 1, cG jd 2, cG jd 3, wm, V1, zE, qg⟩
 have C2 := dS C1 CN nX.kp CP
 have JV : cV l.prog w K mg base iT 1 rB _ ["branch", "way"] (n8 K y0.c 2 jK jL jM) := bU rJ vG fun eo Ar outer s H E b a hr hp => by
   obtain ⟨p0, p1⟩ := a; refine Jc ?_ p0 p1 hp
   exact ⟨⟨⟨vG.nd, rfl, .never⟩, hr.units⟩, bK fh 0, bK fh 1, bK fh 2, cG fh 3, cG fh 4, cG fh 5, cG fh 6, cG fh 7, oV, xZ, V2, sS, G0⟩
 have JW := dS JV JC rJ.kp JD
 have C3 : cV l.prog w K mg base iT 1 nO _ ["branch"] (n8 K y0.c 1 iy iz iA) := bU n5 qV fun eo Ar outer s H E b a hr hp => by
   refine Cy ?_ a hp
   exact ⟨⟨⟨qV.nd, rfl, .never⟩, hr.units⟩, bK fG 0, cG fG 1, cG fG 2, cG fG 3, cG fG 4, cG fG 5, xZ, V2, sS, oV, G0⟩
 have C4 := dS C3 CQ n5.kp CT
 have JX : cV l.prog w K mg base iT 1 rC _ ["held", "way", "holds"] (n8 K y0.c 3 jO fZ jP) := bU rL vH fun eo Ar outer s H E b a hr hp => by
   obtain ⟨p0, p1, p2⟩ := a; refine Je ?_ p0 p1 p2 hp
   exact ⟨⟨⟨vH.nd, rfl, .never⟩, hr.units⟩, bK je 0, bK je 1, bK je 2, bK je 3, cG je 4, adO⟩
 have JY := dS JX JF rL.kp JG
 have Rp : cV l.prog w K mg base iT 2 xB _ ["chart", "rows", "branch"] (n8 K y0.c 3 mH iR mJ) := bU xN AQ fun eo Ar outer s H E b a hr hp => by
   obtain ⟨p0, p1, p2, p3, p4, p5, p6, p7⟩ := a; refine QF ?_ p0 p1 p2 p3 p4 p5 p6 p7 hp
   exact ⟨⟨⟨AQ.nd, rfl, .never⟩, hr.units⟩, bK ck 0, bK ck 1, bK ck 2, bK ck 3, bK ck 4, bK ck 5, bK ck 6, bK ck 7, cG ck 8, cG ck 9, cG ck 10, cG ck 11, cG ck 12, cG ck 13, cG ck 14, cG ck 15, cG ck 16, cG ck 17, cG ck 18, V2, kI, xZ, dP BQ hr, dP C2 hr, G0, dP JW hr, dP C4 hr, sS, oV, dP JY hr⟩
 have Ei := dS Rp Rc xN.kp Rf
 have ZN : cV l.prog w K mg base iT 1 Gk _ ["tree", "mood"] (n8 K y0.c 2 sq oM sr) := bU GK Jg fun eo Ar outer s H E b a hr hp => by
   obtain ⟨p0, p1, p2, p3⟩ := a; refine YF ?_ p0 p1 p2 p3 hp
   exact ⟨⟨⟨Jg.nd, rfl, .never⟩, hr.units⟩, bK vJ 0, bK vJ 1, bK vJ 2, bK vJ 3, Ng, tP⟩
 have ZO := dS ZN Zw GK.kp Zx
 have adY : cV l.prog w K mg base iT 1 Ml _ ["asks", "opens"] (n8 K y0.c 2 vK qY vN) := bU MY OI fun eo Ar outer s H E b a hr hp => by
   obtain ⟨p0, p1⟩ := a; refine ac9 ?_ p0 p1 hp
   exact ⟨⟨⟨OI.nd, rfl, .never⟩, hr.units⟩, bK FT 0, bK FT 1, bK FT 2⟩
 have adZ := dS adY adK MY.kp adL
 have V9 : cV l.prog w K mg base iT 2 Bg _ ["chart", "opens", "leaf", "sign"] (n8 K y0.c 4 pT jA pU) := Ua BF D5 fun eo Ar outer s H E b a ko hr hp => by
   obtain ⟨p0, p1, p2, p3, p4, p5, p6, p7, p8, p9, Wa⟩ := a; refine U4 ?_ p0 p1 p2 p3 p4 p5 p6 p7 p8 p9 Wa hp
   exact ⟨⟨⟨D5.nd, rfl, .never⟩, hr.units⟩, La c9 0, eu c9 0 rfl, bK c9 1, bK c9 2, bK c9 3, bK c9 4, bK c9 5, bK c9 6, La c9 7, eu c9 7 rfl, cG c9 8, cG c9 9, cG c9 10, cG c9 11, cG c9 12, cG c9 13, cG c9 14, dP ZO hr, JR, adP, V3, dP adZ hr, V1, JQ, zE, qg, qf, ait bl kb ko xO (by rw [yy]; exact sR) (by rw [yy]; exact xP), XT hr, hr⟩
 have JZ := dS V9 VM BF.kp VN
 have Nk : cV l.prog w K mg base iT 3 pY _ ["chart", "opens", "sign", "most"] (n8 K y0.c 4 jg fN jh) := bU jC mL fun eo Ar outer s H E b a hr hp => by
   obtain ⟨p0, p1, p2, p3, p4, p5, p6, p7, p8, p9, Wa⟩ := a; refine L0 ?_ p0 p1 p2 p3 p4 p5 p6 p7 p8 p9 Wa hp
   exact ⟨⟨⟨mL.nd, rfl, .never⟩, hr.units⟩, La aS 0, eu aS 0 rfl, La aS 1, eu aS 1 rfl, La aS 2, eu aS 2 rfl, bK aS 3, bK aS 4, bK aS 5, bK aS 6, bK aS 7, cG aS 8, cG aS 9, cG aS 10, cG aS 11, cG aS 12, cG aS 13, cG aS 14, dP tQ hr, xZ, kI, dP Ei hr, sS, oV, by rw [cD]; exact xY, by rw [cD]; exact uL, dP JZ hr⟩
 have BR := dS Nk uJ jC.kp uK
 have yF : cV l.prog w K mg base (CX8 l.prog w) 3 pY _ ["chart", "opens", "sign", "most"] (spR K y0.c 4 gG dD gH) := acy jC mL fun eo Ar outer s H E b a hr hp hE => by
   obtain ⟨p0, p1, p2, p3, p4, p5, p6, p7, p8, p9, Wa⟩ := a; refine Jl ?_ p0 p1 p2 p3 p4 p5 p6 p7 p8 p9 Wa hp hE
   exact ⟨⟨⟨mL.nd, rfl, XZ rfl rfl⟩, hr.units⟩, La aS 0, eu aS 0 rfl, La aS 1, eu aS 1 rfl, La aS 2, eu aS 2 rfl, bK aS 3, bK aS 4, bK aS 5, bK aS 6, bK aS 7, cG aS 8, cG aS 9, cG aS 10, cG aS 11, cG aS 12, cG aS 13, cG aS 14, dP tQ hr, xZ, kI, dP Ei hr, sS, oV, by rw [cD]; exact xY, by rw [cD]; exact uL, dP JZ hr⟩
 have Rq : cV l.prog w K mg base iT 4 xC _ ["chart", "opens", "sign", "most"] (n8 K y0.c 4 mO j9 mP) := bU xT A0 fun eo Ar outer s H E b a hr hp => by
   obtain ⟨p0, p1, p2, p3, p4, p5, p6, p7, p8, p9, Wa⟩ := a; refine QS ?_ p0 p1 p2 p3 p4 p5 p6 p7 p8 p9 Wa hp
   exact ⟨⟨⟨A0.nd, rfl, .never⟩, hr.units⟩, bK cu 0, bK cu 1, bK cu 2, bK cu 3, bK cu 4, bK cu 5, cG cu 6, cG cu 7, cG cu 8, cG cu 9, cG cu 10, cG cu 11, cG cu 12, cG cu 13, cG cu 14, cG cu 15, cG cu 16, cG cu 17, cG cu 18, dP BR hr, by rw [v8]; exact JM, wo, by rw [cD]; exact xY, by rw [cD]; exact uL, G3, by rw [A9]; exact Rm, by rw [Ea]; exact VX, by rw [Eb]; exact VY, by rw [Ba]; exact Rn, by rw [D9]; exact VW, by rw [Bb]; exact Ro, by rw [Ec]; exact VZ, by rw [Ed]; exact V0, ⟨⟨_, _, _, yF, uJ, jC.kp, uK⟩, hr.mono y0.g⟩, rfl, rfl, rfl, by rw [cD, v8]; exact gJ, rfl, rfl, by rw [cD, D9]; exact ji, by rw [cD, Bb]; exact iJ, by rw [cD, Ba]; exact iK, by rw [cD, Ec]; exact jk, by rw [cD, A9]; exact iL, by rw [cD, Ea]; exact jl, by rw [cD, Ed]; exact jm, by rw [cD, Eb]; exact jn, by rw [cD]; exact iM, by rw [cD]; exact gi, by rw [cD]; exact Nh⟩
 have Rr := dS Rq Rg xT.kp Rh
 have ad0 : cV l.prog w K mg base iT 3 Mm _ ["many"] (n8 K y0.c 1 vV vW vX) := bU M0 OO fun eo Ar outer s H E b a hr hp => by
   refine adj ?_ a hp
   exact ⟨⟨⟨OO.nd, rfl, .never⟩, hr.units⟩, bK pX 0, bK pX 1, bK pX 2, bK pX 3, cG pX 4, cG pX 5, cG pX 6, ⟨⟨_, _, _, by rw [mX]; exact ⟨zB, mZ, m5, zC⟩, yE, by rw [mX]; exact VR, yC⟩, hr.mono y0.g⟩, fO, ⟨⟨_, _, _, by rw [gI]; exact ⟨v9, kQ, kR, wc⟩, wu, by rw [gI]; exact OW, wj⟩, hr.mono y0.g⟩, JN⟩
 have ad1 := dS ad0 adM M0.kp adN
 have ZP : cV l.prog w K mg base iT 1 Gm _ ["script"] (n8 K y0.c 1 sA sC sE) := bU GN Jo fun eo Ar outer s H E b a hr hp => by
   refine YM ?_ a hp
   exact ⟨⟨⟨Jo.nd, rfl, .never⟩, hr.units⟩, bK oQ 0, bK oQ 1, bK oQ 2, cG oQ 3, cG oQ 4, cG oQ 5, fO, agp, kI⟩
 have ZQ := dS ZP Zy GN.kp Zz
 have ZR : cV l.prog w K mg base iT 1 Gn _ ["elders", "kinds", "chosen"] (n8 K y0.c 3 sG oR sH) := bU GP Jp fun eo Ar outer s H E b a hr hp => by
   obtain ⟨p0, p1, p2⟩ := a; refine YQ ?_ p0 p1 p2 hp
   exact ⟨⟨⟨Jp.nd, rfl, .never⟩, hr.units⟩, bK kg 0, bK kg 1, bK kg 2, bK kg 3, bK kg 4, bK kg 5, cG kg 6, cG kg 7, fO, kI⟩
 have ZS := dS ZR ZC GP.kp ZD
 have Rt : cV l.prog w K mg base iT 1 xD _ ["parts", "number"] (n8 K y0.c 2 mQ kh mR) := bU xV A1 fun eo Ar outer s H E b a hr hp => by
   obtain ⟨p0, p1, p2, p3, p4, p5, p6, p7, p8, p9, Wa, p11⟩ := a; refine QW ?_ p0 p1 p2 p3 p4 p5 p6 p7 p8 p9 Wa p11 hp
   exact ⟨⟨⟨A1.nd, rfl, .never⟩, hr.units⟩, bK uq 0, bK uq 1, cG uq 2, wm, kI⟩
 have Ru := dS Rt Ri xV.kp Rj
 have BU : ∀ dd, cV l.prog w K mg base iT (2 + dd) nP tM ["parts", "lists", "leaf", "at", "branch", "past"] (n8 K y0.c 6 fW (cN dd) fX) := by
   intro dd
   induction dd using Nat.strongRecOn with
   | ind dd ih =>
     rw [show 2 + dd = (1 + dd) + 1 by omega]
     exact bU jW q8 fun eo Ar outer s H E b a hr hp => by
       obtain ⟨p0, p1, p2, p3, p4, p5, p6, p7, p8, p9, Wa⟩ := a; refine CH (dd := dd) ?_ p0 p1 p2 p3 p4 p5 p6 p7 p8 p9 Wa hp
       exact ⟨⟨⟨q8.nd, rfl, .never⟩, hr.units⟩, bK bZ 0, bK bZ 1, bK bZ 2, bK bZ 3, bK bZ 4, bK bZ 5, bK bZ 6, bK bZ 7, bK bZ 8, bK bZ 9, cG bZ 10, cG bZ 11, cG bZ 12, kI, fun d' hd => ⟨⟨_, _, _, ih d' hd, tN, jW.kp, tO⟩, hr.mono y0.b⟩, dP Ru hr y0.b⟩
 have C5 := BU 100
 have C6 := dS C5 tN jW.kp tO
 have Rw : cV l.prog w K mg base iT 1 xE _ ["asks", "opens"] (n8 K y0.c 2 mS mU mV) := bU xX A6 fun eo Ar outer s H E b a hr hp => by
   obtain ⟨p0, p1⟩ := a; refine QZ ?_ p0 p1 hp
   exact ⟨⟨⟨A6.nd, rfl, .never⟩, hr.units⟩, bK ur 0, bK ur 1, bK ur 2⟩
 have Rx := dS Rw Rk xX.kp Rl
 have J1 : cV l.prog w K mg base iT 2 rD _ ["parts", "opens", "leaf", "sign"] (n8 K y0.c 4 jU gZ jV) := bU rN vY fun eo Ar outer s H E b a hr hp => by
   obtain ⟨p0, p1, p2, p3, p4, p5, p6, p7, p8, p9⟩ := a; refine Jt ?_ p0 p1 p2 p3 p4 p5 p6 p7 p8 p9 hp
   exact ⟨⟨⟨vY.nd, rfl, .never⟩, hr.units⟩, bK dF 0, bK dF 1, bK dF 2, bK dF 3, bK dF 4, bK dF 5, bK dF 6, bK dF 7, cG dF 8, cG dF 9, cG dF 10, fO, kI, dP Rx hr⟩
 have J2 := dS J1 JH rN.kp JK
 have ZT : cV l.prog w K mg base iT 3 Gp _ ["parts", "opens", "sign"] (n8 K y0.c 3 sM oS sN) := bU GR Jv fun eo Ar outer s H E b a hr hp => by
   obtain ⟨p0, p1, p2, p3, p4, p5, p6, p7, p8⟩ := a; refine YX ?_ p0 p1 p2 p3 p4 p5 p6 p7 p8 hp
   exact ⟨⟨⟨Jv.nd, rfl, .never⟩, hr.units⟩, bK oU 0, bK oU 1, bK oU 2, bK oU 3, bK oU 4, cG oU 5, dP J2 hr⟩
 have ZU := dS ZT ZE GR.kp ZF
 have ZV : ∀ dd, cV l.prog w K mg base iT (1 + dd) Mp g_same ["found", "due"] (n8 K y0.c 2 rj (lQ dd) rq) := by
   intro dd
   induction dd using Nat.strongRecOn with
   | ind dd ih =>
     rw [show 1 + dd = (0 + dd) + 1 by omega]
     exact bU GU OQ fun eo Ar outer s H E b a hr hp => by
       refine ado (dd := dd) ?_ a hp
       exact ⟨⟨⟨OQ.nd, rfl, .never⟩, hr.units⟩, bK iB 0, bK iB 1, bK iB 2, cG iB 3, cG iB 4, cG iB 5, cG iB 6, cG iB 7, cG iB 8, cG iB 9, cG iB 10, cG iB 11, wo, JN, aaO, adQ, BL, wm, kI, fO, fun d' hd => ⟨⟨_, _, _, ih d' hd, VP, GU.kp, VQ⟩, hr.mono y0.b⟩⟩
 have ad2 := ZV 8
 have ad3 := dS ad2 VP GU.kp VQ
 have agq : cV l.prog w K mg base iT 103 _ _ ["script"] (n8 K y0.c 1 sO sP sQ) := bU Vv Vr fun eo Ar outer s H E b a hr hp => by
   refine agl ?_ a hp
   exact ⟨⟨⟨Vr.nd, rfl, .never⟩, hr.units⟩, bK dH 0, bK dH 1, bK dH 2, bK dH 3, bK dH 4, bK dH 5, bK dH 6, bK dH 7, bK dH 8, bK dH 9, bK dH 10, bK dH 11, cG dH 12, cG dH 13, cG dH 14, cG dH 15, cG dH 16, cG dH 17, cG dH 18, cG dH 19, cG dH 20, cG dH 21, cG dH 22, cG dH 23, cG dH 24, cG dH 25, cG dH 26, cG dH 27, dP ZK hr, dP ZM hr, dP qh hr, dP Rr hr, dP ad1 hr, BL, fO, dP ZQ hr, dP JS hr, dP ZS hr, dP Nj hr, dP C6 hr, dP ZU hr, kI, dP ad3 hr, dP BR hr, ⟨⟨_, _, _, yF, uJ, jC.kp, uK⟩, hr.mono y0.g⟩⟩
 exact agq.imp (XR y0.bC y0.bC fun x hx h0 => Y9 hx h0)
theorem walk {l : PySem.W.OpenLaw} {q : Program} {loose : List Str} {XP : (Str -> Option Value) -> Heap -> Prop} {YP : World -> Heap -> Prop} {d : DefRec} {K : Params -> PySem.W.Frag} {T0 : List Addr} (hn : l.most = some 63) (hdf : d.params.defaults = [])
   (hY : ∀ (w : World) (h : Heap), YP w h -> (K w.params).In h) (hT : ∀ (w : World) (h : Heap), YP w h -> ∀ P ∈ T0, h.get? P = some (PySem.W.tabObj #[]))
   (F : ∀ (w : World) (mg : Str -> Option Value) (fa : Addr) (h : Heap), (K w.params).In h -> h.Ns mainGlobals mg -> mg d.name = some (.ref fa) →
     ∃ (fd : FuncData) (ts : List (Addr × Str)), (∀ p ∈ ts, p.1 ∈ T0 /\ ts.lookup p.1 = some p.2 /\ (K w.params).lookup p.1 = none /\ ∃ c, PySem.W.CodeHd h c p.1) /\ (∀ (s : Shared) (u : Value), BindsTo s fd ⟨[u], []⟩ [("script", u)]) /\ ∀ base : Heap, (K w.params).In base -> base.Ns mainGlobals mg -> z6 mg base -> cV l.prog w (K w.params) mg base iT 103 fa fd ["script"] (spT (K w.params) ts 1 sO sP sQ)) :
   PySem.W.WalkO q loose XP YP l.row.toRowW d [] (fun f vs => PySem.call f vs) :=
 Ub (n := 63) (k := 103) (x := "script") (sp := fun w ts => spT (K w.params) ts 1 sO sP sQ) hn y0.g hdf ⟨rfl, by decide, by decide⟩ hY hT F (fun _ _ _ a ns hl hS ht => XS rfl hl rfl hS ht)
end Law
end
namespace PySem.W.Fast
 def tw3843496084898343643 := 0
 def tw11456214986512871673 := 0
 def tw6774182869274711641 := 0
 def tw9957269166385866987 := 0
 def tw1074765202786656183 := 0
 def tw10506135627977511860 := 0
 def tw10884954943932490383 := 0
 def tw14213897815341796957 := 0
 def tw4162695461423925746 := 0
 def tw6653518574344707193 := 0
 def tw9287588345764684705 := 0
 def tw4661319362233819939 := 0
 def tw3314600160583389999 := 0
 def tw8456353016299485221 := 0
 def tw12868813576062382436 := 0
 def tw10609838926968398578 := 0
 def tw16459744465183554155 := 0
 def tw7474156808934818860 := 0
 def tw9224767870320622798 := 0
 def tw12066594066523660074 := 0
 def tw1514198703741868801 := 0
 def tw9052120843566694108 := 0
 def tw14343758757263301703 := 0
 def tw4884655632339855825 := 0
 def tw10193379041104500163 := 0
 def tw7407325244039296828 := 0
 def tw8165744235399084786 := 0
 def tw10080604653188641218 := 0
 def tw2815040825003441971 := 0
 def tw399957379177088178 := 0
 def tw17432494359211255012 := 0
 def tw16720072074638924988 := 0
 def tw1753288815244384225 := 0
 def tw843495584817445252 := 0
 def tw3550411284490382164 := 0
 def tw8056345827245704670 := 0
 def tw16744667892146291939 := 0
 def tw14213062883061344424 := 0
 def tw11769579908584968153 := 0
 def tw312616397342871988 := 0
 def tw11307576484958015926 := 0
 def tw3550059086104925737 := 0
 def tw11374509557587069698 := 0
 def tw14182549034855719334 := 0
 def tw848521386721718611 := 0
 def tw4888898336981180186 := 0
 def tw18406677165178521048 := 0
 def tw8375672110621766870 := 0
 def tw15692312638382153722 := 0
 def tw17280522119569630098 := 0
 def tw16211992284000894086 := 0
 def tw6930550522972746630 := 0
 def tw1574137771713572960 := 0
 def tw11189571150527484008 := 0
 def tw6891777450770654623 := 0
 def tw10176615289955152868 := 0
 def tw1954914613825257292 := 0
 def tw11632508296091138502 := 0
 def tw13151896955418095892 := 0
 def tw2357270881906856362 := 0
 def tw11288819348557285430 := 0
 def tw5738197219035426223 := 0
 def tw8396561655624213008 := 0
 def tw2232957311029704762 := 0
 def tw17949334416595233173 := 0
 def tw5188737588985362454 := 0
 def tw7939091638797116012 := 0
 def tw1562860909909845220 := 0
 def tw310131103385959588 := 0
 def tw6181452212595064912 := 0
 def tw14872652239641387163 := 0
 def tw17460448644104412595 := 0
 def tw18105447434548168403 := 0
end PySem.W.Fast
open PySem PySem.W PyProof.Rows
set_option maxRecDepth 100000 in
set_option maxHeartbeats 0 in
theorem PySem.Challenge.cw_moodtree_k50_branches_in_order_holds : PySem.Challenge.rw_moodtree_k50_branches_in_order.Holds := by
 w_on; o_law; k_head; (case hw => w_witness2)
 k_fill
 refine Law.walk (l := PySem.Challenge.rw_moodtree_k50_branches_in_order) rfl rfl (fun w h Y => PySem.W.km_in_of Y) (fun w h Y => PySem.W.km_tabs_of Y) ?F
 case F =>
   intro w mg fa h KX G hmg
   refine' Law.all_mk KX G hmg ?Gr ?Bh ?Bj ?Bk ?Bl ?v9 ?wc ?nQ ?nR ?pZ ?rE ?qa ?qb ?Mr ?Gs ?Gu ?Gv ?Gw ?zB ?zC ?qc ?nS ?nT ?rG ?xF ?xG ?Bm ?xH ?Bo ?xJ ?uw ?ux ?uy ?uz ?Bq ?Br ?Bs ?ji ?iJ ?iK ?jk ?iL ?jl ?jm ?jn ?iM ?gi ?uA ?uB ?uC ?uD ?uE ?uF ?MG ?MH ?gJ ?MJ (L2.cA ?bW ?ad4 ?ad5) ?Bt (L2.cA ?bN ?Wb ?Ao) ?Gy (L2.cA ?fL ?ZW ?ZX) ?uG (L2.cA ?Nm ?Nn ?Np) ?Bv (L2.cA ?gD ?Wc ?Wd) ?ML (L2.cA ?qN ?ad6 ?ad7) ?By (L2.cA ?d7 ?Wf ?Wg) ?MP (L2.cA ?ad8 ?ad9 ?aea) ?MR (L2.cA ?eO ?aeb ?aec) ?GA (L2.cA ?jF ?ZY ?ZZ) ?MT (L2.cA ?lF ?aed ?aee) ?GC (L2.cA ?bV ?Z0 ?Z6) ?mZ ?m5 (L2.cA ?J3 ?J4 ?J5) ?kQ ?kR (L2.cA ?G4 ?G5 ?G6) ?GF (L2.cA ?dh ?Z7 ?mE) ?nU (L2.cA ?C7 ?C8 ?C9) ?lS (L2.cA ?BV ?BW ?BX) ?nW (L2.cA ?Dc ?De ?Df) ?rH (L2.cA ?J6 ?J7 ?J8) ?nY (L2.cA ?Dg ?Dh ?Di) ?rK (L2.cA ?J9 ?Ka ?Kc) ?xM (L2.cA ?Ry ?Rz ?RA) ?GJ (L2.cA ?Z8 ?Z9 ?aac) ?MX (L2.cA ?aef ?aeg ?aeh) ?BE (L2.cA ?Wh ?Wi ?Wj) ?xO ?Eg ?Eh ?sR ?xP ?xQ ?xR ?uI (L2.cA ?Nq ?Nr ?Nt) ?xS (L2.cA ?RB ?RC ?RD) ?MZ (L2.cA ?A8 ?aei ?aej) ?GL (L2.cA ?sF ?aad ?aae) ?GO (L2.cA ?bX ?aaf ?zv) ?xU (L2.cA ?RG ?RH ?RJ) ?n6 (L2.cA ?Dj ?Dk ?Dl) ?xW (L2.cA ?RK ?RL ?RM) ?rM (L2.cA ?Kd ?Ke ?Kf) ?GQ (L2.cA ?gq ?aag ?aah) ?M3 (L2.cA ?aek ?ael ?k_same) ?OV (L2.cA ?agr ?ags ?agt) ?Vw ?GV ?Vx ?Vy ?GX ?BG ?Vz ?M4 ?M5 ?GY ?BH ?M6 ?M7 ?VB ?M8 ?rO ?M9 ?BI ?qd ?qe ?VC ?y_bool
   case Gr | Bh | Bj | Bk | Bl | v9 | wc | nQ | nR | pZ | rE | qa | qb | Mr | Gs | Gu | Gv | Gw | zB | zC | qc | nS | nT | rG | xF | xG | Bm | xH | Bo | xJ | uw => k_is
   case ux => kernel_rfl
   case uy => k_is
   case uz => kernel_rfl
   case Bq | Br | Bs => k_is
   case ji => kit_is
   case iJ => kit_is
   case iK => kit_is
   case jk => kit_is
   case iL => kit_is
   case jl => kit_is
   case jm => kit_is
   case jn => kit_is
   case iM => kit_is
   case gi => kit_is
   case uA | uB | uC | uD | uE | uF | MG | MH => k_is
   case gJ => kts_exm
   case MJ | bW | ad4 | ad5 | Bt | bN | Wb | Ao | Gy | fL | ZW | ZX | uG | Nm | Nn | Np | Bv | gD | Wc | Wd | ML | qN | ad6 | ad7 | By | d7 | Wf | Wg | MP | ad8 | ad9 | aea | MR | eO | aeb | aec | GA | jF | ZY | ZZ | MT | lF | aed | aee | GC | bV | Z0 | Z6 | mZ | m5 | J3 | J4 | J5 | kQ | kR | G4 | G5 | G6 | GF | dh | Z7 | mE | nU | C7 | C8 | C9 | lS | BV | BW | BX | nW | Dc | De | Df | rH | J6 | J7 | J8 | nY | Dg | Dh | Di | rK | J9 | Ka | Kc | xM | Ry | Rz | RA | GJ | Z8 | Z9 | aac | MX | aef | aeg | aeh | BE | Wh | Wi | Wj => k_is
   case xO => exact rfl
   case Eg => k_is
   case Eh => exact rfl
   case sR => kernel_rfl
   case xP => decide
   case xQ => kernel_rfl
   case xR => decide
   case uI | Nq | Nr | Nt | xS | RB | RC | RD | MZ | A8 | aei | aej | GL | sF | aad | aae | GO | bX | aaf | zv | xU | RG | RH | RJ | n6 | Dj | Dk | Dl | xW | RK | RL | RM | rM | Kd | Ke | Kf | GQ | gq | aag | aah | M3 | aek | ael | k_same | OV | agr | ags | agt | Vw | GV | Vx | Vy | GX | BG | Vz | M4 | M5 | GY | BH | M6 | M7 | VB | M8 | rO | M9 | BI | qd | qe | VC | y_bool => k_is
