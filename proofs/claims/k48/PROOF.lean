import PyProof.Rows.All
import Wide.All
import OpenK.AllK
import Wide.FinOn
import Lean
import PyProof.EqAt
import PyProof.EqKinds
import PyProof.TupleCall
import PySem.Challenge.RW_moodtree_k48_two_runs_apart
set_option Elab.async false
set_option linter.all false
set_option maxRecDepth 100000
set_option maxHeartbeats 4000000
open PySem.W (instObj Frag lookIn plainGet hasDictIn findIn handedIn plainGet_of isFn plainOver takerIn any_some makesIn emptyDict keepIn callWith_K0 cellsFrom_some fnOf codeIn kla_obj CodeHd envX kla_fn codeHdIn tabObj specialIn mroIn readsIn findCls nsIn)
theorem Wc{p:Prop}(h:p:=by lia):p:=h
def We{p:Prop}(h:p:=by decide +kernel):p:=h
def Wl{p:Prop}(h:p:=by decide):p:=h
def Wm{p:Prop}(h:p:=by simp):p:=h
theorem Wp{p:Prop}(h:p:=by simp_all):p:=h
theorem WA{p:Prop}(h:p:=by grind):p:=h
theorem WE{p:Prop}(h:p:=by simp;lia):p:=h
open Lean in
def qqM (k:Name) (x:List Syntax):Syntax:=.node .none k x.toArray
open Lean in
def qqL (x:String):Syntax:=.atom .none x
open Lean in
def qqN (x:String):Syntax:=mkIdent x.toName
open Lean in
def qqC (x:List Syntax):Syntax:=qqM nullKind (x.intersperse (qqL ","))
open Lean in
def qqS (q:List Syntax) (t:String):List Syntax:=
 let r:=(t.drop 1).toString;let n:=r.toNat?.getD 1;let s:=q.drop n;let a:=(q.take n).reverse;let y:=q.headD .missing;let o:=q.tail;let x:=o.headD .missing;let w:=o.tail;let p:=qqM ``Parser.Term.hygienicLParen [qqL "(",qqM hygieneInfoKind [mkIdent .anonymous]]
 match t.front with
 | '@'=>qqM ``Parser.Term.app [s.headD .missing,qqM nullKind a]::s.tail
 | '['=>qqM `«term[_]» [qqL "[",qqC a,qqL "]"]::s
 | '<'=>qqM ``Parser.Term.anonymousCtor [qqL "⟨",qqC a,qqL "⟩"]::s
 | ','=>qqM ``Parser.Term.tuple [p,qqM nullKind [a.headD .missing,qqL ",",qqC a.tail],qqL ")"]::s
 | '.'=>qqM ``Parser.Term.dotIdent [qqL ".",qqN r]::q
 | '!'=>qqM ``Parser.Term.explicit [qqL "@",qqN r]::q
 | '\''=>Syntax.mkStrLit r::q
 | '_'=>(if r.isEmpty then qqM ``Parser.Term.hole [qqL t] else qqN t)::q
 | '='=>qqM ``Parser.Term.namedArgument [qqL "(",qqN r,qqL ":=",y,qqL ")"]::o
 | '>'=>qqM ``Parser.Term.proj [y,qqL ".",if r.isNat then Syntax.mkLit fieldIdxKind r else qqN r]::o
 | '~'=>qqM (.mkSimple s!"term{r}_") [qqL r,y]::o
 | '^'=>qqM ``Parser.Term.arrow [x,qqL "→",y]::w
 | '`'=>qqM (.mkSimple s!"term_{r}_") [x,qqL r,y]::w
 | ':'=>qqM ``Parser.Term.typeAscription [p,x,qqL ":",qqM nullKind [y],qqL ")"]::w
 | '?'=>qqM `termIfThenElse [qqL "if",w.headD .missing,qqL "then",x,qqL "else",y]::w.tail
 | '\\'=>qqM ``Parser.Term.fun [qqL "fun",qqM ``Parser.Term.basicFun [qqM nullKind [if r=="_" then qqM ``Parser.Term.hole [qqL r] else qqN r],qqM nullKind [],qqL "=>",y]]::o
 | _=>(if t.isNat then Syntax.mkNumLit t else if t=="Prop" then qqM ``Parser.Term.prop [qqL t] else qqN t)::q
def qqT:Array String:=("
Shared









.refl _ @





model X.prog X.w @2








j 1 `+



CL 'Chart @










Inv X pins σ H s @5

.ref f @


List bT @






av ks @
CL 'NestRun @
List α @
A Prop ^





e es `::
QfL
es.length 1 `-
AC X e es @3
.inl rfl @
QfM
trivial \\_ \\_ \\_
AC X e [0 @3
CL 'Tree @
arrOf z @
model prog w @2
QfN
bB K CL b H Z δ σ ts vs @9
some t @
k1.trans k2 @
AL X pos es @3
.ref a @
trivial \\_ \\_ \\_ \\_
aY ks @
QfO
.Name x pos @2
some v @
.int i @
QfP
QfQ
dD I q Wm @3
q8 ws a @2
ai st @
FuncData
cA ks @
bZ dI d7 hs @3
.ins c fs @2
.inr rfl @
.Name x pp @2
dG aB isAll es ss mem @5
aH E.aK @
X.calm true `=
cO X CL b e δ t δ1 @7
.nil \\_
v vs `::
iU ks es w @3
ds.map T.sh @
ws.map iS @
arrOf st @
.lst xs @
some t0 @
.ref C @
jj rfl @
.cons h r @2 \\r \\h \\_ \\_
iH av ks @ es ch Qac @4
aH E.bN @
aH E.cD @
.str x @
trivial \\_
EP X pins σ Q @4
.sh .int st @ @
cj aQ kr _ @ @2
dY ks es ss @3
backToKw pos keywordEach [0 X.env @2 @2
dM X CL b e1 δ .int i @ δ1 @7
cR X scope Nc C s H fp @7
s.heap.objs.size 1 `+
L2.Inv X pins σ H s @5
aE gX aj @ @
t es.length `<
Gg es ws @2
.tup xs @
.Call .Name x pp @2 e es `:: [0 pos @4
dM X CL b e2 δ1 .int j @ δ2 @7
.lst Qbo @
.lst tl @
zJ P w H h @4
gS ws i @2
.cons h k a j1 _ b @2 @2 \\b \\a @ r k a js _ b @2 @2 \\b \\a @ @2 \\k \\r \\h \\_ \\_
i3.mp b @ >elim h a @ r a @ @2 \\b \\a \\r \\h \\_ \\_
eV X.env scope.names [0 @3
bs.map .int @
absurd b kf @2 \\b \\a
arg a @ >length n `=
.sh .int n @ @
List κ V `× @
l.map .int @
i δ1.length `<
.sh .any @
.ref it @
some v0 @
aH E.bR @
he pins s σ H _ I h @7
.Name x pos' @2
ds.length sizeLine `≤
False \\_ \\_
aH E.gI @
D.bP ds @ true `=
upd H a o @3
jb iM bE E.fN >1 rfl @2 rfl rfl aj rfl @5 rfl rfl @3
bC aH E.jE @ aj rfl @3
wZ X CL b e δ p δ1 @7
lI X CL b e δ t δ1 @7
rfl \\_ \\_
ns.map V.int @
some .sh d @ @
mem.map .int @
c6 N ps QaB @3
c.trans a @
jP aY ks @ av ks @ es ss mem false es.length false p @9 \\p
decide p cS es u tg @3 `∈ @ ~! \\p
bB K CL b H Z δ σ t ts `:: v vs `:: @9
dM X CL b e δ .lst ds @ δ1 @7
.sh .lst es.map .int @ @ @
es.map .int @
bC aH E.qP @ aj rfl @3
starEach Qaa X.env @2
getMethod I m pl @3
ah aH E.cB @ aJ @2
av ks s @2 \\s
us.reverse vs `++
.sh .int m @ @
k1.trans c @
fz X.prog X.w X.K X.mg X.base CX k f fd ps sp @11
envOfC qual ai st @ s.heap.objs.size f gE @5
Ez E.dS E.aR E.dg >1 rfl aZ oW Wl Wl @2 rfl @7
decide x u `≠ @ \\x
.sh .lst s.map .int @ @ @
.sh .lst c0.d c1.d [2 @ @
.Call QeH Qaa [0 pos @4
.Call QeH [0 [0 pos @4
cH E.aA E.bf QaJ fM @4
absurd q kf @2 \\q
.sh .int j @ @
.lst hs.map .str @ @
trivial \\_ \\_
Binds X.K fd ps ds @4
Binds X.K fd ps [0 @4
OV ks es ss mem @4
Loc X.env.scope x @2
X.mg 'range @ none `=
nv c p >1 bs sg @4
fs.lookup m @ none `=
a sysModules `==
.ins C dx fs @3
rfl \\_
q \\q \\_
Passes CX X E @3
bQ K CL Z d v @5
SBase a₀ st @2
.ListComp elt tg iter ifs 0 <4 [1 scope pos @4
.sh .lst .lst Dj c0 @ @ .lst Dj c1 @ @ [2 @ @
.sh .lst a.map .int @ @ @
e _ _ h @3
u 1 ~- `= u bL es t @2 `∈ `∨
ZZ K x qual st f fd @6
tT X scope xs Nc ix @5
List κ Value `× @
fC X scope y Nc ix @5
res a @ >clean true `=
.lst tl t [1 `++ @
ops.map .int @
.ListComp elt .Name x px @2 .Call .Name 'range pr @2 e [1 [0 pc @4 [0 0 <4 [1 scope pos @4
cR X scope Nc s3.heap.objs.size s3 upd H s.heap.objs.size .lst [0 @ @3 fp @7
r k a i8 _ b @2 @2 \\b \\a @
Ap es iU ks es a @3 iU ks es c @3 @3 \\c \\a
some .builtin 'object.__setattr__ @ @
j6 bE E.gD >1 rfl @2 rfl rfl aj rfl @5
List.replicate es.length 1 ~- @2
.Compare e1 .NotEq [1 e2 [1 pos @4
.Call .Attribute QaH m apos @3 Qaa [0 pos @4
fW E.aA E.bG v_ E.aK >1 @ gQ @4
jI cd pl pt bs et @5
.Compare e1 .Eq [1 e2 [1 pos @4
nS n.hi n.hv n.hd n.kH @4
.ref s.heap.objs.size @
.BinOp e1 .Add e2 pos @4
c a b i @3 \\i \\_ \\b \\a
keys.zip us.toArray @
i pins s σ H _ I h @7
0 i `≤ i ws.length `< `∧
mS ks es ss is os ws @6
starEach [0 X.env @2
.ins CL c @ dx gs @3
sO cd pl pa bs ex @5
fS s 13 k Int : `+ @2
fC X scope x Nc ix @5
RQ X CL b e δ i p @7
fnOf x qual oO st @ d9 st @ ai st @ .none kV doc pm an gE ct @12
swapsWith e some .Name x pos' @2 @ pos.line X.env @4 pure false @ `=
.Name 'range pr @2
aG aZ aG aZ aG aZ aG aZ fL @2 @2 @2 @2
kvs.any decide a >1 k `= @ \\a @
oe X.K CL n arg Pre res out @7
dM X CL b e2 δ1 .int k @ δ2 @7
seqObj 'list us.toArray 0 @3
C7 X A q scope Nc f c s H @9
tw X CL b tg iter δ ds δ1 @8
Fc X CL x k n arg Pre res @8
.sh .lst R.map p8 @ @ @
.Call Qc9 e [1 [0 pc @4
dM X CL b e2 δ1 d2 δ2 @7
h H Z σ ts vs _ S k @8
.Subscript e1 e2 pos @3
cH E.b8 E.bX QaY jn @4
dM X CL b e1 δ d1 δ1 @7
g pins s σ H _ I h @7
Dx Addr Value `× `×
.Attribute e f pos @3
keepIn X.K QR @2 true `=
fz X.prog X.w X.K X.mg X.base lO k f fd ps Px X.K CL n arg Pre res @6 @11
.CY k _ fX @2 >trans h @ az.mono e f @2 az.mono e g @2 @3 \\k \\g \\f \\h
By X CL scope Nc xs.length tg parts ifs elt δc ds p g @13
iU ks es gS ws k @2 @3 \\k
jP aY ks @ Q1 es ss mem eX mode @ es.length false @8
.rZ k _ fX @2 >trans h @ cN.mono e f @2 @2 \\k \\f \\h
.Call .Attribute QaH 'append pa @3 e [1 [0 pb @4
.builtin 'type.__call__ .ref C @ us `:: kw <2 @2
PySem.revObj l its.toArray.size Int : 1 `- @2
.lst k _ fX @2 >trans h @ QcJ @2 \\k \\r \\_ \\h
.ins k _ fX @2 >trans h @ QcJ @2 \\k \\r \\_ \\h
.dct k _ fX @2 >trans h @ QcJ @2 \\k \\r \\_ \\h
eX mode @ true `= 'far 'new ?
bC aH E.gI @ aE eG E.nG E.nF @2 @ dQ rfl @ @3
0 gS ws i @2 >src `≤ gS ws i @2 >src es.length `< `∧
gs.any IU es QaO x @3 \\w @ ~! \\x
iH av c.ks @ c.es ch c.es.length 1 `- @4
IB X CL b Qaa δ arg a @ >map T.sh @ δ1 @7
[0 ET : >isEmpty 0 1 ?
starEach e [1 X.env @2 false eval e X.env @2 ,2 [1 `=
bI .cons E.aK >1 .inl E.pA @ .nil @3 We @2
a f2 `∈ H a @ Z a @ ?
z8 E.dg >1 rfl qL v_ E.dH >1 @ tX @2 @3
.dct Rd.mono e h @2 r @2 \\r \\_ \\h
cO X CL b e δ .sh .lst ds @ @ δ1 @7
.Call .Name x p @2 Qaa [0 pos @4
.tup aD.o7 e h @2 r @2 \\r \\_ \\h
Px K CL ps.length arg Pre res @6
.Compare e1 .NotIn [1 e2 [1 pos @4
scope.names.lookup x @ some .local @ `=
.lst e.seq h @ r @2 \\r \\_ \\h
d pm.mem_iff.mp z @ @ \\z
X4 X CL b Qaa δ arg a @ δ1 @7
dM X CL b o δ .ins c fs @2 δ1 @7
vn b fx r fs w Wp @6 \\hw \\w
fW E.ao E.bJ v_ E.bA >1 @ sP @4
PassesOwn Qr X.A X.env X.xe @4
bubble arrOf y @ k k l `- @3
OS X CL x k n arg Pre res out @9
.tup Qcy r k @ @2 \\k \\r \\_ \\h
.pin y .ins 'NestRun QcR @2 @2
.CY Qcy r q @3 \\q \\r \\_ \\_ \\h
ah QaJ ah aH E.cy @ aJ @2 @2
.Compare e1 .In [1 e2 [1 pos @4
.ins Qcy r @2 \\r \\_ \\h
ah aE tR aj kP 0 @ @2 @ aJ @2
.Compare e1 op [1 e2 [1 pos @4
cR X scope Nc C s0 H0 f0 @7
Zb oU ws @ Qdw KJ es @ @3
.rZ Qcy r @2 \\r \\_ \\h
congrArg _ i @2 \\i \\_ \\_
ah QaY ah QaZ aJ @2 @2
cO X CL b e δ .sh d @ δ1 @7
trivial \\_ \\_ \\_ \\_ \\_
pa.endLine pb.line `== true `=
some T.kG p Qbi t0 @3 @
newFunctionEnv scope X.env.globals Qbn [0 X.env.qual none .none some X.env @ @8
starEach e1 e2 [2 X.env @2 false eval e1 X.env @2 ,2 starEach e2 [1 X.env @2 `:: `=
.ListComp elt .Name y px @2 iter ifs 0 <4 [1 scope pc @4
.ListComp elt tg iter ifs 0 <4 [1 scope pc @4
jb iM bE E.NX >1 rfl @2 rfl rfl aj rfl @5 rfl rfl @3
a f2 `∈ H a @ Z a @ ? \\a
s.heap.IsRevIter it l items.size Int : 1 `- @3
decide x oS ks es ops QaA @4 `∈ @ ~! \\x
envOfC qual scope s.heap.objs.size f cd @5
.ext z9 f q params body scope Qbn c @7 @
some Qce @ Ac δ1 ix i .pin y t QA @ @2 @4 `::
j6 bE E.x8 >1 rfl @2 rfl rfl aH E.B3 @ ar @5
bC QbD aE eG E.NS E.NR @2 @ dQ rfl @ @3
swapsWith e none pos.line X.env @4 pure false @ `=
scope.names.lookup x @ some .globalImplicit @ `=
some Qce @ Ac δ1 ix i .pin y t j @ @2 @4 `::
Value Addr Result Shared Prop ^ ^ ^ ^
.lst jo es j @2 >map .int @ >map T.sh @ @
b X.ex `∈ X.jx.heap.objs.size b `≤ `∨
i j rfl rfl q <5 \\q \\_ \\_
.Attribute o m apos @3
e Int : u `= jg es u t e @4 e Int : t `≠ `∧ `∨ st e @ Al es u e @3 kD ss mem D e @ e @4 ch.getD e 0 @2 ? ?
b NameKind.free `== env.scope.kind .function `== `&& env.kindOf n @ some _ @ `== `&& true `= n NameKind.cell ,2 n b ,2 ?
DK m @ true `= D.tup .str 'keep @ .int m @ .int mem.getD m.toNat 0 @2 @ .int bh.getD m.toNat 0 @2 @ [4 @ [1 [0 ?
bI .cons E.jc >1 .inl E.uq @ .cons E.dH >1 .inl E.vU @ .cons E.dg >1 .inl E.W4 @ .nil @3 @3 @3 We @2
bI .cons E.jc >1 .inl E.uq @ .cons E.dH >1 .inl E.vU @ .cons E.bR >1 .inl E.sS @ .nil @3 @3 @3 We @2
kla_obj '<lambda> q params body scope Qbn X.mg '__name__ @ >getD .none @ g j @9
r .ok .ret .bool true @ @ @ `= OldK f.heap s'.heap @2 s'.os f.os `= AllBare s'.gens @ `∧ `∧ `∧ \\s' \\r
h2 rfl H1 Z1 σ ts vs _ c k H2 Z2 a.trans d @ Qao f @5 \\f \\k2 \\d \\Z2 \\H2 @9
A B1 ^
Program
Gl X x @2
QeQ
QeS
Around
QeR
A BA ^
A T ^
QeY
QeT
QeU
QeV
QeW
QeX
QeZ
Qe0
Qe1
Qe2
Qe3
Qe4
Qe5
Qe6
Qe7
Qe8
Qe9
Qfa
Qfb
Qfc
Qfd
Qfe
Qff
Qfg
Qfh
Qfi
Qfj
Qfk
Qfl
Qfm
Qfn
Qfo
Qfp
Qfq
Qfr
Qfs
Qft
Qfu
Qfv
Qfw
Qfx
Qfy
Qfz
QfA
QfB
QfC
QfD
QfE
QfF
QfG
QfH
QfI
QfJ
QfK".splitOn "\n").toArray
def qqI (c:Char):Nat:=if 'a'<=c then c.toNat-97 else if 'A'<=c then c.toNat-39 else c.toNat+4
local macro_rules | `($x:ident)=>let u:=Lean.Macro.throwUnsupported;match x.getId with
 | .str .anonymous s=>let f:=fun n=>match qqT[n]? with
   | some t=>if t.isEmpty then u else pure ((t.splitOn " ").foldl qqS []).head!
   | _=>u
  match s.toList with
  | ['Q',a]=>f (qqI a)
  | ['Q',a,c]=>f (62+62*qqI a+qqI c)
  | _=>u
 | _=>u
noncomputable section
namespace L2
open PySem PySem.Spec PyProof.Rows
abbrev e7:=@List.length_map
abbrev fX:=@List.mem_cons_self
abbrev fO:=@List.mem_cons
abbrev i8:=@List.mem_cons_of_mem
abbrev js:=@List.mem_append_right
abbrev jj:=@Nat.le_of_ble_eq_true
abbrev i3:=@List.mem_append
abbrev dP:=@if_neg
abbrev dX:=@if_pos
abbrev jw:=@List.append_assoc
abbrev j1:=@List.mem_append_left
abbrev j2:=@List.mem_singleton
abbrev i5:=@Nat.le_refl
abbrev kv:=@Heap.get?_push_of_some
abbrev kn:=@List.length_append
abbrev kf:=@List.not_mem_nil
abbrev lj:=@List.getD_eq_getElem?_getD
abbrev kc:=@List.map_append
abbrev ko:=@of_decide_eq_true
abbrev i9:=@wpAny_bind
abbrev lL:=@List.getElem?_eq_some_iff
abbrev km:=@List.append_nil
abbrev ky:=@Int.toNat_natCast
abbrev j0:=@List.mem_map
abbrev ke:=@Heap.lt_size
abbrev l9:=@List.getElem?_eq_getElem
abbrev la:=@List.nodup_append
abbrev kq:=@List.map_map
abbrev kx:=@List.map_cons
abbrev ll:=@List.getElem?_map
abbrev l3:=@List.mem_of_getElem?
abbrev k3:=@List.mem_filter
abbrev kr:=@Nat.zero_le
abbrev lx:=@Bool.and_eq_true
abbrev lr:=@List.length_cons
abbrev l2:=@Int.emod_lt_of_pos
abbrev mi:=@Heap.get?_push_size
abbrev l7:=@List.pairwise_cons
abbrev l6:=@of_decide_eq_false
abbrev mu:=@Nat.lt_of_lt_of_le
abbrev kM:=@Nat.le_trans
abbrev l5:=@List.lookup_cons
abbrev l4:=@List.mem_flatMap
abbrev l1:=@Option.some.inj
abbrev mx:=@Bool.false_ne_true
abbrev k4:=@Nat.ne_of_lt
abbrev mf:=@List.take_length
abbrev mN:=@List.perm_append_comm
abbrev me:=@Int.emod_nonneg
abbrev mn:=@decide_eq_false
abbrev kA:=@wpAny_pure
abbrev ml:=@decide_eq_true
abbrev l0:=@Nat.le_of_lt
abbrev ma:=@PySem.W.mg_of
abbrev mM:=@List.reverse_cons
abbrev nc:=@List.filterMap_cons
abbrev mD:=@List.mem_range
abbrev m4:=@PySem.W.mg_none_of
abbrev mT:=@List.length_take
abbrev pE:=@List.getElem?_set_self
abbrev mv:=@sizeLine_eq
abbrev oa:=@Bool.false_eq_true
abbrev n8:=@List.filter_append
abbrev lh:=@wpS_bind
abbrev pz:=@List.length_filter_le
abbrev oD:=@List.getElem?_range
abbrev oC:=@List.map_congr_left
abbrev rh:=@List.pairwise_singleton
abbrev n7:=@List.Sublist.refl
abbrev n6:=@List.length_range
abbrev nk:=@List.nodup_cons
abbrev n4:=@List.cons_append
abbrev pw:=@List.Sublist.append
abbrev vT:=@PyProof.Rows.callWith_type1
abbrev oy:=@List.size_toArray
abbrev rf:=@List.mem_of_mem_take
abbrev n3:=@List.length_set
abbrev vy:=@List.sublist_append_right
abbrev rb:=@PySem.mem_of_lookup
abbrev q9:=@List.perm_iff_count
abbrev tc:=@List.Perm.append_left
abbrev sT:=@List.length_replicate
abbrev sE:=@List.length_singleton
abbrev q7:=@Nat.lt_of_le_of_lt
abbrev wd:=@List.filter_cons_of_pos
abbrev wb:=@Option.map_eq_some_iff
abbrev ri:=@List.take_add_one
abbrev ti:=@List.length_reverse
abbrev my:=@wpS_pure
abbrev pX:=@List.nil_append
abbrev v3:=@List.getElem?_eq_none
abbrev tf:=@wpAny_Call_Name_kw
abbrev yl:=@List.length_filterMap_le
abbrev m3:=@wpAny_mono
abbrev sv:=@List.flatMap_cons
abbrev nZ:=@Nat.le_succ
abbrev pv:=@List.any_cons
abbrev FF:=@List.getElem?_append_right
abbrev sr:=@List.find?_cons
abbrev FC:=@wpAny_comprehension_free
abbrev xy:=@List.pairwise_append
abbrev so:=@List.filter_map
abbrev mI:=@or_false
abbrev mB:=@Ne.symm
abbrev vv:=@List.ext_getElem?
abbrev vu:=@decide_eq_true_eq
abbrev FA:=@PySem.F.plainAttrs_list
abbrev Fu:=@List.filter_cons_of_neg
abbrev sm:=@List.nodup_nil
abbrev vr:=@List.all_eq_true
abbrev Fs:=@Heap.get?_update_other
abbrev qY:=@List.map_set
abbrev vl:=@wpAny_passesOwn
abbrev vk:=@List.foldl_cons
abbrev vi:=@List.filter_nil
abbrev Fn:=@List.take_append_drop
abbrev xw:=@List.count_append
abbrev Fh:=@List.getElem?_set_ne
abbrev E5:=@lookup_relabel_local
abbrev JP:=@List.drop_eq_getElem_cons
abbrev x3:=@Nat.lt_succ_self
abbrev n2:=@if_false
abbrev JO:=@List.Pairwise.imp_of_mem
abbrev x2:=@List.mem_reverse
abbrev FX:=@beq_eq_false_iff_ne
abbrev FV:=@List.flatMap_append
abbrev vx:=@Nat.lt_irrefl
abbrev JJ:=@List.pairwise_lt_range
abbrev JI:=@List.takeWhile_sublist
abbrev FR:=@wpAny_truthy_bool
abbrev JE:=@PySem.W.methodCall_KW
abbrev Jn:=@Heap.get?_update_self
abbrev IT:=@Array.getElem?_toList
abbrev vw:=@Int.zero_add
abbrev NA:=@List.takeWhile_append_of_pos
abbrev sy:=@beq_iff_eq
abbrev sx:=@call_meets
abbrev FO:=@beq_self_eq_true
abbrev IS:=@List.Pairwise.filter
abbrev x1:=@wpAny_holding
abbrev xI:=@Bool.and_true
abbrev ox:=@if_true
abbrev IP:=@PySem.W.codeHd_of_K
abbrev FK:=@Bool.eq_iff_iff
abbrev Nw:=@List.getElem?_append_left
abbrev JU:=@PySem.W.callWith_K
abbrev x7:=@wpS_forRange
abbrev x5:=@Nat.zero_add
abbrev NH:=@List.sublist_append_left
abbrev x4:=@List.set_set
abbrev NG:=@List.getElem?_replicate
abbrev ND:=@List.length_eq_zero_iff
abbrev GG:=@wpAny_standAt
abbrev F1:=@List.all_cons
abbrev Key:=Sum Int Str
noncomputable def JY:Key->Value->Bool
 | .inl k,v=>Value.isInt k v
 | .inr x,v=>Value.isStrOf x v
noncomputable def asP(w:World):Key->Int
 | .inl k=>hashInt k
 | .inr x=>hashStr w x
theorem fY:∀{k:Key} {v:Value},JY k v=true->(∃i t,k=Sum.inl i/\v=Value.int i t)\/(∃x t,k=Sum.inr x/\v=Value.str x t)
 | .inl i,v,h=>by
  obtain⟨t,e⟩:=Value.isInt_shape h;exact .inl ⟨i,t,rfl,e⟩
 | .inr x,v,h=>by
  obtain⟨t,e⟩:=Value.isStrOf_shape h;exact .inr ⟨x,t,rfl,e⟩
def Xy(i:Int)(t:Tok):JY (.inl i) (.int i t)=true:=by simp[JY,Value.isInt]
def Xz(x:Str)(t:Tok):JY (.inr x) (.str x t)=true:=by simp[JY,Value.isStrOf]
theorem ajW(a b:Int):decide ((Sum.inl a:Key)=Sum.inl b)=(a==b):=by
 by_cases e:a=b
 .subst e;simp
 simp_all
def ajX(a b:Str):decide ((Sum.inr a:Key)=Sum.inr b)=decide (a=b):=by simp
def ajY(a:Int)(b:Str):decide ((Sum.inl a:Key)=Sum.inr b)=false:=mn (λq=>nomatch q)
def ajZ(a:Str)(b:Int):decide ((Sum.inr a:Key)=Sum.inl b)=false:=mn (λq=>nomatch q)
def gT(prog:Qax)(w:World):PySem.KeyKind prog w Key where
 is:=JY
 hash:=asP w
 inj:=λv a b f c=>by
  obtain⟨i,t,rfl,rfl⟩|⟨x,t,rfl,rfl⟩:=fY f
  .obtain⟨j,u,rfl,e⟩|⟨y,u,rfl,e⟩:=fY c
   .injection e with e1 _;rw[e1]
   .exact nomatch e
  .obtain⟨j,u,rfl,e⟩|⟨y,u,rfl,e⟩:=fY c
   .exact nomatch e
   .injection e with e1 _;rw[e1]
 byValue:=λk v h=>by
  obtain⟨i,t,rfl,rfl⟩|⟨x,t,rfl,rfl⟩:=fY h<;>rfl
 pyHash:=λhv h=>by
  obtain⟨i,t,rfl,rfl⟩|⟨x,t,rfl,rfl⟩:=fY hv
  .exact wpAny_pyHash_int h
  .exact wpAny_pyHash_str h
 eqBool:=λd hv h=>by
  obtain⟨i,t,rfl,rfl⟩|⟨x,t,rfl,rfl⟩:=fY d
  .obtain⟨j,u,rfl,rfl⟩|⟨y,u,rfl,rfl⟩:=fY hv
   .rw[ajW]at h;exact wpAny_eqBool_int h
   .rw[ajY]at h;exact SeqAt.EqAt.int_str i t y u _ _ _ _ h
  .obtain⟨j,u,rfl,rfl⟩|⟨y,u,rfl,rfl⟩:=fY hv
   .rw[ajZ]at h;exact SeqAt.EqAt.str_int x t j u _ _ _ _ h
   .rw[ajX]at h;exact wpAny_eqBool_str h
 «strs»:=λk x t v h=>by
  obtain⟨i,u,rfl,e⟩|⟨y,u,rfl,e⟩:=fY h
  .exact nomatch e
  .injection e with e1 _;subst e1;cases v<;>rfl
def OX(prog:Qax)(w:World)(i:Int)(t:Tok):(gT prog w).is (.inl i) (.int i t)=true:=Xy i t
def OY(prog:Qax)(w:World)(x:Str)(t:Tok):(gT prog w).is (.inr x) (.str x t)=true:=Xz x t
inductive V where
 | non|bl (b:Bool)|int (i:Int)|str (x:Str)|VM (b:Array UInt8)|flt (b:UInt64)|ref (a:Addr)|ty (n:String)
 deriving DecidableEq
def RelV:V->Value->Prop
 | .non,u=>u=Value.none
 | .bl b,u=>u=Value.bool b
 | .int i,u=>∃t,u=Value.int i t
 | .str x, u => ∃ t, u = Value.str x t
 | .VM b,u=>∃t,u=Value.bytes b t
 | .flt b,u=>∃t,u=Value.float b t
 | .ref a,u=>u=Value.ref a
 | .ty n,u=>u=Value.type n
abbrev _root_.BY:=List V
abbrev _root_.B0:=List Value
abbrev Vals:BY->B0->Prop:=Paired RelV
variable{xs:BY}{us:B0}
theorem Vals.length(r:Vals xs us):xs.length=us.length:=Paired.length r
theorem Vals.get:∀{xs:BY} {us:B0} {i:Nat} {x:V},Vals xs us->xs[i]? = some x->∃u,us[i]? = some u/\RelV x u
 | _,_,_,_,.nil,e=>by simp at e
 | _,_,0,_,.cons r _,e=>by simp_all
 | _,_,i+1,x,.cons _ t,e=>by
  obtain⟨u,h1,h2⟩:=Vals.get t (‹_›);exact⟨u,‹_›,h2⟩
theorem Vals.set{x:V}{u:Value}(r:RelV x u):∀{xs:BY} {us:B0} (i:Nat),Vals xs us->Vals (xs.set i x) (us.set i u)
 | _,_,_,.nil=>.nil
 | _,_,0,.cons _ t=>.cons r t
 | _,_,i+1,.cons q t=>.cons q (Vals.set r i t)
theorem Vals.append:∀{xs ys:BY} {us ws:B0},Vals xs us->Vals ys ws->Vals (xs++ys) (us++ws)
 | _,_,_,_,.nil,s=>s
 | _,_,_,_,.cons r t,s=>.cons r (Vals.append t s)
theorem Vals.take:∀{xs:BY} {us:B0} (n:Nat),Vals xs us->Vals (xs.take n) (us.take n)
 | _,_,0,_=>.nil
 | _,_,_+1,.nil=>.nil
 | _,_,n+1,.cons r t=>.cons r (Vals.take n t)
theorem Vals.drop:∀{xs:BY} {us:B0} (n:Nat),Vals xs us->Vals (xs.drop n) (us.drop n)
 | _,_,0,r=>r
 | _,_,_+1,.nil=>.nil
 | _,_,n+1,.cons _ t=>Vals.drop n t
def yw:Option V->Option Value->Prop
 | some v,some u=>RelV v u
 | none,none=>True
 | _,_=>False
def KV{κ:Type}:List (κ×V)->List (κ×Value)->Prop:=Paired λ(p:κ×V) (q:κ×Value)=>p.1=q.1/\RelV p.2 q.2
noncomputable def kV:Key->V
 | .inl i=>.int i
 | .inr x=>.str x
abbrev _root_.Dx:=List Key
abbrev _root_.Bn:=List (Dx×V)
abbrev _root_.Bz:=List (Str×V)
abbrev _root_.CA:=Int->Bool
abbrev _root_.CI:=Array Value
abbrev _root_.Cf:=List (Key×V)
inductive HO where
 | lst (xs:BY)
 | tup (xs:BY)
 | dK (kvs:Cf)|dT (kvs:Bn)
 | set (S:CA) (n:Nat)
 | ins (C dx:Addr) (fs:Bz)
 | own (x:Addr)
 | xd (fs:Bz)
 | met (f x:Addr)
 | rng (lo hi:Int)
 | fB (o:Obj) (u:HO)
 | tbl (ps:CI)
 | tabs (q:Str)
 | XA (q:Str)
 | ext (φ:Heap->Prop)
abbrev Hp:=Addr->Option HO
noncomputable def upd(H:Hp)(a:Addr)(o:HO):Hp:=λb=>if b=a then some o else H b
variable{H:Hp}{a:Addr}{o:HO}
theorem aV:upd H a o a=some o:=by unfold upd;simp_all
variable{b:Addr}
def aq(h:b≠a):upd H a o b=H b:=by unfold upd;rw[dP h]
def aoO{u:HO}(h:H a=some o)(h':H b=some u)(d:o≠u):a≠b:=by
 intro e;subst e;rw[h]at h';exact d (l1 h')
theorem aP(h:H a=some o)(h':H b=none):a≠b:=by
 intro e;simp_all
section
variable(P:Qax)(w:World)
def gW(H:Hp)(h:Heap)(a:Addr):HO->Prop
 | .lst xs=>xs.length<=sizeLine/\∃(its:B0) (n:Nat),Vals xs its/\h.get? a=some {cls:=.type "list",data:=.seq its.toArray n}
 | .tup xs=>xs.length<=sizeLine/\∃its:B0,Vals xs its/\IsTup h a its.toArray
 | .dK kvs=>kvs.length<=sizeLine/\Qco=false/\∃vs,KV kvs vs/\h.DictOf (gT P w) a vs
 | .dT kvs=>kvs.length<=sizeLine/\Qco=false/\∃xs:List Qdq,
   Paired (λ(p:Dx×V) (q:Qdq)=>p.1=q.1/\H q.2.1=some (.tup (p.1.map kV))/\RelV p.2 q.2.2) kvs xs ∧
   ∃o es ep,h.get? a=some o/\o.ExactDict/\o.data=.dict es ep/\es.toList=xs.map (entryOfKey (tupleKind (gT P w)))/\(xs.map (·.1)).Nodup
 | .set S n=>h.SetOf (intKind P w) a S n
 | .ins C dx fs=>H dx=some (.own a)/\fs.length<=1000/\dx≠a/\h.get? a=some (instObj C dx) ∧
   ∃mA,h.Ns1 dx mA/\(∀f,yw (fs.lookup f) (mA f))/\PySem.Within mA (fs.map (·.1))
 | .own _=>∃o,h.get? a=some o
 | .xd fs=>∃mA,h.Ns1 a mA/\∀f,yw (fs.lookup f) (mA f)
 | .rng lo hi=>∃t u v,h.get? a=some {cls:=.type "range",data:=.fields #[.int lo t,.int hi u,.int 1 v]}
 | .fB o u=>h.get? a=some o/\gW H h a u
 | .tbl ps=>h.get? a=some {cls:=.none,data:=.fields ps}
 | .tabs q=>∃ps:CI,h.get? a=some {cls:=.none,data:=.fields ps}/\TriplesOk ps.toList/\∀pos b,codeAmong pos ps.toList=some b->∃c,b=.ref c/\H c=some (.XA q)
 | .XA q=>∃o vs t,h.get? a=some o/\o.data=.fields vs/\vs[1]? = some (.str q t)
 | .met f x=>h.get? a=some (PySem.W.methodObj QR (.ref x))
 | .ext φ=>φ h/\(∃o,h.get? a=some o)/\∀h1 h2:Heap,φ h1->(∀o,h1.get? a=some o->h2.get? a=some o)->φ h2
def zJ(H:Hp)(h:Heap):Prop:=∀a o,H a=some o->gW P w H h a o
end
variable{P:Qax}{w:World}{H':Hp}{h h':Heap}
theorem gW.lt(x:gW P w H h a o):a<h.objs.size:=by
 cases o with
 | lst xs=>obtain⟨_,_,_,_,e⟩:=x;exact ke e
 | tup xs=>obtain⟨_,_,_,p⟩:=x;exact p.lt
 | dK kvs=>obtain⟨_,_,_,_,o,_,_,e,_⟩:=x;exact ke e
 | dT kvs=>obtain⟨_,_,_,_,o,_,_,e,_⟩:=x;exact ke e
 | set S n=>obtain⟨o,_,_,_,e,_⟩:=x;exact ke e
 | ins C dx fs=>obtain⟨_,_,_,e,_⟩:=x;exact ke e
 | own y=>obtain⟨_,e⟩:=x;exact ke e
 | xd fs=>obtain⟨_,⟨_,_,_,e,_⟩,_⟩:=x;exact ke e
 | rng lo hi=>obtain⟨_,_,_,e⟩:=x;exact ke e
 | fB b u=>obtain⟨e,_⟩:=x;exact ke e
 | tbl ps=>exact ke (x)
 | tabs q=>obtain⟨_,e,_⟩:=x;exact ke e
 | XA q=>obtain⟨_,_,_,e,_⟩:=x;exact ke e
 | met f y=>exact ke (x)
 | ext φ=>obtain⟨_,⟨_,e⟩,_⟩:=x;exact ke e
theorem Paired.L9{α β:Type}{F G:α->β->Prop}:∀{l₁:Q3} {l₂:List β},Paired F l₁ l₂->(∀a b,F a b->G a b)->Paired G l₁ l₂
 | _,_,.nil,_=>.nil
 | _,_,.cons r t,f=>.cons (f _ _ r) (Paired.L9 t f)
theorem gW.EW(x:gW P w H h a o)(k:∀b u,(b=a\/H b=some (.own a))->h.get? b=some u->h'.get? b=some u)
  (l:∀b,H b=some (.own a)->H' b=some (.own a)) (j:∀b xs,H b=some Qbe->H' b=some Qbe) (kH:∀b q,H b=some (.XA q)->H' b=some (.XA q):=by intro _ _ q;exact q):gW P w H' h' a o:=by
 induction o with
 | lst xs=>obtain⟨z,its,n,r,e⟩:=x;exact⟨z,its,n,r,k _ _ Qae e⟩
 | tup xs=>obtain⟨z,its,r,g,e,c⟩:=x;exact⟨z,its,r,g,k _ _ Qae e,c⟩
 | dK kvs=>obtain⟨z,y,vs,r,g,es,ep,e,c⟩:=x;exact⟨z,y,vs,r,g,es,ep,k _ _ Qae e,c⟩
 | dT kvs=>
  obtain⟨z,y,xs,r,g,es,ep,e,c⟩:=x;exact⟨z,y,xs,Paired.L9 r λp q z=>⟨z.1,j _ _ z.2.1,z.2.2⟩,g,es,ep,k _ _ Qae e,c⟩
 | set S n=>obtain⟨g,es,ep,t,e,c⟩:=x;exact⟨g,es,ep,t,k _ _ Qae e,c⟩
 | ins C dx fs=>
  obtain⟨d,z,ne,e,mA,⟨od,es,ep,e2,c⟩,r⟩:=x;exact⟨l _ d,z,ne,k _ _ Qae e,mA,⟨od,es,ep,k _ _ (.inr d) e2,c⟩,r⟩
 | own y=>obtain⟨g,e⟩:=x;exact⟨g,k _ _ Qae e⟩
 | xd fs=>obtain⟨mA,⟨od,es,ep,e,c⟩,r⟩:=x;exact⟨mA,⟨od,es,ep,k _ _ Qae e,c⟩,r⟩
 | rng lo hi=>obtain⟨t,u,v,e⟩:=x;exact⟨t,u,v,k _ _ Qae e⟩
 | fB g u i=>obtain⟨e,q⟩:=x;exact⟨k _ _ Qae e,i q⟩
 | tbl ps=>
  have e:=x;exact k a _ Qae e
 | met f y=>
  have e:=x;exact k a _ Qae e
 | tabs q=>obtain⟨ps,e,tr,cs⟩:=x;exact⟨ps,k _ _ Qae e,tr,λpos m z=>let ⟨c,e1,e2⟩:=cs pos m z;⟨c,e1,kH _ _ e2⟩⟩
 | XA q=>obtain⟨g,vs,t,e,r⟩:=x;exact⟨g,vs,t,k _ _ Qae e,r⟩
 | ext φ=>obtain⟨p,⟨o,e⟩,st⟩:=x;exact⟨st _ _ p λo q=>k _ _ Qae q,⟨o,k _ _ Qae e⟩,st⟩
theorem zJ.lt(x:Qbj)(e:H a=some o):a<h.objs.size:=(x a o e).lt
theorem zJ.fresh(x:Qbj)(e:h.objs.size<=a):H a=none:=by
 cases q:H a with
 | none=>rfl
 | some u=>exact absurd (mu (x.lt q) e) (vx _)
theorem zJ.kept(x:Qbj)(k:∀b u,h.get? b=some u->h'.get? b=some u):zJ P w H h':=λa o e=>
 (x a o e).EW (λb u _ q=>k b u q) Qcr λ_ _ q=>q
theorem zJ.laid(x:Qbj)(k:∀b u,h.get? b=some u->h'.get? b=some u)(g:h.objs.size<=a)(new:gW P w QbF h' a o):zJ P w QbF h':=λb u e=>by
 have d:=x.fresh g;by_cases f:b=a
 .subst f;rw[aV]at e;grind
 .rw[aq f]at e;exact(x b u e).EW (λc v _ q=>k c v q) (λc q=>aq (aP q d)▸q) (λc xs q=>aq (aP q d)▸q) λc z q=>aq (aP q d)▸q
def Rd(H:Hp)(a:Addr)(u:HO):Prop:=H a=some u\/∃o,H a=some (.fB o u)
theorem Rd.ok{u:HO}(r:Rd H a u)(x:Qbj):gW P w H h a u:=by
 obtain r|⟨o,r⟩:=r
 .exact x a u r
 .obtain⟨_,q⟩:=x a _ r;exact q
def G2:Option HO->Prop
 | some (.lst _)=>True
 | some (.dK _)=>True
 | some (.dT _)=>True
 | some (.set _ _)=>True
 | some (.ins _ _ _)=>True
 | some (.ext _)=>True
 | some (.tabs _)=>True
 | _=>False
variable{x e:Addr}{o':HO}
theorem zJ.write(ok:Qbj)(d:G2 (H x))(he:e=x\/H e=some (.own x))(k:∀b u,b≠e->h.get? b=some u->h'.get? b=some u)(f:∃u,h'.get? e=some u)
  (new:gW P w (upd H x o') h' x o'):zJ P w (upd H x o') h':=λb u q=>by
 have l:∀c y,H c=some (.own y)->c≠x:=λc y r z=>by subst z;rw[r]at d;exact d
 have j:∀c xs,H c=some Qbe->c≠x:=λc xs r z=>by subst z;rw[r]at d;exact d
 have i:∀c q,H c=some (.XA q)->c≠x:=λc q r z=>by subst z;rw[r]at d;exact d
 by_cases g:b=x
 .subst g;rw[aV]at q;grind
 .rw[aq g]at q;by_cases a:b=e
  .have m:H b=some (.own x):=by
    obtain z|z:=he
    .exact absurd (a.trans z) g
    .rw[a];exact z
   rw[q]at m;cases m;obtain⟨v,hv⟩:=f;exact⟨v,a▸hv ⟩
  .refine(ok b u q).EW (λc v n r=>k c v ?_ r) (λc r=>aq (l c b r)▸r) (λc xs r=>aq (j c xs r)▸r) λc z r=>aq (i c z r)▸r;grind
abbrev _root_.BS:=List Addr
structure Un(fs ex:BS)(H H':Hp)(h h':Heap):Prop where
 keep:∀b o,h.get? b=some o->H b=none->b∉fs->b∉ex->h'.get? b=some o
 slot:∀b o,h.get? b=some o->H b=none->b∈fs->b∉ex->∃sl,h'.get? b=some {o with slots:=sl}
 free:∀b o,h.get? b=some o->H b=none->b∉ex->H' b=none
 there:∀b o,h.get? b=some o->b∉ex->∃o',h'.get? b=some o'
 Dt:∀b xs,H b=some Qbe->H' b=some Qbe
 cQ:∀b o u,H b=some (.fB o u)->H' b=some (.fB o u)
 Du:∀b ps,H b=some (.tbl ps)->∃more,H' b=some (.tbl (ps++more))
section
variable{fs ex:BS}{H1 H2:Hp}{h1 h2:Heap}
theorem Un.any(u:Un fs ex H H1 h h1){a:Obj}(q:h.get? b=some a)(n:H b=none)(c:b∉ex):∃sl,h1.get? b=some {a with slots:=sl}:=by
 by_cases d:b∈fs
 .exact u.slot b a q n d c
 .exact⟨ _,u.keep b a q n d c⟩
theorem Un.trans(a:Un fs ex H H1 h h1)(b:Un fs ex H1 H2 h1 h2):Un fs ex H H2 h h2 where
 keep:=λc d q n f e=>b.keep c d (a.keep c d q n f e) (a.free c d q n e) f e
 slot:=λc d q n f e=>by
  obtain⟨sl,e1⟩:=a.slot c d q n f e;obtain⟨g,e2⟩:=b.slot c _ e1 (a.free c d q n e) f e;exact⟨g,e2⟩
 free:=λc d q n e=>by
  obtain⟨o',e1⟩:=a.there c d q e;exact b.free c o' e1 (a.free c d q n e) e
 there:=λc d q e=>by
  obtain⟨o',e1⟩:=a.there c d q e;exact b.there c o' e1 e
 Dt:=λc xs q=>b.Dt c xs (a.Dt c xs q)
 cQ:=λc d xs q=>b.cQ c d xs (a.cQ c d xs q)
 Du:=λc ps q=>by
  obtain⟨m1,e1⟩:=a.Du c ps q;obtain⟨m2,e2⟩:=b.Du c _ e1;exact⟨m1++m2,by simp_all ⟩
theorem Un.kept(k:∀b u,h.get? b=some u->h'.get? b=some u):Un fs ex H H h h':=
 ⟨λb a q _ _ _=>k b a q,λb a q _ _ _=>⟨ _,k b a q⟩,λ_ _ _ n _=>n,λb a q _=>⟨a,k b a q⟩,λ_ _ q=>q,λ_ _ _ q=>q,λ_ ps q=>⟨#[],‹_› ⟩⟩
theorem Un.refl:Un fs ex H H h h:=Un.kept λ_ _ q=>q
theorem Un.laid(k:∀b u,h.get? b=some u->h'.get? b=some u)(d:h.objs.size<=a)(c:H a=none):Un fs ex H QbF h h' where
 keep:=λb u q _ _ _=>k b u q
 slot:=λb u q _ _ _=>⟨ _,k b u q⟩
 free:=λb u q n _=>aq (k4 (mu (ke q) d))▸n
 there:=λb u q _=>⟨u,k b u q⟩
 Dt:=λb xs q=>aq (aP q c)▸q
 cQ:=λb u xs q=>aq (aP q c)▸q
 Du:=λb ps q=>⟨#[],by rw[aq (aP q c),q];simp⟩
theorem Un.write(d:G2 (H x))(he:e=x\/H e=some (.own x))(k:∀b u,b≠e->h.get? b=some u->h'.get? b=some u)(c:∃u,h'.get? e=some u):Un fs ex H (upd H x o) h h':=by
 have g:∀b,H b=none->b≠x:=λb n z=>by subst z;rw[n]at d;exact d
 have f:∀b,H b=none->b≠e:=λb n z=>by simp_all
 have hm:∀b u,H b=some u->¬ G2 (some u)->b≠x:=λb u q nm z=>by simp_all
 refine⟨λb u q n _ _=>k b u (f b n) q,λb u q n _ _=>⟨ _,k b u (f b n) q⟩,λb u q n _=>aq (g b n)▸n,λb u q _=>?_,
  λb xs q=>aq (hm b _ q λz=>z)▸q,λb u xs q=>aq (hm b _ q λz=>z)▸q,λb ps q=>⟨#[],by rw[aq (hm b _ q λz=>z),q];simp⟩⟩
 by_cases a:b=e
 .subst a;exact c
 .exact⟨u,k b u a q⟩
end
noncomputable def NO(h:Heap)(H:Hp):BS:=(List.range h.objs.size).filter λa=>(H a).isSome
def Io(h:Heap)(H:Hp):Heap:=PySem.W.hideAll h (NO h H)
def XC(h:Heap)(H:Hp):(Io h H).objs.size=h.objs.size:=PySem.W.hideAll_size _ _
theorem aam{o:Obj}(e:h.get? b=some o)(n:H b=none):(Io h H).get? b=some o:=
 PySem.W.hideAll_get _ e λhm=>by
  have q:=(k3.1 hm).2;simp_all
theorem afj{o:Obj}(e:(Io h H).get? b=some o):h.get? b=some o/\H b=none:=by
 have a:=PySem.W.of_hideAll _ e;refine⟨a,?_⟩;cases q:H b with
 | none=>rfl
 | some x=>
  have hm:b∈NO h H:=k3.2 ⟨mD.2 (ke a),by simp[q]⟩;have z:(Io h H).get? b=none:=PySem.W.hideAll_none _ hm;simp_all
abbrev _root_.BM:=List (Addr×Obj)
noncomputable def afk(g h:Heap)(L:Addr):BM:=(List.range h.objs.size).filterMap λa=>if a=L\/(g.get? a).isSome=true then none else(h.get? a).map λo=>(a,o)
def rest(g h:Heap)(L d:Addr):BM:=(afk g h L).filter λp=>decide (p.1≠d)
abbrev _root_.Bi:=Str->Option Value
structure Mod(K:Frag)(mg:Bi)(base:Heap):Prop where
 xk:K.In base
 glob:base.Ns mainGlobals mg
 blt:∃mb,base.Ns builtinsNs mb/\∀x:Str,x≠"__name__"->mb x=bootBuiltins x
 nolimit:base.NoLimit
abbrev _root_.At:=List Str
abbrev _root_.B2:=Value->Shared->Prop
abbrev _root_.Da:=List Env
structure Cx where
 prog:Program
 w:World
 K:Frag
 mg:Str->Option Value
 base:Heap
 A:Around
 N:At
 jx:Shared
 nq:Hp
 env:Env
 outer:Da
 stack:Da
 ex:BS
 fn:Str->Bool
 calm:Bool
 pn:BM
 xe:Value->Shared->Prop
noncomputable def ZX(l:Da):BS:=l.filterMap (·.frame)
abbrev Cx.fs(X:Cx):BS:=ZX X.outer
def tj(sc:Scope)(x:Str):Prop:=sc.names.lookup x=some .local\/sc.names.lookup x=some .cell\/sc.names.lookup x=some .free
def Loc(sc:Scope)(x:Str):Prop:=sc.names.lookup x=some .local\/sc.names.lookup x=some .cell
def Look(env:Env)(h:Heap)(m:Bi)(x:Str)(u:Value):Prop:=
 (env.kindOf x=some .local/\m x=some u)\/((env.kindOf x=some .cell\/env.kindOf x=some .free)/\∃c,env.cells.lookup x=some c/\h.IsCell c (some u))
structure Cx.Ok(X:Cx):Prop where
 mod:Mod X.K X.mg X.base
 kind:X.env.scope.kind=.function
 glob:X.env.globals=mainGlobals
 blt:X.env.builtins=builtinsNs
 above:X.jx.heap.objs.size<=X.env.locals
 inj:∀x y c,X.env.cells.lookup x=some c->X.env.cells.lookup y=some c->x=y
 has:∀x,(X.env.kindOf x=some .cell\/X.env.kindOf x=some .free)->∃c,X.env.cells.lookup x=some c
 zr:∀x c,X.fn x=true->X.env.cells.lookup x=some c->X.jx.heap.objs.size<=c
 hd:X.calm=true->X.A.handled=none
 frames:X.A.frames=some X.stack
 Hd:X.stack=X.outer\/(X.stack=X.env::X.outer/\X.env.frame=some X.env.locals)
 OE:∀b∈X.ex,b≠X.env.locals/\∀x c,X.env.cells.lookup x=some c->c≠b
 bs:∀b o,X.base.get? b=some o->X.jx.heap.get? b=some o/\X.nq b=none
 pj:X.base.objs.size<=X.jx.heap.objs.size
 Bq:∀b o,X.base.get? b=some o->b∉X.ex
 Iy:∀b∈X.ex,b∉X.fs
 Dv:X.jx.heap.FunFrames X.base X.outer
 u3:∀b∈X.fs,X.nq b=none
structure Inv(X:Cx)(pins:BM)(σ:List (Option V))(H:Hp)(s:Qb):Prop where
 ok:X.Ok
 os:s.os=X.jx.os
 bare:AllBare s.gens
 base:Un X.fs X.ex X.nq H X.jx.heap s.heap
 loc:∃m,s.heap.Ns X.env.locals m/\∀(i:Nat) (x:Str) (v:V),X.N[i]? = some x->σ[i]? = some Qav->tj X.env.scope x->∃u,RelV v u/\Look X.env s.heap m x u
 cell:∀x c,X.env.cells.lookup x=some c->∃v,s.heap.IsCell c v
 free:H X.env.locals=none
 vh:∀x c,X.env.cells.lookup x=some c->H c=none
 pin:∀p∈X.pn++pins,s.heap.get? p.1=some p.2/\H p.1=none/\p.1≠X.env.locals/\p.1∉X.fs/\∀v,p.2.data ≠ .cell v
 f7:zJ X.prog X.w H s.heap
 len:σ.length=X.N.length
variable{X:Cx}{pins:BM}{σ:List (Option V)}{s:Qb}
theorem Cx.Ok.asV(ok:X.Ok){o:Obj}(e:X.base.get? b=some o):b∉X.fs:=λa=>by
 have:=(ok.Dv.mem a).1;grind
theorem Inv.bs(I:QP):∀b o,X.base.get? b=some o->s.heap.get? b=some o/\H b=none:=λb o e=>
 ⟨I.base.keep b o (I.ok.bs b o e).1 (I.ok.bs b o e).2 (I.ok.asV e) (I.ok.Bq b o e),I.base.free b o (I.ok.bs b o e).1 (I.ok.bs b o e).2 (I.ok.Bq b o e)⟩
theorem Inv.bk(I:QP):∀b o,X.base.get? b=some o->s.heap.get? b=some o:=λb o e=>(I.bs b o e).1
theorem Inv.mod(I:QP):Mod X.K X.mg X.base:=I.ok.mod
theorem Inv.OO(I:QP):X.K.In s.heap:=I.ok.mod.xk.keeps I.bk
theorem Inv.nolimit(I:QP):s.heap.NoLimit:=I.ok.mod.nolimit.keeps I.bk
theorem Inv.lt(I:QP):X.env.locals<s.heap.objs.size:=let ⟨_,a,_⟩:=I.loc;a.lt
theorem Inv.sz(I:QP):X.jx.heap.objs.size<=s.heap.objs.size:=kM I.ok.above (l0 I.lt)
theorem Inv.asW(I:QP)(h:s.heap.objs.size<=a):a∉X.fs:=λc=>by
 obtain⟨_,o,b,_⟩:=I.ok.Dv.mem c;exact absurd (mu (ke b) (kM I.sz h)) (vx _)
theorem Inv.vc(I:QP):∀x c,X.env.cells.lookup x=some c->c≠X.env.locals:=λx c e z=>by
 obtain⟨v,o,d,hd⟩:=I.cell x c e;obtain⟨m,⟨o',es,ep,a,b,_⟩,_⟩:=I.loc;grind
theorem Inv.Dv(I:QP):s.heap.FunFrames X.base X.outer:=by
 have all:∀(l:Da),(∀b∈ZX l,b∈X.fs)->X.jx.heap.FunFrames X.base l->s.heap.FunFrames X.base l:=by
  intro l
  induction l with
  | nil=>intro _ _;trivial
  | cons env r d=>
   intro hs i;obtain⟨j,⟨L,o,hf,h,g,hd⟩,f⟩:=i;have c:=hs L (by unfold ZX;rw[nc,hf];exact fX);obtain⟨sl,e⟩:=I.base.slot L o g (I.ok.u3 L c) c λz=>I.ok.Iy L z c;exact⟨j,⟨L,_,hf,h,e,hd⟩,d (λb a=>hs b (by unfold ZX;rw[nc,hf];exact i8 _ a)) f⟩
 exact all _ (λ_ a=>a) I.ok.Dv
theorem Inv.stack(I:QP):s.heap.FunFrames X.base X.stack:=by
 obtain e|⟨e,hf⟩:=I.ok.Hd
 .rw[e];exact I.Dv
 .rw[e];obtain⟨m,a,_⟩:=I.loc;refine .cons (by rw[I.ok.kind];decide) hf a ?_ I.Dv;exact Heap.get?_none_of_le (kM I.ok.pj I.ok.above)
theorem Inv.K7(I:QP):∀b∈ZX X.stack,b∈X.env.locals::X.fs:=λb a=>by
 obtain e|⟨e,hf⟩:=I.ok.Hd
 .rw[e]at a;exact i8 _ a
 .rw[e]at a;unfold ZX at a;rw[nc,hf]at a;exact a
theorem Inv.K8(I:QP):∀b∈ZX X.stack,H b=none:=λb a=>by
 obtain e|a:=fO.1 (I.K7 b a)
 .rw[e];exact I.free
 .obtain⟨_,o,c,_⟩:=I.ok.Dv.mem a;exact I.base.free b o c (I.ok.u3 b a) λz=>I.ok.Iy b z a
variable{t':Nat}
theorem Inv.step{g':Array GenState}{d':Drawn}{ch:BS}(I:QP)
  (g:∀b∈ch,QeF/\b≠X.env.locals/\(∀x c,X.env.cells.lookup x=some c->c≠b)/\∀p∈X.pn++pins,p.1≠b)
  (keep:∀b o,b≠X.env.locals->b∉X.fs->b∉ch->s.heap.get? b=some o->H b=none->h'.get? b=some o)
  (slot:∀b o,b≠X.env.locals->b∈X.fs->b∉ch->s.heap.get? b=some o->H b=none->∃sl,h'.get? b=some {o with slots:=sl}) (free:∀b o,b∉ch->s.heap.get? b=some o->H b=none->H' b=none)
  (there:∀b o,b∉ch->s.heap.get? b=some o->∃o',h'.get? b=some o')
  (Dt:∀b xs,H b=some Qbe->H' b=some Qbe) (cQ:∀b o u,H b=some (.fB o u)->H' b=some (.fB o u)) (Du:∀b ps,H b=some (.tbl ps)->∃more,H' b=some (.tbl (ps++more)))
  (ns:∀m,s.heap.Ns X.env.locals m->h'.Ns X.env.locals m) (f7:zJ X.prog X.w H' h') (G:AllBare g') :
  Inv X pins σ H' {s with heap:=h',gens:=g',drawn:=d',toks:=t'}:=by
 have y:∀b o,X.jx.heap.get? b=some o->b≠X.env.locals:=λb o e=>k4 (mu (ke e) I.ok.above);have h:∀b o,X.jx.heap.get? b=some o->b∉X.ex->b∉ch:=λb o e a j=>by
  rcases(g b j).1 with z|z
  .exact a z
  .exact absurd (mu (ke e) z) (vx _)
 have cellK:∀x c,X.env.cells.lookup x=some c->∀v,s.heap.IsCell c v->h'.IsCell c v:=λx c e v ⟨o,t,hd⟩=>by
  have f:c∉ch:=λz=>(g c z).2.2.1 x c e rfl;by_cases D:c∈X.fs
  .obtain⟨sl,q⟩:=slot c o (I.vc x c e) D f t (I.vh x c e);exact⟨_,q,hd⟩
  .exact⟨o,keep c o (I.vc x c e) D f t (I.vh x c e),hd⟩
 refine⟨I.ok,I.os,G,⟨λb o e n j a=>?_,λb o e n j a=>?_,λb o e n a=>?_,λb o e a=>?_,λb xs e=>Dt b xs (I.base.Dt b xs e),λb o xs e=>cQ b o xs (I.base.cQ b o xs e),λb ps e=>?_⟩,?_,λx c e=>?_,?_,λx c e=>?_,λp C=>?_,f7,I.len⟩
 .exact keep b o (y b o e) j (h b o e a) (I.base.keep b o e n j a) (I.base.free b o e n a)
 .obtain⟨sl,e1⟩:=I.base.slot b o e n j a;obtain⟨A,e2⟩:=slot b _ (y b o e) j (h b o e a) e1 (I.base.free b o e n a);exact⟨A,e2⟩
 .obtain⟨o',e1⟩:=I.base.there b o e a;exact free b o' (h b o e a) e1 (I.base.free b o e n a)
 .obtain⟨o',e1⟩:=I.base.there b o e a;exact there b o' (h b o e a) e1
 .obtain⟨m1,e1⟩:=I.base.Du b ps e;obtain⟨m2,e2⟩:=Du b _ e1;exact⟨m1++m2,by rw[e2,Array.append_assoc]⟩
 .obtain⟨m,E,F⟩:=I.loc;refine⟨m,ns m E,λi x v e1 e2 J=>?_⟩;obtain⟨u,r,l⟩:=F i x v e1 e2 J;refine⟨u,r,?_⟩;obtain l|⟨k,c,e,z⟩:=l
  .exact .inl l
  .exact .inr ⟨k,c,e,cellK x c e _ z⟩
 .obtain⟨v,z⟩:=I.cell x c e;exact⟨v,cellK x c e v z⟩
 .obtain⟨m,⟨o,_,_,t,_⟩,_⟩:=I.loc;exact free _ o (λz=>(g _ z).2.1 rfl) t I.free
 .obtain⟨v,o,t,hd⟩:=I.cell x c e;exact free c o (λz=>(g c z).2.2.1 x c e rfl) t (I.vh x c e)
 .obtain⟨e,n,ne,B,d⟩:=I.pin p C;have f:p.1∉ch:=λz=>(g p.1 z).2.2.2 p C rfl;exact⟨keep p.1 p.2 ne B f e n,free p.1 p.2 f e n,ne,B,d⟩
theorem Inv.un(I:QP)(u:Un X.fs [] H H' s.heap h')(f7:zJ X.prog X.w H' h'):Inv X pins σ H' {s with heap:=h',toks:=t'}:=by
 obtain⟨m,⟨o,es,ep,g,r⟩,_⟩:=id I.loc;obtain⟨sl,i⟩:=u.any g I.free Wm;exact I.step (ch:=[]) (λ_ z=>nomatch z) (λb o _ c _ e n=>u.keep b o e n c Wm) (λb o _ c _ e n=>u.slot b o e n c Wm) (λb o _ e n=>u.free b o e n Wm) (λb o _ e=>u.there b o e Wm) u.Dt u.cQ u.Du (λj hm=>by
  obtain⟨o',d,f,a,h⟩:=hm;rw[g]at a;cases a;exact⟨_,d,f,i,h⟩) f7 I.bare
theorem Inv.call{g':Array GenState}{d':Drawn}{ch:BS}(I:QP)(u:Un (ZX X.stack) ch H H' s.heap h')(f7:zJ X.prog X.w H' h')(l:AllBare g')
  (f:∀b∈ch,QeF/\b≠X.env.locals/\(∀x c,X.env.cells.lookup x=some c->c≠b)/\∀p∈X.pn++pins,p.1≠b) :
  Inv X pins σ H' {s with heap:=h',gens:=g',drawn:=d',toks:=t'}:=by
 obtain⟨m,⟨o,es,ep,j,r⟩,_⟩:=id I.loc;obtain⟨sl,g⟩:=u.any j I.free λz=>(f _ z).2.1 rfl;exact I.step f (λb o g q a e n=>u.keep b o e n (λz=>(fO.1 (I.K7 b z)).elim g q) a) (λb o _ _ a e n=>u.any e n a) (λb o a e n=>u.free b o e n a) (λb o a e=>u.there b o e a) u.Dt u.cQ u.Du (λt hm=>by
  obtain⟨o',h,i,d,k⟩:=hm;rw[j]at d;cases d;exact⟨_,h,i,g,k⟩) f7 l
theorem Inv.turned{it:Addr}(I:QP)(k:∀b o,b≠it->s.heap.get? b=some o->h'.get? b=some o)(j:H it=none)(f:it≠X.env.locals)
  (h1:it∈X.ex\/X.jx.heap.objs.size<=it) (h2:∀x c,X.env.cells.lookup x=some c->c≠it) (i:∀p∈X.pn++pins,p.1≠it):Inv X pins σ H {s with heap:=h',toks:=t'}:=by
 have d:∀b u,H b=some u->b≠it:=λb u e z=>by grind
 refine I.step (ch:=[it]) (λb h=>?_) (λb o _ _ a e _=>k b o (λz=>a (by simp[z])) e) (λb o _ _ a e _=>⟨ _,k b o (λz=>a (by simp[z])) e⟩) (λ_ _ _ _ n=>n)
  (λb o a e=>⟨o,k b o (λz=>a (by simp[z])) e⟩) (λ_ _ e=>e) (λ_ _ _ e=>e) (λb ps e=>⟨#[],‹_› ⟩) (λm hm=>?_) (λb u e=>?_) I.bare
 .have e:=by simpa using h
  subst e;exact⟨h1,f,h2,i⟩
 .obtain⟨o,es,ep,g,r⟩:=hm;exact⟨o,es,ep,k _ o (mB f) g,r⟩
 .refine(I.f7 b u e).EW (λc v a q=>k c v ?_ q) Qcr λ_ _ q=>q;obtain z|z:=a
  .rw[z];exact d b u e
  .exact d c _ z
theorem Inv.tok(I:QP)(t:Nat):Inv X pins σ H {s with toks:=t}:=I.un Un.refl I.f7
theorem Inv.kept(I:QP)(k:∀b u,s.heap.get? b=some u->h'.get? b=some u):Inv X pins σ H {s with heap:=h',toks:=t'}:=I.un (Un.kept k) (I.f7.kept k)
theorem Inv.laid(I:QP)(k:∀b u,s.heap.get? b=some u->h'.get? b=some u)(c:s.heap.objs.size<=a)(new:gW X.prog X.w QbF h' a o) :
  Inv X pins σ (upd H a o) {s with heap:=h',toks:=t'}:=I.un (Un.laid k c (I.f7.fresh c)) (I.f7.laid k c new)
theorem Inv.write(I:QP)(c:G2 (H x))(he:e=x\/H e=some (.own x))(k:∀b u,b≠e->s.heap.get? b=some u->h'.get? b=some u)(a:∃u,h'.get? e=some u)
  (new:gW X.prog X.w (upd H x o) h' x o):Inv X pins σ (upd H x o) {s with heap:=h',toks:=t'}:=I.un (Un.write c he k a) (I.f7.write c he k a new)
theorem Inv.wW{a:BM}(I:QP)(h:∀p∈a,s.heap.get? p.1=some p.2/\H p.1=none/\p.1≠X.env.locals/\p.1∉X.fs/\∀v,p.2.data ≠ .cell v):Inv X a σ H s:=
 ⟨I.ok,I.os,I.bare,I.base,I.loc,I.cell,I.free,I.vh,λp b=>(i3.1 b).elim (λz=>I.pin p (j1 _ z)) (h p),I.f7,I.len⟩
variable{i:Nat}
def OZ{N:At}(c:N.Nodup){j:Nat}{x:Str}(a:N[i]? = some x)(b:N[j]? = some x):i=j:=by
 obtain⟨h1,e1⟩:=lL.1 a;obtain⟨h2,e2⟩:=lL.1 b;exact(List.getElem_inj c).1 (e1.trans e2.symm)
variable{M:Model}{A:Qat}{E:B2}{v:V}{u:Value}{Q:Unit->Shared->Prop}
abbrev _root_.ET:=List Keyword
abbrev _root_.AB(X:Cx)(p:Pos)(e:Expr):Prop:=((backTo p (starEach [e] X.env)).all (λx=>!x.1)&&(backToKw p (keywordEach [] X.env)).all (λx=>x.1.isSome)&&decide ([e].length+([]:ET).length+QdL<30))=true
abbrev _root_.Cc:=List Expr
abbrev _root_.AC(X:Cx)(e:Expr)(es:Cc):Prop:=starEach Qaa X.env=(false,eval e X.env)::starEach es X.env
abbrev _root_.AD(x:Str):Prop:=(x==("__debug__":Str))=false
abbrev _root_.AE(x:Str):Prop:=(x==("__classdict__":Str))=false
abbrev _root_.AL(X:Cx)(p:Pos)(es:Cc):Prop:=(backTo p (starEach es X.env)).any (·.1)=false
abbrev _root_.AM(X:Cx)(y:Str):Prop:=X.fn y=true\/X.env.scope.names.lookup y=some .local
abbrev _root_.AN(X:Cx)(e:Expr):Prop:=∀x,foldedSetIterable e X.env x=pure x
abbrev _root_.AR(X:Cx)(e d:Expr):Prop:=starEach [e,d] X.env=[(false,eval e X.env),(false,eval d X.env)]
abbrev _root_.AS(X:Cx)(e:Expr)(f:Str):Prop:=attributeBase e f X.env (eval e X.env)=eval e X.env
def XD{x:Str}(I:QP)(hN:X.N.Nodup)(hi:X.N[i]? = some x)(g:Qck)(r:RelV v u)
  (h:∀s',Inv X pins (σ.set i Qav) H s'->(∃a,Heap.SameBut a s.heap s'.heap/\(a=X.env.locals\/X.env.cells.lookup x=some a))->Q () s') (hf:AM X x:=by first|exact .inl rfl|exact .inr rfl|assumption):wpAny M A (storeName X.env x u) Q E s:=by
 obtain⟨m,V,hl⟩:=id I.loc;have Y:(X.env.scope.kind == .class || (X.env.scope.kind == .module&&X.env.locals != X.env.globals))=false:=by rw[I.ok.kind];rfl
 have t:i<σ.length:=by rw[I.len];exact(lL.1 hi).1
 have vc:=I.vc;have tracked:∀{a:Addr} {h':Heap},(∃o,s.heap.get? a=some o/\H a=none)->Heap.SameBut a s.heap h'->zJ X.prog X.w H h':=λ{a h'} ha hs b ob e=>by
  obtain⟨_,_,O1⟩:=ha;refine(I.f7 b ob e).EW (λc K f q=>(hs.2 c ?_).trans q) Qcr λ_ _ q=>q;rintro rfl;obtain rfl|f:=f
  .rw[O1]at e;cases e
  .rw[O1]at f;cases f
 obtain l|l:=g
 .refine wpAny_storeName_local l V (λh' U hs=>?_) Y;obtain⟨oL,_,_,T,_⟩:=id V;refine h _ ⟨I.ok,I.os,I.bare,⟨λb o e n D g=>?_,λb o e n D g=>?_,I.base.free,λb o e g=>?_,I.base.Dt,I.base.cQ,I.base.Du⟩,⟨_,U,λj y v' e1 e2 W=>?_⟩,λy c e=>?_,I.free,I.vh,λp S=>?_,tracked ⟨oL,T,I.free⟩ hs,by simpa using I.len⟩ ⟨_,hs,.inl rfl⟩
  .exact(hs.2 b (k4 (mu (ke e) I.ok.above))).trans (I.base.keep b o e n D g)
  .obtain⟨sl,e1⟩:=I.base.slot b o e n D g;exact⟨sl,(hs.2 b (k4 (mu (ke e) I.ok.above))).trans e1⟩
  .obtain⟨o',e1⟩:=I.base.there b o e g;exact⟨o',(hs.2 b (k4 (mu (ke e) I.ok.above))).trans e1⟩
  .by_cases B:j=i
   .subst B;rw[hi]at e1;cases e1;rw[pE t]at e2;cases e2;exact⟨u,r,.inl ⟨l,Wm⟩⟩
   .rw[Fh (mB B)]at e2;obtain⟨O,P,q⟩:=hl j y v' e1 e2 W;refine⟨O,P,?_⟩;obtain⟨k,e⟩|⟨k,c,e,z⟩:=q
    .refine .inl ⟨k,?_⟩;have:y≠x:=λe=>B (OZ hN e1 (e▸hi));simp[this,e]
    .exact .inr ⟨k,c,e,z.sameBut hs (vc y c e)⟩
  .obtain⟨K,z⟩:=I.cell y c e;exact⟨K,z.sameBut hs (vc y c e)⟩
  .obtain⟨e,n,ne,R,d⟩:=I.pin p S;exact⟨(hs.2 p.1 ne).trans e,n,ne,R,d⟩
 .have C:X.fn x=true:=by
   obtain z|z:=hf
   .exact z
   .rw[z]at l;cases l
  obtain⟨c,f⟩:=I.ok.has x (.inl l);obtain⟨K,z⟩:=I.cell x c f;refine wpAny_storeName_cell I.ok.kind l f z (λh' J hs=>?_);obtain⟨oc,F,Z⟩:=id z;refine h {s with heap:=h'} ⟨I.ok,I.os,I.bare,⟨λb o e n D g=>?_,λb o e n D g=>?_,I.base.free,λb o e g=>?_,I.base.Dt,I.base.cQ,I.base.Du⟩,⟨m,V.sameBut hs (Ne.symm (vc x c f)),λj y v' e1 e2 W=>?_⟩,λy L e=>?_,I.free,I.vh,λp S=>?_,tracked ⟨oc,F,I.vh x c f⟩ hs,by simpa using I.len⟩ ⟨c,hs,.inr f⟩
  .exact(hs.2 b (k4 (mu (ke e) (I.ok.zr x c C f)))).trans (I.base.keep b o e n D g)
  .obtain⟨sl,e1⟩:=I.base.slot b o e n D g;exact⟨sl,(hs.2 b (k4 (mu (ke e) (I.ok.zr x c C f)))).trans e1⟩
  .obtain⟨o',e1⟩:=I.base.there b o e g;exact⟨o',(hs.2 b (k4 (mu (ke e) (I.ok.zr x c C f)))).trans e1⟩
  .by_cases B:j=i
   .subst B;rw[hi]at e1;cases e1;rw[pE t]at e2;cases e2;exact⟨u,r,.inr ⟨.inl l,c,f,J⟩⟩
   .rw[Fh (mB B)]at e2;obtain⟨O,P,q⟩:=hl j y v' e1 e2 W;refine⟨O,P,?_⟩;obtain q|⟨k,L,e,z'⟩:=q
    .exact .inl q
    .refine .inr ⟨k,L,e,z'.sameBut hs ?_⟩;rintro rfl;exact B (OZ hN e1 (I.ok.inj _ _ _ e f▸hi))
  .by_cases G:L=c
   .subst G;exact⟨_,J⟩
   .obtain⟨w2,z2⟩:=I.cell y L e;exact⟨w2,z2.sameBut hs G⟩
  .obtain⟨e,n,ne,R,d⟩:=I.pin p S;refine⟨(hs.2 p.1 ?_).trans e,n,ne,R,d⟩;intro q;rw[q,F]at e;have q':oc=p.2:=l1 e;exact d K (by rw[← q'];exact Z)
def EX{x:Str}(I:QP)(b:X.N.Nodup)(hi:X.N[i]? = some x)(a:Qck)(r:RelV v u)
  (h:∀s',Inv X pins (σ.set i Qav) H s'->Q () s') (hf:AM X x:=by first|exact .inl rfl|exact .inr rfl|assumption):wpAny M A (storeName X.env x u) Q E s:=
 XD I b hi a r (λs' c _=>h s' c) hf
abbrev _root_.Db:=Option Addr
abbrev XK:=Value->Db->Hp->Prop
abbrev St:=List (Option V)
abbrev VK:=V->Hp->Prop
abbrev TE:=St->Hp->VK->Prop
abbrev _root_.Do:=Bool->Hp->Prop
abbrev TT:=St->Hp->Do->Prop
abbrev _root_.EN:=BY->Hp->Prop
abbrev TA:=St->Hp->EN->Prop
structure Ends where
 nx:St->Hp->Prop
 rt:VK
 bk:St->Hp->Prop:=λ_ _=>False
 ct:St->Hp->Prop:=λ_ _=>False
abbrev TS:=Ends->St->Hp->Prop
def EP(X:Cx)(pins:BM)(σ:St)(Q:VK)(u:Value)(s':Qb):Prop:=∃v H',Inv X pins σ H' s'/\RelV v u/\Q v H'
def TP(X:Cx)(pins:BM)(σ:St)(Q:Do)(b:Bool)(s':Qb):Prop:=∃H',Inv X pins σ H' s'/\Q b H'
def AP(X:Cx)(pins:BM)(σ:St)(Q:EN)(us:B0)(s':Qb):Prop:=∃vs H',Inv X pins σ H' s'/\Vals vs us/\Q vs H'
def SP(X:Cx)(pins:BM)(D:Ends)(f:Flow)(s':Qb):Prop:=
 match f with
 | .next=>∃σ' H',Inv X pins σ' H' s'/\D.nx σ' H'
 | .brk=>∃σ' H',Inv X pins σ' H' s'/\D.bk σ' H'
 | .cont=>∃σ' H',Inv X pins σ' H' s'/\D.ct σ' H'
 | .ret u=>∃v σ' H',Inv X pins σ' H' s'/\RelV v u/\D.rt v H'
def PE(X:Cx)(e:Expr)(t:TE):Prop:=
 ∀(pins:BM) (s:Qb) (σ:St) (H:Hp) (Q:VK),Inv X pins σ H s->t σ H Q->wpAny Qr X.A (eval e X.env) Qa2 X.xe s
def PT(X:Cx)(e:Expr)(t:TT):Prop:=
 ∀(pins:BM) (s:Qb) (σ:St) (H:Hp) (Q:Do),Inv X pins σ H s->t σ H Q->wpAny Qr X.A (isTrue e X.env (eval e X.env)) (TP X pins σ Q) X.xe s
def PW(X:Cx)(e:Expr)(t:TT):Prop:=
 ∀(whole:Sem Value) (pins:BM) (s:Qb) (σ:St) (H:Hp) (Q:Do),Inv X pins σ H s->t σ H Q->wpAny Qr X.A (isTrue e X.env whole) (TP X pins σ Q) X.xe s
def PA(X:Cx)(es:Cc)(t:TA):Prop:=
 ∀(pos:Pos) (pins:BM) (s:Qb) (σ:St) (H:Hp) (Q:EN),Inv X pins σ H s->t σ H Q->wpAny Qr X.A (spliced (backTo pos (starEach es X.env))) (AP X pins σ Q) X.xe s
def PS(X:Cx)(st:Stmt)(t:TS):Prop:=
 ∀(pins:BM) (s:Qb) (σ:St) (H:Hp) (D:Ends),Inv X pins σ H s->t D σ H->wpAny Qr X.A (exec st X.env) (SP X pins D) X.xe s
abbrev _root_.Co:=List Stmt
def R1(X:Cx)(st:Co)(t:TS):Prop:=
 ∀(pins:BM) (s:Qb) (σ:St) (H:Hp) (D:Ends),Inv X pins σ H s->t D σ H->wpAny Qr X.A (execs st X.env) (SP X pins D) X.xe s
noncomputable def f6{α:Type}{t:Sem α}{Q b:α->Shared->Prop}(h:wpAny M A t Q E s)(hQ:∀a s,Q a s->b a s):wpAny M A t b E s:=m3 h hQ λ_ _ x=>x
section
noncomputable def as2(i:Nat):TE:=λσ H Q=>∃v,σ[i]? = some Qav/\Q v H
def tC(v:V):TE:=λ_ H Q=>Q v H
def nS{x:Str}{pos:Pos}(j:X.N[i]? = some x)(hv:tj X.env.scope x)(hd:AD x:=by decide)(kH:AE x:=by decide):PE X Qau (as2 i):=by
 intro pins s σ H Q I h;obtain⟨v,e,h⟩:=h;obtain⟨m,f,g⟩:=I.loc;obtain⟨u,r,l⟩:=g i x v j e hv;have fin:EP X pins σ Q u s:=⟨v,H,I,r,h⟩;obtain⟨a,hm⟩|⟨a,c,d,b⟩:=l
 .exact wpAny_Name (wpAny_loadName_local I.ok.kind a f hm fin) hd
 .obtain a|a:=a
  .exact wpAny_Name (wpAny_loadName_cell I.ok.kind a d b fin) hd
  .exact wpAny_Name (wpAny_loadName_free I.ok.kind a d b fin kH) hd
noncomputable def aap{i j pos}:PE X (.Constant Qaw j pos) (tC Qaw):=λ_ _ _ H _ I h=>wpAny_Constant_int ⟨.int i,H,I.tok _,⟨_,rfl⟩,h⟩
noncomputable def S2{b j pos}:PE X (.Constant (.bool b) j pos) (tC (.bl b)):=λ_ _ _ H _ I h=>Constant_bool ⟨.bl b,H,I,rfl,h⟩
noncomputable def aj4{x j pos}:PE X (.Constant Qa0 j pos) (tC Qa0):=λ_ _ _ H _ I h=>Calls.Constant_str ⟨.str x,H,I.tok _,⟨_,rfl⟩,h⟩
def Gl(X:Cx)(x:Str):Prop:=X.env.kindOf x=some .globalImplicit
def D5{σ:St}{x:Str}{pos:Pos}{Q:B2}(I:QP)(a:Qal)(hm:X.mg x=some u)(h:Q u s)
  (hd:AD x:=by decide):wpAny Qr X.A (eval Qau X.env) Q E s:=
 Calls.Name_function_global I.ok.kind a (Calls.loadGlobal_global (I.ok.glob▸I.mod.glob.keeps I.bk) hm h) hd
def qV{σ:St}{x:Str}{pos:Pos}{Q:B2}(I:QP)(b:Qal)(hm:X.mg x=none)(hv:bootBuiltins x=some u)(h:Q u s)
  (a:x≠"__name__":=by decide) (hd:AD x:=by decide):wpAny Qr X.A (eval Qau X.env) Q E s:=by
 obtain⟨mb,h1,h2⟩:=I.mod.blt;exact Calls.Name_function_global I.ok.kind b (Calls.loadGlobal_builtin (I.ok.glob▸I.mod.glob.keeps I.bk) hm (I.ok.blt▸h1.keeps I.bk) ((h2 x a).trans hv) h) hd
def K9{x:Str}{pos:Pos}(a:Qal)(hm:X.mg x=some u)(r:RelV v u)(hd:AD x:=by decide):PE X Qau (tC v):=
 λ_ _ _ H _ I h=>D5 I a hm ⟨v,H,I,r,h⟩ hd
variable{a b:Expr}{ta tb:TE}{pos:Pos}
noncomputable def tB(t:TE):TT:=λσ H Q=>t σ H λx H1=>∃c,x=.bl c/\Q c H1
def aj5{e:Expr}{t:TE}(h:PE X e t)(he:∀whole,isTrue e X.env whole=(do let v ← whole;standAt e.pos;holding [v] (truthy v)):=by intro _;rfl):PT X e (tB t):=by
 intro pins s σ H Q I hw;refine isTrue_plain (f6 (h pins s σ H _ I hw) λv s1 zz=>?_) (he _);obtain⟨x,H1,c,a,b⟩:=zz;obtain⟨d,rfl,q⟩:=b;cases a;exact FR ⟨H1,c,q⟩
variable{tA tB':TT}{rest:Cc}
noncomputable def as3(t u:TT):TT:=λσ H Q=>t σ H λc H1=>if c=true then u σ H1 Q else Q false H1
noncomputable def tOr(t u:TT):TT:=λσ H Q=>t σ H λc H1=>if c=true then Q true H1 else u σ H1 Q
noncomputable def as4(t:TT):TT:=λσ H Q=>t σ H λc H1=>Q (!c) H1
theorem VN(b:PT X a tA):PW X (.BoolOp .And [a] pos) tA:=by
 intro d pins s σ H Q I h;refine isTrue_and (f6 (b pins s σ H Q I h) λc s1 e=>?_);cases c with
 | true=>exact isTrue_and_nil e
 | false=>exact e
theorem aj6(b:PT X a tA):PW X (.BoolOp .Or [a] pos) tA:=by
 intro d pins s σ H Q I h;refine isTrue_or (f6 (b pins s σ H Q I h) λc s1 e=>?_);cases c with
 | false=>exact isTrue_or_nil e
 | true=>exact e
theorem aaq(i:PT X a tA)(g:PW X (.BoolOp .And (b::rest) pos) tB'):PW X (.BoolOp .And (a::b::rest) pos) (as3 tA tB'):=by
 intro f pins s σ H Q I h;refine isTrue_and (f6 QcY λc s1 zz=>?_);obtain⟨H1,e,d⟩:=zz;cases c with
 | true=>exact g f pins s1 σ H1 Q e d
 | false=>exact⟨H1,e,d⟩
theorem aoT(i:PT X a tA)(g:PW X (.BoolOp .Or (b::rest) pos) tB'):PW X (.BoolOp .Or (a::b::rest) pos) (tOr tA tB'):=by
 intro f pins s σ H Q I h;refine isTrue_or (f6 QcY λc s1 zz=>?_);obtain⟨H1,e,d⟩:=zz;cases c with
 | true=>exact⟨H1,e,d⟩
 | false=>exact g f pins s1 σ H1 Q e d
noncomputable def aj7(b:PT X a tA):PT X (.UnaryOp .Not a pos) (as4 tA):=λpins s σ H Q I h=>isTrue_not (b pins s σ H _ I h)
noncomputable def as5(ta tb:TE):TE:=λσ H Q=>ta σ H λx H1=>∃c,x=.bl c/\if c=true then Q (.bl true) H1 else tb σ H1 Q
noncomputable def aj8{op}{t:TE}(h:PE X a t):PE X (.BoolOp op [a] pos) t:=λpins s σ H Q I hw=>BoolOp_one (h pins s σ H Q I hw)
theorem aoU(i:PE X a ta)(g:PE X (.BoolOp .Or (b::rest) pos) tb):PE X (.BoolOp .Or (a::b::rest) pos) (as5 ta tb):=by
 intro pins s σ H Q I h;refine BoolOp_or (f6 QcY λv s1 zz=>?_);obtain⟨x,H1,e,f,d⟩:=zz;obtain⟨c,rfl,d⟩:=d;cases f;refine FR ?_;cases c with
 | false=>exact g pins s1 σ H1 Q e d
 | true=>exact⟨.bl true,H1,e,rfl,d⟩
noncomputable def tIf(t:TT)(ta tb:TE):TE:=λσ H Q=>t σ H λc H1=>if c=true then ta σ H1 Q else tb σ H1 Q
theorem aar{c:Expr}(g:PT X c tA)(j:PE X a ta)(i:PE X b tb):PE X (.IfExp c a b pos) (tIf tA ta tb):=by
 intro pins s σ H Q I h;refine wpAny_IfExp (f6 Qdp λd s1 zz=>?_);obtain⟨H1,f,e⟩:=zz;cases d with
 | true=>exact j pins s1 σ H1 Q f e
 | false=>exact i pins s1 σ H1 Q f e
end
def nT(K:Frag)(H:Hp)(a:Addr)(xs:BY):Prop:=
 Rd H a QaS ∨
  ∃(o:Obj) (its:CI) (n:Nat),K.lookup a=some o/\o.cls=.type "list" /\ o.dict=none/\o.data=.seq its n/\its.size<=sizeLine/\Vals xs its.toList
def zK(K:Frag)(H:Hp)(a:Addr)(xs:BY):Prop:=
 Rd H a Qbe ∨
  ∃(o:Obj) (its:CI) (n:Nat),K.lookup a=some o/\o.cls=.type "tuple" /\ o.data=.seq its n/\its.size<=sizeLine/\Vals xs its.toList
noncomputable def as6:Value->Option V
 | .none=>some .non
 | .bool b=>some (.bl b)
 | .int i _=>some Qaw
 | .str x _ => some Qa0
 | .bytes b _=>some (.VM b)
 | .float b _=>some (.flt b)
 | .ref a=>some Qaq
 | .type n=>some (.ty n)
 | _=>none
theorem RelV.abs{x:V}(r:RelV x u):as6 u=some x:=by
 cases x with
 | non=>cases r;rfl
 | bl _=>cases r;rfl
 | int _=>obtain⟨t,rfl⟩:=r;rfl
 | str _=>obtain⟨t,rfl⟩:=r;rfl
 | VM _=>obtain⟨t,rfl⟩:=r;rfl
 | flt _=>obtain⟨t,rfl⟩:=r;rfl
 | ref _=>cases r;rfl
 | ty _=>cases r;rfl
theorem RelV.inj{x y:V}(r:RelV x u)(q:RelV y u):x=y:=l1 (r.abs.symm.trans q.abs)
theorem Vals.inj{ys:BY}(h:Vals xs us)(q:Vals ys us):xs=ys:=by
 induction h generalizing ys with
 | nil=>cases q;rfl
 | cons r _ i=>cases q with
  | cons a t'=>rw[r.inj a,i t']
variable{σ:St}{ys:BY}{K:Frag}
theorem nT.of(h:H a=some QaS):nT K H a xs:=.inl (.inl h)
theorem zK.of(h:H a=some Qbe):zK K H a xs:=.inl (.inl h)
theorem Inv.list(I:QP)(h:nT X.K H a xs):∃its:B0,Vals xs its/\PlainL s.heap a its.toArray/\xs.length<=sizeLine:=by
 obtain h|⟨o,its,n,b,c,hd,hs,hz,r⟩:=h
 .obtain⟨z,its,n,r,e⟩:=h.ok I.f7;exact⟨its,r,⟨_,n,e,rfl,rfl,rfl⟩,z⟩
 .refine⟨ _,r,⟨o,n,I.OO a o b,c,hd,‹_› ⟩,?_⟩;have e:=r.length;grind
theorem Inv.tuple(I:QP)(h:zK X.K H a xs):∃its:B0,Vals xs its/\IsTup s.heap a its.toArray/\xs.length<=sizeLine:=by
 obtain h|⟨o,its,n,b,c,hs,hz,r⟩:=h
 .obtain⟨z,its,r,p⟩:=h.ok I.f7;exact⟨its,r,p,z⟩
 .refine⟨ _,r,⟨o,I.OO a o b,c,n,‹_› ⟩,?_⟩;have e:=r.length;grind
theorem Inv.EY(I:QP)(h:nT X.K H a xs)(h':nT X.K H a ys):xs=ys:=by
 obtain⟨its,r,⟨o,n,e,_,_,d⟩,_⟩:=I.list h;obtain⟨f,c,⟨o',g,b,_,_,d'⟩,_⟩:=I.list h';rw[e]at b;cases b;rw[d]at d';injection d' with d1 _;have:its=f:=by simp_all
 subst this;exact r.inj c
theorem Inv.XE(I:QP)(h:zK X.K H a xs)(h':zK X.K H a ys):xs=ys:=by
 obtain⟨its,r,⟨o,e,_,n,d⟩,_⟩:=I.tuple h;obtain⟨f,c,⟨o',b,_,g,d'⟩,_⟩:=I.tuple h';rw[e]at b;cases b;rw[d]at d';injection d' with d1 _;have:its=f:=by simp_all
 subst this;exact r.inj c
noncomputable abbrev Cx.l8(X:Cx)(E:B2):Cx:={X with xe:=E}
abbrev Cx.La(X:Cx):Cx:=X.l8 λ_ _=>False
theorem Cx.Ok.l8(ok:X.Ok)(E:B2):(X.l8 E).Ok:=
 ⟨ok.mod,ok.kind,ok.glob,ok.blt,ok.above,ok.inj,ok.has,ok.zr,ok.hd,ok.frames,ok.Hd,ok.OE,ok.bs,ok.pj,ok.Bq,ok.Iy,ok.Dv,ok.u3⟩
theorem Cx.Ok.vj(ok:(X.l8 E).Ok):X.Ok:=
 ⟨ok.mod,ok.kind,ok.glob,ok.blt,ok.above,ok.inj,ok.has,ok.zr,ok.hd,ok.frames,ok.Hd,ok.OE,ok.bs,ok.pj,ok.Bq,ok.Iy,ok.Dv,ok.u3⟩
theorem Inv.l8(I:QP)(E:B2):Inv (X.l8 E) pins σ H s:=⟨I.ok.l8 E,I.os,I.bare,I.base,I.loc,I.cell,I.free,I.vh,I.pin,I.f7,I.len⟩
theorem Inv.vj(I:Inv (X.l8 E) pins σ H s):Inv X pins σ H s:=⟨I.ok.vj,I.os,I.bare,I.base,I.loc,I.cell,I.free,I.vh,I.pin,I.f7,I.len⟩
theorem SP.vj{D:Ends}{f:Flow}{s':Qb}(h:SP (X.l8 E) pins D f s'):SP X pins D f s':=by
 cases f with
 | next=>obtain⟨σ',H',I,q⟩:=h;exact⟨σ',H',I.vj,q⟩
 | brk=>obtain⟨σ',H',I,q⟩:=h;exact⟨σ',H',I.vj,q⟩
 | cont=>obtain⟨σ',H',I,q⟩:=h;exact⟨σ',H',I.vj,q⟩
 | ret u=>obtain⟨v,σ',H',I,r,q⟩:=h;exact⟨v,σ',H',I.vj,r,q⟩
theorem R1.La{st:Co}{t:TS}(h:R1 X.La st t):R1 X st t:=λpins s σ H D I hw=>
 m3 (h pins s σ H D (I.l8 _) hw) (λ_ _ q=>q.vj) λ_ _ z=>False.elim z
section
variable{st:Stmt}{rest:Co}{t u:TS}{e:Expr}{te:TE}{pos:Pos}
def aoV:TS:=λD σ H=>D.nx σ H
noncomputable def as7(t u:TS):TS:=λD σ H=>t {D with nx:=u D} σ H
noncomputable def afm:R1 X [] aoV:=λ_ _ σ H _ I h=>wpAny_execs_nil ⟨σ,H,I,h⟩
theorem aas(h1:PS X st t)(h2:R1 X rest u):R1 X (st::rest) (as7 t u):=by
 intro pins s σ H D I h;refine wpAny_execs_cons (f6 (h1 pins s σ H _ I h) λf s1 q=>?_);cases f with
 | next=>
  obtain⟨σ',H',a,q⟩:=q;exact h2 pins s1 σ' H' D a q
 | ret v=>exact q
 | brk=>exact q
 | cont=>exact q
def aj9:TS:=λD σ H=>D.bk σ H
def aoW:TS:=λD σ H=>D.ct σ H
noncomputable def aat:PS X (.Break pos) aj9:=λ_ _ σ H _ I h=>wpAny_Break ⟨σ,H,I,h⟩
noncomputable def O2:PS X (.Continue pos) aoW:=λ_ _ σ H _ I h=>wpAny_Continue ⟨σ,H,I,h⟩
theorem Inv.quiet(I:QP):interactive X.env=false:=by simp[interactive,I.ok.kind]
noncomputable def aoX(te:TE):TS:=λD σ H=>te σ H λ_ H1=>D.nx σ H1
def D6(he:PE X e te)(hs:QeA:=by rfl):PS X (.Expr e pos) (aoX te):=λpins s σ H D I h=>wpAny_Expr_any (f6 Qbz λv s1 ⟨x,H1,b,c,a⟩=>⟨σ,H1,b,a⟩) I.quiet hs
noncomputable def as8(te:TE):TS:=λD σ H=>te σ H D.rt
def aau(he:PE X e te):PS X (.Return (some e) pos) (as8 te):=λpins s σ H D I h=>wpAny_Return_some (f6 Qbz λv s1 ⟨x,H1,c,a,b⟩=>⟨x,σ,H1,c,a,b⟩)
noncomputable def as9(c:TT)(t u:TS):TS:=λD σ H=>c σ H λb H1=>if b=true then t D σ H1 else u D σ H1
theorem S1{c:Expr}{a b:Co}{e:TT}(i:PT X c e)(k:R1 X a t)(j:R1 X b u):PS X (.If c a b pos) (as9 e t u):=by
 intro pins s σ H D I h;refine wpAny_If (f6 QcY λd s1 zz=>?_);obtain⟨H1,g,f⟩:=zz;cases d with
 | true=>exact k pins s1 σ H1 D g f
 | false=>exact j pins s1 σ H1 D g f
end
abbrev TG:=V->St->Hp->(St->Hp->Prop)->Prop
abbrev wq:=BY->St->Hp->(St->Hp->Prop)->Prop
def PG(X:Cx)(target:Expr)(t:TG):Prop:=
 ∀(pins:BM) (s:Qb) (σ:St) (H:Hp) (v:V) (u:Value) (Q:St->Hp->Prop),Inv X pins σ H s->RelV v u->t v σ H Q →
  wpAny Qr X.A (assign target X.env u) (λ_ s'=>∃σ' H',Inv X pins σ' H' s'/\Q σ' H') X.xe s
def Kk(X:Cx)(ts:Cc)(t:wq):Prop:=
 ∀(pins:BM) (s:Qb) (σ:St) (H:Hp) (vs:BY) (us:B0) (Q:St->Hp->Prop),Inv X pins σ H s->Vals vs us->t vs σ H Q →
  wpAny Qr X.A (assignInOrder ((assignEach ts X.env).map (·.2)) us) (λ_ s'=>∃σ' H',Inv X pins σ' H' s'/\Q σ' H') X.xe s
abbrev LO:=V->V->V->Hp->(Hp->Prop)->Prop
def Pw(X:Cx)(t:LO):Prop:=
 ∀(pins:BM) (s:Qb) (σ:St) (H:Hp) (o i v:V) (a b u:Value) (Q:Hp->Prop),Inv X pins σ H s->RelV o a->RelV i b->RelV v u->t o i v H Q →
  wpAny Qr X.A (setItem a b u) (λ_ s'=>∃H',Inv X pins σ H' s'/\Q H') X.xe s
abbrev Kj:=V->V->Hp->VK->Prop
def PIp(X:Cx)(op:Operator)(t:Kj):Prop:=
 ∀(pins:BM) (s:Qb) (σ:St) (H:Hp) (x y:V) (v u:Value) (Q:VK),Inv X pins σ H s->RelV x v->RelV y u->t x y H Q →
  wpAny Qr X.A (inplaceOp op v u) Qa2 X.xe s
variable{pos:Pos}
noncomputable def JZ(i:Nat):TG:=λv σ H Q=>Q (σ.set i Qav) H
def tM{x:Str}(b:X.N.Nodup)(hi:X.N[i]? = some x)(a:Qck)(hf:AM X x:=by first|exact .inl rfl|exact .inr rfl|assumption):PG X Qau (JZ i):=λpins s σ H v u Q I r h=>wpAny_assign_Name (EX I b hi a r (λs' c=>⟨_,H,c,h⟩) hf)
noncomputable def Pt:wq:=λvs σ H Q=>vs=[]/\Q σ H
noncomputable def Nd(t:TG)(u:wq):wq:=λvs σ H Q=>∃v r,vs=v::r/\t v σ H λσ' H'=>u r σ' H' Q
def afn:Kk X [] Pt:=by
 intro pins s σ H vs us Q I r h;obtain⟨e,h⟩:=h;exact assignInOrder_nil ⟨σ,H,I,h⟩
variable{es:Cc}
def O4{e:Expr}{t:TG}{u:wq}(h1:PG X e t)(h2:Kk X es u)
  (hs:(assignEach Qaa X.env).map (·.2)=assign e X.env::(assignEach es X.env).map (·.2):=by rfl):Kk X Qaa (Nd t u):=by
 intro pins s σ H vs us Q I r h;obtain⟨v,f,e1,h⟩:=h;subst e1;cases r with
 | cons r b=>
  rw[hs];refine assignInOrder_cons (f6 (h1 pins s σ H _ _ _ I r h) λ_ s1 zz=>?_);obtain⟨a,H1,d,c⟩:=zz;exact h2 pins s1 a H1 _ _ Q d b c
noncomputable def PM(K:Frag)(n:Nat)(t:wq):TG:=λv σ H Q=>∃a xs,v=.ref a/\zK K H a xs/\xs.length=n/\t xs σ H Q
variable{k:Nat}
def akc{t:wq}{n:Nat}(m:QaK)(h:Kk X es t)
  (j:(assignEach es X.env).length=n:=by rfl) (d:(assignEach es X.env).findIdx? (·.1)=none:=by rfl):PG X (.Tuple es k pos) (PM X.K n t):=by
 intro pins s σ H v u Q I r hw;obtain⟨a,xs,e1,i,l,hw⟩:=hw;subst e1;cases r;obtain⟨its,c,g,hz⟩:=I.tuple i;refine assign_Tuple_tuple (I.ok.hd m) g (by simp[j,← l,c.length]) d λh' f=>?_;have p:=I.kept (t':=s.toks) λb o e=>f b o (k4 (ke e)) e;exact h pins _ σ H xs _ Q p (‹_›) hw
noncomputable def ata(to a:TE)(t:LO):TG:=λv σ H Q=>to σ H λo H1=>a σ H1 λi H2=>t o i v H2 λb=>Q σ b
def akd{o i:Expr}{to a:TE}{t:LO}(g:PE X o to)(hi:PE X i a)(hs:Pw X t)
  (n:∀v,assign (.Subscript o i pos) X.env v=(do
   let U ← holding [v] (eval o X.env)
   let iv ← holding [v,U] (eval i X.env)
   standAt pos
   holding [v,U,iv] (setItem U iv v)
   release [v,U,iv] []):=by intro _;rfl):PG X (.Subscript o i pos) (ata to a t):=by
 intro pins s σ H v u Q I r h;refine i9 (x1 (f6 Qdp λU s1 zz=>?_));obtain⟨x,H1,l,c,f⟩:=zz;refine i9 (x1 (f6 (hi pins s1 σ H1 _ l f) λiv s2 zz=>?_));obtain⟨y,H2,k,b,e⟩:=zz;refine i9 (GG (i9 (x1 (f6 (hs pins s2 σ H2 x y v U iv u _ k c b r e) λ_ s3 zz=>?_))));obtain⟨m,j,d⟩:=zz;exact wpAny_release ⟨σ,m,j,d⟩
noncomputable def PL(te:TE)(g:TG):TS:=λD σ H=>te σ H λx H1=>g x σ H1 D.nx
variable{tg:Expr}{te:TE}
def ake{e:Expr}{g:TG}(he:PE X e te)(c:PG X tg g)(hs:swapsWithSole [tg] e pos.line X.env=pure false:=by rfl)(hw:swappedStores [tg] e X.env=pure none:=by rfl)
  (h1:(assignEach [tg] X.env).map (·.2)=[assign tg X.env]:=by rfl):PS X (.Assign [tg] e pos) (PL te g):=by
 intro pins s σ H D I h;refine wpAny_Assign_stores (f6 Qbz λv s1 zz=>?_) hs hw;obtain⟨x,H1,d,a,b⟩:=zz;rw[h1];exact f6 (c pins s1 σ H1 x v _ d a b) λ_ s2 q=>q
def aaw{x:Str}{e:Expr}{pos':Pos}(d:X.N.Nodup)(hi:X.N[i]? = some x)(c:Qck)(he:PE X e te)(hs:Qc8:=by rfl)(hf:AM X x:=by first|exact .inl rfl|exact .inr rfl|assumption) :
  PS X (.Assign [.Name x pos'] e pos) (PL te (JZ i)):=by
 intro pins s σ H D I h;refine wpAny_Assign_Name (f6 Qbz λv s1 zz=>?_) hs;obtain⟨y,H1,g,a,b⟩:=zz;exact EX g d hi c a (λs2 f=>⟨_,H1,f,b⟩) hf
noncomputable def atb(i:Nat)(te:TE)(a:Kj):TS:=λD σ H=>∃x,σ[i]? = some (some x)/\te σ H λy H1=>a x y H1 λz H2=>D.nx (σ.set i (some z)) H2
theorem akf{x:Str}{e:Expr}{op:Operator}{j:Kj}{pos':Pos}(G:X.N.Nodup)(hi:X.N[i]? = some x)(g:Qck)(he:PE X e te)(B:PIp X op j)(hf:AM X x:=by first|exact .inl rfl|exact .inr rfl|assumption) :
  PS X (.AugAssign QbA op e pos) (atb i te j):=by
 intro pins s σ H D I h;obtain⟨v,e1,h⟩:=h;obtain⟨m,C,E⟩:=I.loc;have f:tj X.env.scope x:=by obtain k|k:=g;exact .inl k;exact .inr (.inl k)
 obtain⟨u,r,l⟩:=E i x v hi e1 f;refine wpAny_AugAssign_Name ?_;have go:wpAny Qr X.A (eval e X.env) (λw d=>wpAny Qr X.A (inplaceOp op u w) (λr b=>wpAny Qr X.A (storeName X.env x r) (λ_=>SP X pins D .next) X.xe b) X.xe d) X.xe s:=by
  refine f6 Qbz λw s1 zz=>?_;obtain⟨y,H1,L,p,t⟩:=zz;refine f6 (B pins s1 σ H1 v y u w _ L r p t) λz s2 zz=>?_;obtain⟨M,H2,K,o,q⟩:=zz;exact EX K G hi g o (λs3 J=>⟨_,H2,J,q⟩) hf
 obtain⟨a,hm⟩|⟨a,c,F,n⟩:=l
 .exact wpAny_loadName_local I.ok.kind a C hm go
 .obtain a|a:=a
  .exact wpAny_loadName_cell I.ok.kind a F n go
  .obtain k|k:=g
   .have:X.env.scope.names.lookup x=some _:=a;simp_all
   .have:X.env.scope.names.lookup x=some _:=a;simp_all
noncomputable def ipI(f:Int->Int->Int):Kj:=λx y H Q=>∃i j,x=.int i/\y=.int j/\Q (.int (f i j)) H
def akg:PIp X .Add (ipI λi j=>i+j):=by
 intro pins s σ H x y v u Q I b a h;obtain⟨i,j,e1,e2,q⟩:=h;subst e1;subst e2;obtain⟨t,rfl⟩:=b;obtain⟨t',rfl⟩:=a;exact iadd_int ⟨.int _,H,I.tok _,⟨_,rfl⟩,q⟩
noncomputable def akh(c:TT)(tb:TS):TS:=λD σ H=>∃W:Nat->St->Hp->Prop,(∃m,W m σ H)/\∀m σ H,W m σ H →
 c σ H λb H1=>if b=true then ∃N:St->Hp->Prop,(∀σ' H',N σ' H'->∃a,a<m/\W a σ' H')/\tb {D with nx:=N,ct:=N,bk:=D.nx} σ H1 else D.nx σ H1
variable{c:Expr}
theorem aax{body:Co}{o:TT}{tb:TS}(p:Qd3)(u:PT X c o)(x:R1 X body tb):PS X (.While c body [] pos) (akh o tb):=by
 intro pins s σ H D I h;obtain⟨W,⟨m0,w0⟩,turn⟩:=h;refine wpAny_While (codeAny_whileLoop (λn s'=>∃σ' H',Inv X pins σ' H' s'/\W n σ' H') ?_ m0 ⟨σ,H,I,w0⟩);rintro n s1 ⟨d,H1,y,t⟩;refine vl p (f6 (u pins s1 d H1 _ y (turn n d H1 t)) λb s2 zz=>?_);obtain⟨H2,r,i⟩:=zz;cases b with
 | true=>
  obtain⟨N,q,i⟩:=i;refine vl p (f6 (x pins s2 d H2 _ r i) λf s3 g=>?_);cases f with
  | next=>
   obtain⟨a,e,m,k⟩:=g;obtain⟨l,hm,j⟩:=q a e k;exact⟨l,hm,a,e,m,j⟩
  | cont=>
   obtain⟨a,e,m,k⟩:=g;obtain⟨l,hm,j⟩:=q a e k;exact⟨l,hm,a,e,m,j⟩
  | brk=>exact g
  | ret v=>exact g
 | false=>
  exact wpAny_execs_nil ⟨d,H2,r,i⟩
structure It where
 go:Nat->Hp->Prop
 o1:Nat->Hp->V->Hp->Prop
 stop:Nat->Hp->Prop
def oM(X:Cx)(pins:BM)(H:Hp)(b:Addr):Prop:=
 H b=none/\b≠X.env.locals/\b∉X.fs/\QeF/\(∀x c,X.env.cells.lookup x=some c->c≠b)/\∀p∈X.pn++pins,p.1≠b
theorem Inv.Iq(I:QP)(a:s.heap.objs.size<=b)(f:H' b=none):oM X pins H' b:=by
 refine⟨f,Nat.ne_of_gt (mu I.lt a),I.asW a,.inr (kM I.sz a),λx c e z=>?_,λp d z=>?_⟩
 .obtain⟨v,q⟩:=I.cell x c e;exact absurd (mu q.lt (z▸a)) (vx _)
 .exact absurd (mu (ke (I.pin p d).1) (z▸a)) (vx _)
structure Turn(P:Qax)(w:World)(K:Frag)(tg:Expr)(J:It)(fp:BS)(it:Addr)(tn:Nat->Heap->Prop):Prop where
 mem:it∈fp
 obj:∀i h,tn i h->∀b∈fp,∃o,h.get? b=some o/\∀v,o.data ≠ .cell v
 keep:∀i h h',tn i h->(∀b∈fp,∀o,h.get? b=some o->h'.get? b=some o)->tn i h'
 item:∀(X:Cx),X.prog=P->X.w=w->X.K=K->X.calm=true->∀(i:Nat) (pins:BM) (s:Qb) (σ:St) (H:Hp) (E:B2),Inv X pins σ H s->(∀b∈fp,oM X pins H b)->tn i s.heap->J.go i H →
  wpAny (model P w) X.A (pyNext Qbw) (λr s1=>∃u,r=some u ∧
   wpAny (model P w) X.A (letOwnedTupleGo tg Qbw u) (λ_ s2=>∃x H',Inv X pins σ H' s2/\RelV x u/\J.o1 i H x H'/\tn (i+1) s2.heap/\∀b∈fp,H' b=none) E s1) E s
 done:∀(X:Cx),X.prog=P->X.w=w->X.K=K->X.calm=true->∀(i:Nat) (pins:BM) (s:Qb) (σ:St) (H:Hp) (E:B2),Inv X pins σ H s->(∀b∈fp,oM X pins H b)->tn i s.heap->J.stop i H →
  wpAny (model P w) X.A (pyNext Qbw) (λr s1=>r=none/\Inv X pins σ H s1) E s
 self:∀(A:Qat) (i:Nat) (s:Qb) (Q:B2) (E:B2),tn i s.heap->Q Qbw s->wpAny (model P w) A (pyIter Qbw) Q E s
abbrev TI:=St->Hp->(It->Hp->Prop)->Prop
def PIE(X:Cx)(pins:BM)(σ:St)(tg:Expr)(R:It->Hp->Prop)(a:Value)(s2:Qb):Prop:=
 ∃(it:Addr) (fp:BS) (tn:Nat->Heap->Prop) (J:It) (H':Hp),a=.ref it/\Inv X pins σ H' s2/\Turn X.prog X.w X.K tg J fp it tn/\tn 0 s2.heap/\(∀b∈fp,oM X pins H' b)/\R J H'
def PI(X:Cx)(tg iter:Expr)(a:TI):Prop:=
 ∀(pins:BM) (s:Qb) (σ:St) (H:Hp) (R:It->Hp->Prop),Inv X pins σ H s->a σ H R →
  wpAny Qr X.A (eval iter X.env) (λv s1=>wpAny Qr X.A (pyIter v) (PIE X pins σ tg R) X.xe s1) X.xe s
def VP{it:Addr}{o:Obj}{n:String}{vs:CI}(a:s.heap.get? it=some o)(c:o.cls=.type n)(hd:o.data=.fields vs)
  (b:["enumerate","zip","dict_itemiterator","dict_reverseitemiterator","odict_iterator","itertools.zip_longest","itertools.pairwise"].contains n=false) (hQ:Q () s):wpAny M A (letOwnedTupleGo tg Qbw u) Q E s:=by
 cases tg<;>first
  | exact kA hQ
  | (cases u<;>first
    | exact kA hQ
    | (refine i9 (wpAny_load a ?_)
       rw[c,hd];show wpAny M A (if (["enumerate","zip","dict_itemiterator","dict_reverseitemiterator","odict_iterator","itertools.zip_longest","itertools.pairwise"].contains n&&vs[0]? == some _)=true then _ else _) Q E s;rw[dP (by intro h;rw[b]at h;cases h)];exact kA hQ))
noncomputable def Itl(K:Frag)(a:Addr):It:=
 ⟨λi H=>∃xs x,nT K H a xs/\xs[i]? = some x,λi H x H'=>H'=H/\∀xs,nT K H a xs->xs[i]? = some x,λi H=>∃xs,nT K H a xs/\xs.length<=i⟩
noncomputable def Itt(K:Frag)(a:Addr):It:=
 ⟨λi H=>∃xs x,zK K H a xs/\xs[i]? = some x,λi H x H'=>H'=H/\∀xs,zK K H a xs->xs[i]? = some x,λi H=>∃xs,zK K H a xs/\xs.length<=i⟩
noncomputable def Ha(lo:Int)(n:Nat):It:=⟨λi _=>i<n,λi H x H'=>H'=H/\x=.int (lo+i),λi _=>n<=i⟩
theorem XF(a it:Addr):Turn P w K tg (Itl K a) [it] it (λi h=>h.IsListIter it a i) where
 mem:=by simp
 obj:=λi h st b f=>by
  have e:b=it:=by simpa using f
  subst e;obtain⟨o,e,c,d⟩:=st;simp_all
 keep:=λi h h' st k=>st.at λo e=>k it Wm o e
 item:=by
  intro X n hw q v i pins s σ H E I hf st m;subst n hw q;obtain⟨xs,x,g,l⟩:=m;obtain⟨its,j,p,hz⟩:=I.list g;obtain⟨u,C,A⟩:=j.get l;obtain⟨f0,f1,f2,t,f4,r⟩:=hf it Wm;refine wpAny_pyNext_list_item st p.isList (x:=u) (by simpa using C) λh' y z=>?_;have F:=I.turned (t':=s.toks) (λb o f e=>(z.2 b f).trans e) f0 f1 t f4 r;obtain⟨o,e,c,d⟩:=id y;exact⟨u,rfl,VP (s:={s with heap:=h'}) e c d Wl ⟨x,H,F,A,⟨rfl,λys B=>by rw[I.EY B g];exact l⟩,y,λb f=>(hf b f).1⟩⟩
 done:=by
  intro X n hw q v i pins s σ H E I hf st m;subst n hw q;obtain⟨xs,g,l⟩:=m;obtain⟨its,j,p,hz⟩:=I.list g;obtain⟨f0,f1,f2,t,f4,r⟩:=hf it Wm;have G:=j.length;exact wpAny_pyNext_list_end (I.ok.hd v) st p.isList WE λh' D=>⟨rfl,I.turned (t':=s.toks) (λb o f e=>D b o f e) f0 f1 t f4 r⟩
 self:=λ_ _ _ _ _ st h=>wpAny_pyIter_listiter st h
theorem R3(a it:Addr):Turn P w K tg (Itt K a) [it] it (λi h=>h.IsTupleIter it a i) where
 mem:=by simp
 obj:=λi h st b f=>by
  have e:b=it:=by simpa using f
  subst e;obtain⟨o,e,c,d⟩:=st;simp_all
 keep:=λi h h' st k=>st.at λo e=>k it Wm o e
 item:=by
  intro X n hw q v i pins s σ H E I hf st m;subst n hw q;obtain⟨xs,x,g,l⟩:=m;obtain⟨its,j,p,hz⟩:=I.tuple g;obtain⟨u,C,A⟩:=j.get l;obtain⟨f0,f1,f2,t,f4,r⟩:=hf it Wm;refine wpAny_pyNext_tuple_item st (p) (x:=u) (by simpa using C) λh' y z=>?_;have F:=I.turned (t':=s.toks) (λb o f e=>(z.2 b f).trans e) f0 f1 t f4 r;obtain⟨o,e,c,d⟩:=id y;exact⟨u,rfl,VP (s:={s with heap:=h'}) e c d Wl ⟨x,H,F,A,⟨rfl,λys B=>by rw[I.XE B g];exact l⟩,y,λb f=>(hf b f).1⟩⟩
 done:=by
  intro X n hw q v i pins s σ H E I hf st m;subst n hw q;obtain⟨xs,g,l⟩:=m;obtain⟨its,j,p,hz⟩:=I.tuple g;obtain⟨f0,f1,f2,t,f4,r⟩:=hf it Wm;have G:=j.length;exact wpAny_pyNext_tuple_end (I.ok.hd v) st (p) WE λh' D=>⟨rfl,I.turned (t':=s.toks) (λb o f e=>D b o f e) f0 f1 t f4 r⟩
 self:=λ_ _ _ _ _ st h=>wpAny_pyIter_tupleiter st h
theorem R4(it:Addr)(lo:Int)(n:Nat):Turn P w K tg (Ha lo n) [it] it (λi h=>IsRangeIter h it (lo+(i:Nat)*1) ((n:Int)-(i:Nat)) 1) where
 mem:=by simp
 obj:=λi h st b a=>by simp_all
 keep:=λi h h' st k=>k it Wm _ st
 item:=by
  intro X j hw l d i pins s σ H E I hf st c;subst j hw l;obtain⟨f0,f1,f2,g,f4,f⟩:=hf it Wm;have W:=Walks.range (prog:=X.prog) (w:=X.w) (I.ok.hd d) it lo 1 n;refine W.item i s _ _ c st λv h' tk hv m kk=>?_;obtain⟨t,rfl⟩:=hv;have q:Inv X pins σ H {s with heap:=h',toks:=tk}:=I.turned (λb o a e=>kk b o (by simpa using a) e) f0 f1 g f4 f;refine⟨_,rfl,VP m rfl rfl Wl ⟨.int (lo+i),H,q,⟨t,?_⟩,⟨rfl,rfl⟩,m,λb a=>(hf b a).1⟩⟩;rw[Int.mul_one]
 done:=by
  intro X j hw l d i pins s σ H E I hf st c;obtain⟨f0,f1,f2,g,f4,f⟩:=hf it Wm;exact wpAny_pyNext_range_end (I.ok.hd d) st (by have:n<=i:=c;lia) λh' p=>⟨rfl,I.turned (p) f0 f1 g f4 f⟩
 self:=λ_ _ _ _ _ st h=>wpAny_pyIter_rangeiter st h
def ao3(K:Frag)(tl:TE):TI:=λσ H R=>tl σ H λx H1=>∃a,x=.ref a/\(∃xs,nT K H1 a xs)/\R (Itl K a) H1
def atc(K:Frag)(tl:TE):TI:=λσ H R=>tl σ H λx H1=>∃a,x=.ref a/\(∃xs,zK K H1 a xs)/\R (Itt K a) H1
def VQ{l:Expr}{tl:TE}(i:PE X l tl):PI X tg l (ao3 X.K tl):=by
 intro pins s σ H R I h;refine f6 QcY λv s1 zz=>?_;obtain⟨x,H1,c,d,f⟩:=zz;obtain⟨a,e,⟨xs,g⟩,q⟩:=f;subst e;cases d;obtain⟨its,k,p,hz⟩:=c.list g;refine wpAny_pyIter_list p.isList ?_;refine⟨ _,_,_,_,H1,rfl,c.kept λb o e=>kv _ e,XF a _,⟨_,mi _ rfl,rfl,rfl⟩,λb j=>?_,q⟩;have e:=by simpa using j
 subst e;exact c.Iq (i5 _) (c.f7.fresh (i5 _))
def aki{l:Expr}{tl:TE}(i:PE X l tl):PI X tg l (atc X.K tl):=by
 intro pins s σ H R I h;refine f6 QcY λv s1 zz=>?_;obtain⟨x,H1,c,d,f⟩:=zz;obtain⟨a,e,⟨xs,g⟩,q⟩:=f;subst e;cases d;obtain⟨its,k,p,hz⟩:=c.tuple g;refine wpAny_pyIter_tuple (p) ?_;refine⟨ _,_,_,_,H1,rfl,c.kept λb o e=>kv _ e,R3 a _,⟨_,mi _ rfl,rfl,rfl⟩,λb j=>?_,q⟩;have e:=by simpa using j
 subst e;exact c.Iq (i5 _) (c.f7.fresh (i5 _))
theorem O5{R:It->Hp->Prop}{lo hi:Int}{t u v:Tok}{tk:Nat}(I:QP)(h1:-(2 ^ 62)<=lo)(h2:lo<2 ^ 62)(d:-(2 ^ 62)<=hi)(c:hi<2 ^ 62)
  (q:R (Ha lo (hi-lo).toNat) H):wpAny Qr X.A (pyIter QcU) (PIE X pins σ tg R) E {s with heap:=s.heap.push {cls:=.type "range",data:=.fields #[.int lo t,.int hi u,.int 1 v]},toks:=tk}:=by
 refine wpAny_pyIter_range (IsRange.new ..) (small_one h1 h2 d c) ?_;have a:Inv X pins σ H {s with heap:=s.heap.push {cls:=.type "range",data:=.fields #[.int lo t,.int hi u,.int 1 v]},toks:=tk}:=I.kept λb o e=>kv _ e;refine⟨ _,_,_,_,H,rfl,
  a.kept λb o e=>kv _ e,R4 _ lo _,?_,λb f=>?_,q⟩
 .have e1:lo+((0:Nat))*1=lo:=by simp
  have e2:(((hi-lo).toNat))-((0:Nat))=Builtin.Range.rangeSize lo hi 1:=by rw[rangeSize_one];grind
  rw[e1,e2];exact mi _ rfl
 .have e:b=(s.heap.push {cls:=.type "range",data:=.fields #[.int lo t,.int hi u,.int 1 v]}).objs.size:=by simp_all
  subst e;exact a.Iq (i5 _) (a.f7.fresh (i5 _))
def ao4(ta:TA):TI:=λσ H R=>ta σ H λvs H1=>∃j:Int,vs=[.int j] /\ -(2 ^ 62)<=j/\j<2 ^ 62/\R (Ha 0 j.toNat) H1
def ao5(ta:TA):TI:=λσ H R=>ta σ H λvs H1=>∃i j:Int,vs=[.int i,.int j]/\(-(2 ^ 62)<=i/\i<2 ^ 62 /\ -(2 ^ 62)<=j/\j<2 ^ 62)/\R (Ha i (j-i).toNat) H1
variable{p:Pos}
theorem J1{a:Expr}{ta:TA}(g:Gl X "range")(hm:Qcl)(i:PA X [a] ta)(hs:starEach [a] X.env=[(false,eval a X.env)]:=by rfl):PI X tg (.Call (.Name "range" p) [a] [] pos) (ao4 ta):=by
 intro pins s σ H R I h;refine Call_ (qV I g hm boot_range (vT (f6 (i pos pins s σ H _ I h) λus s1 zz=>?_) hs rfl));obtain⟨vs,H1,k,d,b⟩:=zz;obtain⟨j,e,b,f,q⟩:=b;subst e;cases d with
 | cons r c=>
  cases c;obtain⟨t,rfl⟩:=r;exact call_range_1 (O5 k Wc Wc b f Wp)
theorem XG{a b:Expr}{ta:TA}(n:Gl X "range")(hm:Qcl)(o:PA X [a,b] ta)(hs:AR X a b:=by rfl)(u:starEach [b] X.env=[(false,eval b X.env)]:=by rfl) :
  PI X tg (.Call (.Name "range" p) [a,b] [] pos) (ao5 ta):=by
 intro pins s σ H R I h;refine Call_ (qV I n hm boot_range (vT (f6 (o pos pins s σ H _ I h) λus s1 zz=>?_) Wp (by rw[u];rfl)));obtain⟨vs,H1,v,f,d⟩:=zz;obtain⟨i,j,e,⟨d,m,l,k⟩,q⟩:=d;subst e;cases f with
 | cons r c=>
  cases c with
  | cons g c=>
   cases c;obtain⟨t,rfl⟩:=r;obtain⟨t',rfl⟩:=g;exact call_range_2 (O5 v d m l k q)
abbrev _root_.D1:=Nat->Nat
noncomputable def atd(c:TI)(g:TG)(tb:TS):TS:=λD σ H=>c σ H λJ H1=>∃W:Nat->Nat->St->Hp->Prop,(∃m,W 0 m σ H1)/\∀i m σ H,W i m σ H →
 (J.stop i H/\D.nx σ H)\/(J.go i H/\∃N:St->Hp->Prop,(∀σ' H',N σ' H'->∃b,b<m/\W (i+1) b σ' H')/\∀x H',J.o1 i H x H'->g x σ H' λa H2=>tb {D with nx:=N,ct:=N,bk:=D.nx} a H2)
noncomputable def EZ(fp:BS)(h:Heap):BM:=fp.filterMap λb=>(h.get? b).map λo=>(b,o)
def lN{fp:BS}{o:Obj}(a:b∈fp)(e:h.get? b=some o):(b,o)∈EZ fp h:=List.mem_filterMap.2 ⟨b,a,by rw[e];rfl⟩
theorem XH{fp:BS}{p:Addr×Obj}(a:p∈EZ fp h):p.1∈fp/\h.get? p.1=some p.2:=by
 obtain⟨b,c,e⟩:=List.mem_filterMap.1 a;cases q:h.get? b with
 | none=>rw[q]at e;cases e
 | some o=>
  rw[q]at e;have d:=l1 e;subst d;exact⟨c,q⟩
theorem Inv.pinned{fp:BS}(I:QP)(hf:∀b∈fp,oM X pins H b)(g:∀b∈fp,∃o,s.heap.get? b=some o/\∀v,o.data ≠ .cell v):Inv X (pins++EZ fp s.heap) σ H s:=
 I.wW λp f=>(i3.1 f).elim (λz=>I.pin p (js _ z)) λz=>by
  obtain⟨a,e⟩:=XH z;obtain⟨f0,f1,f2,_⟩:=hf p.1 a;obtain⟨o,c,d⟩:=g p.1 a;rw[e]at c;cases c;exact⟨e,f0,f1,f2,d⟩
theorem Inv.vm{pl:BM}(I:Inv X (pins++pl) σ H s):Inv X pins σ H s:=I.wW λp a=>I.pin p (js _ (j1 _ a))
def aay{iter:Expr}{body:Co}{O:TI}{g:TG}{tb:TS}(z:Qd3)(P:QaK)(hi:PI X tg iter O)(hg:PG X tg g)(k:R1 X body tb)
  (hs:AN X iter:=by intro _;rfl):PS X (.For tg iter body [] pos) (atd O g tb):=by
 intro pins s σ H D I h;refine wpAny_For (f6 (hi pins s σ H _ I h) λv s1 h1=>f6 h1 λaa s2 h2=>?_) hs;obtain⟨it,fp,tn,J,H2,e,I2,T,F,f2,W,⟨m0,w0⟩,turn⟩:=h2;subst e;have j:∀{H':Hp},(∀b∈fp,H' b=none)->∀b∈fp,oM X pins H' b:=λhn b k=>⟨hn b k,(f2 b k).2⟩;refine codeAny_forLoop_any (λn s'=>∃i σ' H',Inv X pins σ' H' s'/\tn i s'.heap/\(∀b∈fp,H' b=none)/\W i n σ' H') ?_ m0 ⟨0,σ,H2,I2,F,λb k=>(f2 b k).1,w0⟩;rintro n s3 ⟨i,c,C,R,t,B,Z⟩;obtain⟨stop,qn⟩|⟨go,N,hN,step⟩:=turn i n c C Z
 .refine vl z (f6 (T.done X rfl rfl rfl P i pins s3 c C X.xe R (j B) t stop) λr s4 zz=>?_);obtain⟨K,I4⟩:=zz;subst K;exact wpAny_execs_nil ⟨c,C,I4,qn⟩
 .refine vl z (f6 (T.item X rfl rfl rfl P i pins s3 c C X.xe R (j B) t go) λr s4 zz=>?_);obtain⟨u,K,h4⟩:=zz;subst K;refine vl z (f6 h4 λ_ s5 zz=>?_);obtain⟨x,S,I5,r5,U,VR,L⟩:=zz;have M:=I5.pinned (j L) (T.obj _ _ VR);refine vl z (f6 (hg _ s5 c S x u _ M r5 (step x S U)) λ_ s6 zz=>?_);obtain⟨E,H6,I6,q6⟩:=zz;refine vl z (f6 (k _ s6 E H6 _ I6 q6) λf G q=>?_);have again:∀{a:St} {p:Hp},Inv X (pins++EZ fp s5.heap) a p G->N a p->∃m,m<n/\∃i σ' H',Inv X pins σ' H' G/\tn i G.heap/\(∀b∈fp,H' b=none)/\W i m σ' H':=λ{a p} l y=>by
   obtain⟨m',hm,Y⟩:=hN a p y;refine⟨m',hm,i+1,a,p,l.vm,T.keep _ _ _ VR λb k o e=>(l.pin (b,o) (js _ (js _ (lN k e)))).1,λb k=>?_,Y⟩;obtain⟨o,e,d⟩:=T.obj _ _ VR b k;exact(l.pin (b,o) (js _ (js _ (lN k e)))).2.1
  cases f with
  | next=>obtain⟨a,p,l,y⟩:=q;exact again l y
  | cont=>obtain⟨a,p,l,y⟩:=q;exact again l y
  | brk=>obtain⟨a,p,l,q⟩:=q;exact⟨a,p,l.vm,q⟩
  | ret v=>obtain⟨V,a,p,l,r7,q⟩:=q;exact⟨V,a,p,l.vm,r7,q⟩
abbrev R2:=V->V->Hp->VK->Prop
def zL(X:Cx)(f:Value->Value->Sem Value)(r:R2):Prop:=
 ∀(pins:BM) (s:Qb) (σ:St) (H:Hp) (x y:V) (v u:Value) (Q:VK),Inv X pins σ H s->RelV x v->RelV y u->r x y H Q →
  wpAny Qr X.A (f v u) Qa2 X.xe s
def NJ(X:Cx)(f:Value->Sem Value)(r:V->Hp->VK->Prop):Prop:=
 ∀(pins:BM) (s:Qb) (σ:St) (H:Hp) (x:V) (v:Value) (Q:VK),Inv X pins σ H s->RelV x v->r x H Q →
  wpAny Qr X.A (f v) Qa2 X.xe s
def r6(X:Cx)(f:Value)(r:BY->Hp->VK->Prop):Prop:=
 ∀(pins:BM) (s:Qb) (σ:St) (H:Hp) (xs:BY) (us:B0) (Q:VK),Inv X pins σ H s->Vals xs us->r xs H Q →
  wpAny Qr X.A (call f us) Qa2 X.xe s
def atg(X:Cx)(r:V->Hp->Do->Prop):Prop:=
 ∀(pins:BM) (s:Qb) (σ:St) (H:Hp) (x:V) (v:Value) (Q:Do),Inv X pins σ H s->RelV x v->r x H Q →
  wpAny Qr X.A (truthy v) (TP X pins σ Q) X.xe s
noncomputable def w8(r:R2)(ta tb:TE):TE:=λσ H Q=>ta σ H λx H1=>tb σ H1 λy H2=>r x y H2 Q
noncomputable def tUn(r:V->Hp->VK->Prop)(ta:TE):TE:=λσ H Q=>ta σ H λx H1=>r x H1 Q
noncomputable def rI(C:Int->Int->Prop)(g:Int->Int->V):R2:=λx y H Q=>∃i j,x=.int i/\y=.int j/\C i j/\Q (g i j) H
noncomputable def uj(g:Int->Int->V):R2:=λx y H Q=>∃i j,x=.int i/\y=.int j/\Q (g i j) H
def rU(g:Int->V):V->Hp->VK->Prop:=λx H Q=>∃i,x=.int i/\Q (g i) H
variable{a b:Expr}{ta tb:TE}{f:Value->Value->Sem Value}
def LM(l:PE X a ta)(k:PE X b tb){R:V->V->Hp->Prop}(I:QP)
  (h:ta σ H λx H1=>tb σ H1 λy H2=>R x y H2) {Q:B2}
  (hf:∀v u s2 x y H2,Inv X pins σ H2 s2->RelV x v->RelV y u->R x y H2->wpAny Qr X.A (f v u) Q X.xe s2) :
  wpAny Qr X.A (eval a X.env) (λv d=>wpAny Qr X.A (eval b X.env) (λu c=>wpAny Qr X.A (f v u) Q X.xe c) X.xe d) X.xe s:=by
 refine f6 (l pins s σ H _ I h) λv s1 zz=>?_;obtain⟨x,H1,n,g,j⟩:=zz;refine f6 (k pins s1 σ H1 _ n j) λu s2 zz=>?_;obtain⟨y,H2,m,e,i⟩:=zz;exact hf v u s2 x y H2 m g e i
noncomputable def O7{op:Operator}{r:R2}(e:zL X (binaryOp op) r)(g:PE X a ta)(f:PE X b tb):PE X (.BinOp a op b pos) (w8 r ta tb):=λpins s σ H Q I h=>wpAny_BinOp (LM g f I h λv u s2 x y H2 i d c q=>e pins s2 σ H2 x y v u Q i d c q)
def ao7{op:UnaryOp}{r:V->Hp->VK->Prop}(d:NJ X (unaryOp op) r)(e:PE X a ta):PE X (.UnaryOp op a pos) (tUn r ta):=λpins s σ H Q I h=>UnaryOp_ (f6 (e pins s σ H _ I h) λv s1 ⟨x,H1,f,b,c⟩=>d pins s1 σ H1 x v Q f b c)
def y3{C:Int->Int->Prop}{g:Int->Int->Int}
  (rule:∀(i j:Int) (t u:Tok) (s:Qb) (Q:B2) (E:B2),C i j->Q (.int (g i j) s.toks) {s with toks:=s.toks+1}->wpAny Qr X.A (f (.int i t) (.int j u)) Q E s) :
  zL X f (rI C λi j=>.int (g i j)):=by
 intro pins s σ H x y v u Q I b a h;obtain⟨i,j,rfl,rfl,c,q⟩:=h;obtain⟨t,rfl⟩:=b;obtain⟨t',rfl⟩:=a;exact rule i j t t' s _ _ c ⟨.int _,H,I.tok _,⟨_,rfl⟩,q⟩
def PH{g:Int->Int->Int}
  (rule:∀(i j:Int) (t u:Tok) (s:Qb) (Q:B2) (E:B2),Q (.int (g i j) s.toks) {s with toks:=s.toks+1}->wpAny Qr X.A (f (.int i t) (.int j u)) Q E s) :
  zL X f (uj λi j=>.int (g i j)):=by
 intro pins s σ H x y v u Q I b a h;obtain⟨i,j,rfl,rfl,q⟩:=h;obtain⟨t,rfl⟩:=b;obtain⟨t',rfl⟩:=a;exact rule i j t t' s _ _ ⟨.int _,H,I.tok _,⟨_,rfl⟩,q⟩
def LL{g:Int->Int->Bool}
  (rule:∀(i j:Int) (t u:Tok) (s:Qb) (Q:B2) (E:B2),Q (.bool (g i j)) s->wpAny Qr X.A (f (.int i t) (.int j u)) Q E s) :
  zL X f (uj λi j=>.bl (g i j)):=by
 intro pins s σ H x y v u Q I b a h;obtain⟨i,j,rfl,rfl,q⟩:=h;obtain⟨t,rfl⟩:=b;obtain⟨t',rfl⟩:=a;exact rule i j t t' s _ _ ⟨.bl _,H,I,rfl,q⟩
def Pe(i j:Int):Prop:=0<j/\j<1073741824
def Pd(i j:Int):Prop:=0<=j/\j<=1000000/\i.natAbs<2 ^ 64
def Im(i j:Int):Prop:=(-(2 ^ 64)<i/\i<2 ^ 64)\/(-(2 ^ 64)<j/\j<2 ^ 64)
theorem Im.ok{i j:Int}(h:Im i j):IntMulOk i j:=by
 obtain⟨h1,h2⟩|⟨h1,h2⟩:=h
 .exact .of_left (intBits_le_64 h1 h2)
 .exact .of_right (intBits_le_64 h1 h2)
def aaz:zL X (binaryOp .Add) (uj λi j=>.int (i+j)):=PH λ_ _ _ _ _ _ _ q=>add_int q
def aaA:zL X (binaryOp .Sub) (uj λi j=>.int (i-j)):=PH λ_ _ _ _ _ _ _ q=>sub_int q
def akm:zL X (binaryOp .Mult) (rI Im λi j=>.int (i*j)):=y3 λ_ _ _ _ _ _ _ a q=>mul_int q a.ok
theorem afp:zL X (binaryOp .FloorDiv) (rI Pe λi j=>.int (i / j)):=y3 λi j _ _ _ _ _ a q=>by
 have h1:=a.1;have h2:=a.2;exact floordiv_int Wc (by rw[Int.fdiv_eq_ediv_of_nonneg i Wc];exact q) (.inl (PyProof.noPylong_small Wc))
theorem akn:zL X (binaryOp .Mod) (rI (λ_ j=>0<j) λi j=>.int (i % j)):=y3 λi j _ _ _ _ _ a q=>mod_int' Wc (by rw[Int.fmod_eq_emod_of_nonneg i Wc];exact q)
def ako:zL X (binaryOp .Pow) (rI Pd λi j=>.int (i ^ j.toNat)):=y3 λ_ _ _ _ _ _ _ a q=>pow_int_small a.1 a.2.1 a.2.2 q
def unI{f:Value->Sem Value}{g:Int->Int}
  (rule:∀(i:Int) (t:Tok) (s:Qb) (Q:B2) (E:B2),Q (.int (g i) s.toks) {s with toks:=s.toks+1}->wpAny Qr X.A (f (.int i t)) Q E s) :
  NJ X f (rU λi=>.int (g i)):=by
 intro pins s σ H x v Q I a h;obtain⟨i,rfl,q⟩:=h;obtain⟨t,rfl⟩:=a;exact rule i t s _ _ ⟨.int _,H,I.tok _,⟨_,rfl⟩,q⟩
def akp:NJ X (unaryOp .USub) (rU λi=>.int (-i)):=unI λ_ _ _ _ _ q=>neg_int q
noncomputable def Pc:V->V->Bool
 | .non,.non=>true | .non,.int _=>true | .int _,.non=>true | .non,.bl _=>true | .bl _,.non=>true | .non,.str _=>true | .str _,.non=>true
 | .int _,.int _=>true | .bl _,.bl _=>true | .str _,.str _=>true | .VM _,.VM _=>true
 | .int _,.str _=>true | .str _,.int _=>true | .bl _,.str _=>true | .str _,.bl _=>true
 | _,_=>false
def rEq:R2:=λx y H Q=>Pc x y=true/\Q (.bl (decide (x=y))) H
def rNe:R2:=λx y H Q=>Pc x y=true/\Q (.bl (!decide (x=y))) H
def VW{i j:Int}:decide (V.int i=V.int j)=(i==j):=by
 rw[FK];simp
def aaB{i j:Bool}:decide (V.bl i=V.bl j)=(i==j):=by
 rw[FK];simp
def VX{i j:Str}:decide (V.str i=V.str j)=(i==j):=by
 rw[FK];simp
theorem VY{i j:Array UInt8}:decide (V.VM i=V.VM j)=(i.toList==j.toList):=by
 rw[FK];simp_all
def dD{Q:VK}{k a:Bool}(I:QP)(q:Q (.bl k) H)(e:k=a):EP X pins σ Q (.bool a) s:=by
 subst e;exact⟨.bl k,H,I,rfl,q⟩
theorem SU:zL X (compareOp .Eq) rEq:=by
 intro pins s σ H x y v u Q I b a h;obtain⟨hs,q⟩:=h;cases x with
 | non=>
  cases b;cases y with
  | non=>cases a;exact PySem.EqNone.eq_none_none Qaz
  | bl j=>cases a;exact PySem.EqNone.eq_none_bool Qaz
  | int j=>obtain⟨t',rfl⟩:=a;exact PySem.EqNone.eq_none_int Qaz
  | str j=>obtain⟨t',rfl⟩:=a;exact PySem.EqNone.eq_none_str Qaz
  | _=>exact absurd (show false=true from hs) mx
 | bl i=>
  cases b;cases y with
  | non=>cases a;exact PySem.EqNone.eq_bool_none Qaz
  | bl j=>cases a;exact eq_bool (dD I q aaB)
  | str j=>obtain⟨t',rfl⟩:=a;exact PySem.EqMixed.eq_bool_str Qaz
  | _=>exact absurd (show false=true from hs) mx
 | int i=>
  obtain⟨t,rfl⟩:=b;cases y with
  | non=>cases a;exact PySem.EqNone.eq_int_none Qaz
  | int j=>obtain⟨t',rfl⟩:=a;exact eq_int (dD I q VW)
  | str j=>obtain⟨t',rfl⟩:=a;exact PySem.EqMixed.eq_int_str Qaz
  | _=>exact absurd (show false=true from hs) mx
 | str i=>
  obtain⟨t,rfl⟩:=b;cases y with
  | non=>cases a;exact PySem.EqNone.eq_str_none Qaz
  | bl j=>cases a;exact PySem.EqMixed.eq_str_bool Qaz
  | int j=>obtain⟨t',rfl⟩:=a;exact PySem.EqMixed.eq_str_int Qaz
  | str j=>obtain⟨t',rfl⟩:=a;exact eq_str (dD I q VX)
  | _=>exact absurd (show false=true from hs) mx
 | VM i=>
  obtain⟨t,rfl⟩:=b;cases y with
  | VM j=>obtain⟨t',rfl⟩:=a;exact PySem.W.eq_bytes (dD I q VY)
  | _=>exact absurd (show false=true from hs) mx
 | _=>cases y<;>exact absurd (show false=true from hs) mx
theorem SS:zL X (compareOp .NotEq) rNe:=by
 intro pins s σ H x y v u Q I b a h;obtain⟨hs,q⟩:=h;cases x with
 | non=>
  cases b;cases y with
  | non=>cases a;exact PySem.EqNone.ne_none_none Qaz
  | bl j=>cases a;exact PySem.EqNone.ne_none_bool Qaz
  | int j=>obtain⟨t',rfl⟩:=a;exact PySem.EqNone.ne_none_int Qaz
  | str j=>obtain⟨t',rfl⟩:=a;exact PySem.EqNone.ne_none_str Qaz
  | _=>exact absurd (show false=true from hs) mx
 | bl i=>
  cases b;cases y with
  | non=>cases a;exact PySem.EqNone.ne_bool_none Qaz
  | bl j=>cases a;exact ne_bool (dD I q (congrArg not aaB))
  | str j=>obtain⟨t',rfl⟩:=a;exact PySem.EqMixed.ne_bool_str Qaz
  | _=>exact absurd (show false=true from hs) mx
 | int i=>
  obtain⟨t,rfl⟩:=b;cases y with
  | non=>cases a;exact PySem.EqNone.ne_int_none Qaz
  | int j=>obtain⟨t',rfl⟩:=a;exact ne_int (dD I q (congrArg not VW))
  | str j=>obtain⟨t',rfl⟩:=a;exact PySem.EqMixed.ne_int_str Qaz
  | _=>exact absurd (show false=true from hs) mx
 | str i=>
  obtain⟨t,rfl⟩:=b;cases y with
  | non=>cases a;exact PySem.EqNone.ne_str_none Qaz
  | bl j=>cases a;exact PySem.EqMixed.ne_str_bool Qaz
  | int j=>obtain⟨t',rfl⟩:=a;exact PySem.EqMixed.ne_str_int Qaz
  | str j=>obtain⟨t',rfl⟩:=a;exact ne_str (dD I q (congrArg not VX))
  | _=>exact absurd (show false=true from hs) mx
 | VM i=>
  obtain⟨t,rfl⟩:=b;cases y with
  | VM j=>obtain⟨t',rfl⟩:=a;exact PySem.W.ne_bytes (dD I q (congrArg not VY))
  | _=>exact absurd (show false=true from hs) mx
 | _=>cases y<;>exact absurd (show false=true from hs) mx
def apd:zL X (compareOp .Lt) (uj λi j=>.bl (decide (i<j))):=LL λ_ _ _ _ _ _ _ q=>lt_int q
def ape:zL X (compareOp .LtE) (uj λi j=>.bl (decide (i<=j))):=LL λ_ _ _ _ _ _ _ q=>le_int q
def SO:zL X (compareOp .Gt) (uj λi j=>.bl (decide (j<i))):=LL λ_ _ _ _ _ _ _ q=>gt_int q
theorem qW(b:Expr){op:CmpOp}(h:op ≠ .In:=by decide)(h2:op ≠ .NotIn:=by decide):behindInMarks op b=false:=by
 have e1:(op==CmpOp.In)=false:=by grind
 have e2:(op==CmpOp.NotIn)=false:=by grind
 cases b<;>simp[behindInMarks,e1,e2]
noncomputable def wX{op:CmpOp}{r:R2}(e:zL X (compareOp op) r)(g:PE X a ta)(f:PE X b tb)(hm:behindInMarks op b=false):PE X (.Compare a [op] [b] pos) (w8 r ta tb):=λpins s σ H Q I h=>wpAny_Compare1 (LM g f I h λv u s2 x y H2 i d c q=>e pins s2 σ H2 x y v u Q i d c q) hm
noncomputable def apf(t:TE):TT:=λσ H Q=>t σ H λx H'=>∃k,x=.bl k/\Q k H'
def tN{op:CmpOp}{r:R2}(m:zL X (compareOp op) r)(o:PE X a ta)(n:PE X b tb)(hm:behindInMarks op b=false):PT X (.Compare a [op] [b] pos) (apf (w8 r ta tb)):=by
 intro pins s σ H Q I h;refine wpAny_isTrue_Compare1 (f6 (o pins s σ H _ I h) λv s1 ⟨x,H1,t,g,l⟩=>f6 (n pins s1 σ H1 _ t l) λu s2 ⟨y,H2,q,f,j⟩=>
  f6 (m pins s2 σ H2 x y v u _ q g f j) λc s3 ⟨z,w,p,d,k,e,i⟩=>?_) hm
 subst e;cases d;exact FR ⟨w,p,i⟩
def Pa(K:Frag)(x:V)(H:Hp)(k:Bool):Prop:=
 match x with
 | .non=>k=false
 | .bl b=>k=b
 | .int i=>k=(i != 0)
 | .str y => y.length <= sizeLine /\ k = ((y.length : Int) != 0)
 | .VM y=>y.size<=sizeLine/\k=((y.size:Int) != 0)
 | .ref p=>(∃xs,nT K H p xs/\k=!xs.isEmpty)\/(∃xs,zK K H p xs/\k=!xs.isEmpty)\/∃kvs,H p=some (.dK kvs)/\k=!kvs.isEmpty
 | _=>False
def R5{κ:Type}{kvs:Qbs}{vs:QcC}(r:KV kvs vs):(!vs.isEmpty)=!kvs.isEmpty:=by
 cases r<;>rfl
def E1{its:B0}(r:Vals xs its):(!its.toArray.isEmpty)=!xs.isEmpty:=by
 cases r<;>simp
def E2:(sizeLine:Nat)<2 ^ 63:=by decide
theorem akq:atg X (λx H Q=>∃k,Pa X.K x H k/\Q k H):=by
 intro pins s σ H x v Q I c h;obtain⟨k,e,q⟩:=h;have j:=E2;have hs:sizeLine=16777216:=mv;cases x with
 | non=>
  cases c;have a:k=false:=e;subst a;exact truthy_none ⟨H,I,q⟩
 | bl b=>
  cases c;have a:k=b:=e;subst a;exact FR ⟨H,I,q⟩
 | int i=>
  obtain⟨t,rfl⟩:=c;have a:k=(i != 0):=e;subst a;exact PySem.P.truthy_int ⟨H,I,q⟩
 | str y=>
  obtain⟨t,rfl⟩:=c;obtain⟨f,a⟩:y.length<=sizeLine/\k=((y.length:Int) != 0):=e;subst a;exact PySem.P.truthy_str Wc ⟨H,I.tok _,q⟩
 | VM y=>
  obtain⟨t,rfl⟩:=c;obtain⟨f,a⟩:y.size<=sizeLine/\k=((y.size:Int) != 0):=e;subst a;exact PySem.W.truthy_bytes Wc ⟨H,I.tok _,q⟩
 | ref p=>
  cases c;have a:(∃xs,nT X.K H p xs/\k=!xs.isEmpty)\/(∃xs,zK X.K H p xs/\k=!xs.isEmpty)\/∃kvs,H p=some (.dK kvs)/\k=!kvs.isEmpty:=e;obtain⟨xs,d,a⟩|⟨xs,d,a⟩|⟨kvs,d,a⟩:=a
  .subst a;obtain⟨its,r,pl,hz⟩:=I.list d;have hlen:=r.length;exact wpAny_truthy_list pl.isList (by simp only[oy];lia) ⟨H,I.tok _,by rw[E1 r];exact q⟩
  .subst a;obtain⟨its,r,pl,hz⟩:=I.tuple d;have hlen:=r.length;exact truthy_tuple pl (by simp only[oy];lia) ⟨H,I.tok _,by rw[E1 r];exact q⟩
  .subst a;obtain⟨hz,g,vs,r,m⟩:kvs.length<=sizeLine/\(p==sysModules)=false/\∃vs,KV kvs vs/\s.heap.DictOf (gT X.prog X.w) p vs:=I.f7 p _ d;have hlen:kvs.length=vs.length:=Paired.length r;exact wpAny_truthy_dict g m Wc ⟨H,I.tok _,by rw[R5 r];exact q⟩
 | _=>exact(show False from e).elim
def aaC(d:PE X a ta)(he:∀whole,isTrue a X.env whole=(do let v ← whole;standAt a.pos;holding [v] (truthy v))) :
  PT X a (λσ H Q=>ta σ H λx H'=>∃k,Pa X.K x H' k/\Q k H'):=λpins s σ H Q I h=>isTrue_plain (f6 (d pins s σ H _ I h) λv s1 ⟨x,H1,e,b,c⟩=>akq pins s1 σ H1 x v Q e b c) (he _)
def E3:zL X (binaryOp .Add) (λx y H Q=>∃i j,x=.str i/\y=.str j/\i.length+j.length<=sizeLine/\Q (.str (i++j)) H):=by
 intro pins s σ H x y v u Q I b a h;obtain⟨i,j,rfl,rfl,hz,q⟩:=h;obtain⟨t,rfl⟩:=b;obtain⟨t',rfl⟩:=a;exact add_str (λt' tk=>⟨.str _,H,I.tok _,⟨_,rfl⟩,q⟩) hz
theorem vals1{x:V}(r:Vals [x] us):∃u,us=[u]/\RelV x u:=by
 cases r with
 | cons b a=>cases a;exact⟨_,rfl,b⟩
theorem vals2{x y:V}(r:Vals [x,y] us):∃u a,us=[u,a]/\RelV x u/\RelV y a:=by
 cases r with
 | cons e d=>
  cases d with
  | cons c b=>cases b;exact⟨_,_,rfl,e,c⟩
def XI(b:QaK):r6 X (.builtin "max") (λxs H Q=>∃i j,xs=[.int i,.int j]/\Q (.int (if j > i then j else i)) H):=by
 intro pins s σ H xs us Q I r h;obtain⟨i,j,rfl,q⟩:=h;obtain⟨u,c,rfl,⟨t,rfl⟩,⟨t',rfl⟩⟩:=vals2 r;refine max_two_ints (I.ok.hd b) λh' tk k=>⟨_,H,I.kept k,?_,q⟩;by_cases a:j > i
 .rw[dX a,dX a];exact⟨_,rfl⟩
 .rw[dP a,dP a];exact⟨_,rfl⟩
def XJ(b:QaK):r6 X (.builtin "min") (λxs H Q=>∃i j,xs=[.int i,.int j]/\Q (.int (if j<i then j else i)) H):=by
 intro pins s σ H xs us Q I r h;obtain⟨i,j,rfl,q⟩:=h;obtain⟨u,c,rfl,⟨t,rfl⟩,⟨t',rfl⟩⟩:=vals2 r;refine min_two_ints (I.ok.hd b) λh' tk k=>⟨_,H,I.kept k,?_,q⟩;by_cases a:j<i
 .rw[dX a,dX a];exact⟨_,rfl⟩
 .rw[dP a,dP a];exact⟨_,rfl⟩
def XM:r6 X (.type "int") (λxs H Q=>(∃i,xs=[.int i]/\Q Qaw H)\/∃k,xs=[.bl k]/\Q (.int (if k then 1 else 0)) H):=by
 intro pins s σ H xs us Q I r h;obtain⟨i,rfl,q⟩|⟨k,rfl,q⟩:=h
 .obtain⟨u,rfl,t,rfl⟩:=vals1 r;exact call_int_int ⟨.int i,H,I,⟨_,rfl⟩,q⟩
 .obtain⟨u,rfl,a⟩:=vals1 r;cases a;exact call_int_bool ⟨.int _,H,I.tok _,⟨_,rfl⟩,q⟩
def zM:r6 X (.type "str") (λxs H Q=>∃i,xs=[.int i]/\i.natAbs.log2<1920/\Q (.str (toString i)) H):=by
 intro pins s σ H xs us Q I r h;obtain⟨i,rfl,hz,q⟩:=h;obtain⟨u,rfl,t,rfl⟩:=vals1 r;exact PySem.P.str_of_int hz ⟨.str _,H,I.tok _,⟨_,rfl⟩,q⟩
structure R6(h:Heap)(x dx C:Addr)(mA:Bi):Prop where
 obj:h.get? x=some (instObj C dx)
 ns:h.Ns1 dx mA
 ne:dx≠x
variable{dx:Addr}
theorem XO{mA:Bi}(n:h.Ns1 dx mA):∃od,h.get? dx=some od/\∀name,lookIn name od=some (mA name):=by
 obtain⟨o,es,ep,d,hd,f,_,hm⟩:=n;refine⟨o,d,λname=>?_⟩;have e:=hm name;unfold nsFind findBy at e;rw[← Array.find?_toList]at e;unfold lookIn;rw[hd];dsimp;split
 .simp_all
 .have a:es.toList.any (·.refKey)=false:=by
   rw[List.any_eq_false];intro y c;obtain⟨z,t,b⟩:=f y (Array.mem_toList_iff.1 c);simp[DictEntry.refKey,b]
  have g:¬ es.toList.any (·.refKey)=true:=by rw[a];simp_all
  rw[dP g];simp_all
variable{C:Addr}
theorem R6.look{mA:Bi}(I:R6 h x dx C mA):∃od,PySem.W.InstAt h x (instObj C dx) C (some od)/\∀name,lookIn name od=some (mA name):=
 let ⟨od,a,b⟩:=XO I.ns
 ⟨od,⟨I.obj,rfl,rfl,a⟩,b⟩
variable{prog:Qax}{f:Addr}{mA:Bi}{name:Str}{v:Value}
def get_map{expr:Bool}{Q:B2}(X:K.In s.heap)(I:R6 s.heap x dx C mA)(d:plainGet K C name=true)(c:hasDictIn K C=true)
  (e:findIn K QaU name=some none) (hv:mA name=some v) (a:handedIn v=true) (h:Q v {s with toks:=s.toks+1}) :
  wpAny Qak A (getAttr (.ref x) name expr) Q E s:=by
 obtain⟨od,J,b⟩:=I.look;exact PySem.W.get_value X J (plainGet_of d).1 (PySem.W.findObj_own c e rfl (by rw[b,hv])) a h
variable{pl:Sem Bool}
theorem aaD{Q:Value×B0->Shared->Prop}(X:K.In s.heap)(I:R6 s.heap x dx C mA)(a:plainGet K C name=true)
  (hf:findIn K QaU name=some (some QR)) (b:isFn K QR=true) (hv:mA name=none) (h:Q (.ref f,[.ref x]) s) :
  wpAny Qak A (getMethod (.ref x) name pl) Q E s:=by
 obtain⟨od,J,c⟩:=I.look;exact PySem.W.method_fn X J (plainGet_of a).1 (plainGet_of a).2 hf (sy.1 b) (by show(lookIn name od).map _=some _;simp_all) h
theorem afq{ns:At}(X:K.In s.heap)(I:R6 s.heap x dx C mA)
  (hs:findIn K QaU "__setattr__" = some QcL) (k:plainOver K C=true) (j:takerIn K C name=some none) (l:hasDictIn K C=true)
  (hw:PySem.Within mA ns) (hsz:ns.length<=sizeLine)
  (h:∀h',R6 h' x dx C (λy=>if y=name then some v else mA y)->Heap.SameBut dx s.heap h'->Q () {s with heap:=h',toks:=s.toks+2}) :
  wpAny Qak A (setAttr (.ref x) name v) Q E s:=by
 obtain⟨od,J,q⟩:=I.look;refine PySem.W.set_plain X J hs (PySem.W.osa_open X J k j λb=>?_);obtain⟨cd,m,d⟩:=any_some l;have i:=I.obj;refine i9 (kA (i9 (i9 (wpAny_loadPart i (i9 (PySem.W.Looks.here (PySem.W.looks_clsIn X m) ?_))))));rw[d];refine kA (i9 (kA (i9 ?_)));refine wpAny_nsSet1 I.ns λh' f g=>?_;obtain⟨p,n,o,a,c,e⟩:=f.count (PySem.Within.cons name v hw);refine i9 (wpAny_lookBehind a (c▸pastItsLine_dict (kM e WA)) ?_);exact kA (h _ ⟨(g.2 _ (mB I.ne)).trans I.obj,f,I.ne⟩ g)
abbrev _root_.DA:=List (Str×Value)
noncomputable def aaE{R:Result->Shared->Prop}{vs:B0}{kw:DA}(X:K.In s.heap)(hm:makesIn K C=true)
  (hi:findIn K QaU "__init__" = some (some QR)) (hf:PySem.W.typeIn K QR=some (.type "function"))
  (h:codeAny Qak (A.under (.builtin "type.__call__" ⟨.ref C::vs,kw⟩)) (.call QR ⟨.ref Qa9::vs,kw⟩) (PySem.W.InitBack Qa9 R)
   {s with heap:=(s.heap.push emptyDict).push (instObj C s.heap.objs.size)}) :
  codeAny Qak A (.call QaU ⟨vs,kw⟩) R s:=PySem.W.make_core (PySem.W.makes_of X hm) (PySem.W.looks_findIn X hi) (λself=>PySem.W.bind_fn X self hf) Qae h
noncomputable def r9(f:Str)(v:V):Bz->Bz
 | []=>[(f,v)]
 | (g,x)::r=>if g=f then(g,v)::r else(g,x)::r9 f v r
theorem CT(f g:Str)(v:V):∀fs:Bz,(r9 f v fs).lookup g=if g=f then some v else fs.lookup g
 | []=>by
  show List.lookup g [(f,v)]=_;by_cases h:g=f
  .have a:=sy.2 h;simp[List.lookup,a,dX h]
  .have a:=FX.2 h;simp[List.lookup,a,dP h]
 | (k,x)::r=>by
  have c:=CT f g v r;rw[show r9 f v _=(if k=f then(k,v)::r else(k,x)::r9 f v r) from rfl];by_cases b:k=f
  .rw[dX b];by_cases h:g=k
   .have a:=sy.2 h;simp[List.lookup,a,dX (h.trans b)]
   .have a:=FX.2 h;simp[List.lookup,a,dP (λe:g=f=>h (e.trans b.symm))]
  .rw[dP b];by_cases h:g=k
   .simp_all
   .have a:=FX.2 h;simp[List.lookup,a];exact c
theorem Bp(f:Str)(v:V):∀fs:Bz,f∈(r9 f v fs).map (·.1)/\∀g,g∈fs.map (·.1)->g∈(r9 f v fs).map (·.1)
 | []=>⟨by simp[r9],λg h=>by simp at h⟩
 | (k,x)::r=>by
  obtain⟨i1,i2⟩:=Bp f v r;rw[show r9 f v _=(if k=f then(k,v)::r else(k,x)::r9 f v r) from rfl];grind
theorem CV(f:Str)(v:V):∀fs:Bz,(r9 f v fs).length<=fs.length+1
 | []=>by simp[r9]
 | (k,x)::r=>by
  have a:=CV f v r;rw[show r9 f v _=(if k=f then(k,v)::r else(k,x)::r9 f v r) from rfl];grind
theorem yw.some_of{v:V}{o:Option Value}(r:yw Qav o):∃u,o=some u/\RelV v u:=by
 cases o with
 | none=>exact(r).elim
 | some u=>exact⟨u,rfl,r⟩
theorem yw.none_of{o:Option Value}(r:yw none o):o=none:=by
 cases o with
 | none=>rfl
 | some u=>exact(r).elim
theorem XR{v:V}(r:RelV v u):handedIn u=true:=by
 cases v with
 | non=>cases (r);rfl
 | bl b=>cases (r);rfl
 | int i=>obtain⟨t,e⟩:=(r);cases e;rfl
 | str x=>obtain⟨t,e⟩:=(r);cases e;rfl
 | VM b=>obtain⟨t,e⟩:=(r);cases e;rfl
 | flt b=>obtain⟨t,e⟩:=(r);cases e;rfl
 | ref a=>cases (r);rfl
 | ty n=>cases (r);rfl
variable{a:Addr}{fs:Bz}
def Lb(f7:Qbj)(e:H a=some Qcp):∃mA,R6 h a dx C mA/\(∀f,yw (fs.lookup f) (mA f))/\PySem.Within mA (fs.map (·.1))/\fs.length<=1000/\H dx=some (.own a):=by
 obtain⟨d,z,ne,b,mA,n,r,q⟩:=(f7 a _ e);exact⟨mA,⟨b,n,ne⟩,r,q,z,d⟩
structure jh(K:Frag)(C:Addr):Prop where
 pg:plainGet K C Str.empty=true
 hd:hasDictIn K C=true
 po:plainOver K C=true
 sa:findIn K QaU "__setattr__" = some QcL
theorem jh.get(c:jh K C)(f:Str):plainGet K C f=true:=c.pg
def aC(K:Frag)(C:Addr)(f:Str):Prop:=findIn K QaU f=some none
theorem aC.aph{f:Str}(n:aC K C f):takerIn K C f=some none:=by
 unfold takerIn;rw[n];rfl
structure Meth(K:Frag)(C:Addr)(m:Str)(f:Addr):Prop where
 at_:findIn K QaU m=some (some QR)
 fn:isFn K QR=true
 kp:keepIn K QR=true
variable{f:Str}{v:V}
def R7{b:Bool}{Q:B2}(I:QP)(e:H a=some Qcp)(c:jh X.K C)(n:aC X.K C f)(l:fs.lookup f=some v)
  (h:∀u s',Inv X pins σ H s'->RelV v u->Q u s'):wpAny Qr A (getAttr Qaq f b) Q E s:=by
 obtain⟨mA,O,r,_,_,_⟩:=Lb I.f7 e;obtain⟨u,g,d⟩:=yw.some_of (l▸r f);exact get_map I.OO O (c.get f) c.hd n g (XR d) (h u _ (I.tok _) d)
def yx{m:Str}{g:Addr}{Q:Value×B0->Shared->Prop}(I:QP)(e:H a=some Qcp)(c:jh X.K C)(k:Meth X.K C m g)(l:Qcn)
  (h:Q (.ref g,[.ref a]) s):wpAny Qr A (getMethod Qaq m pl) Q E s:=by
 obtain⟨mA,O,r,_,_,_⟩:=Lb I.f7 e;have b:=yw.none_of (l▸r m);exact aaD I.OO O (c.get m) k.at_ k.fn b h
theorem R9{y:V}(I:QP)(e:H a=some Qcp)(c:jh X.K C)(n:aC X.K C f)(v:fs.length<1000)(l:RelV y u)
  (h:∀s',Inv X pins σ (upd H a (.ins C dx (r9 f y fs))) s'->Q () s'):wpAny Qr A (setAttr Qaq f u) Q E s:=by
 obtain⟨mA,O,r,i,_,j⟩:=Lb I.f7 e;have hz:(fs.map (·.1)).length<=sizeLine:=by rw[e7,mv];lia
 refine afq I.OO O c.sa c.po n.aph c.hd i hz λh' d k=>h _ ?_;have hd:∃o,h'.get? dx=some o:=let ⟨o,_,_,t,_⟩:=d.ns;⟨o,t⟩;refine I.write (e▸True.intro) (.inr j) (λb q p z=>(k.2 b p).trans z) hd ?_;refine⟨ aq O.ne▸j,?_,O.ne,d.obj,_,d.ns,λg=>?_,λg m=>?_⟩
 .have:=CV f y fs;lia
 .rw[CT];by_cases q:g=f
  .rw[dX q,dX q];exact l
  simp_all
 .by_cases q:g=f
  .rw[q];exact(Bp f y fs).1
  .refine(Bp f y fs).2 g (i g λz=>m ?_);grind
theorem Inv.made(I:QP):Inv X pins σ (upd (upd H s.heap.objs.size (.own Qa9)) Qa9 (.ins C s.heap.objs.size []))
  {s with heap:=(s.heap.push emptyDict).push (instObj C s.heap.objs.size)}:=by
 have e1:(s.heap.push _).get? _=some emptyDict:=mi _ rfl;have e2:=by
  have:=mi (s.heap.push emptyDict) (o:=instObj C s.heap.objs.size) rfl
  rwa [Heap.size_push]at this
 have c:(s.heap.push _).Ns _ _:=⟨ _,#[],_,e1,rfl,(λe he=>absurd he Wm),λ_=>rfl⟩;have d:=I.laid (o:=.own Qa9) (t':=s.toks) (λb u q=>kv _ q) (i5 _) ⟨_,e1⟩;refine d.laid (λb u q=>kv _ q) (Nat.le_of_eq (Heap.size_push _ _)) ?_;have ne:s.heap.objs.size≠s.heap.objs.size+1:=k4 (x3 _);refine⟨by rw[aq ne,aV],kr _,ne,e2,_,(Heap.Ns1.of_empty c).at λo q=>kv _ q,λ_=>True.intro,λy a=>absurd rfl a⟩
noncomputable def afr{env:Env}{e:Expr}{Q:B2}(b:attributeBase e f env (eval e env)=eval e env)
  (h:wpAny Qak A (eval e env) (λo a=>wpAny Qak A (getAttr o f true) Q E a) E s):wpAny Qak A (eval Qdr env) Q E s:=
 Attribute_any_ h (by rw[arm_eval_Attribute,b])
def ati(K:Frag)(ta:TE)(f:Str):TE:=λσ H Q=>ta σ H λx H1=>∃a C dx fs v,x=.ref a/\H1 a=some Qcp/\jh K C/\aC K C f/\fs.lookup f=some v/\Q v H1
def atj(K:Frag)(ta tv:TE)(f:Str):TS:=λD σ H=>tv σ H λy H1=>ta σ H1 λx H2=>∃a C dx fs,x=.ref a/\H2 a=some Qcp/\jh K C/\aC K C f/\fs.length<1000 ∧
 D.nx σ (upd H2 a (.ins C dx (r9 f y fs)))
variable{o e value:Expr}{pos':Pos}{tv:TE}
def Sb(he:PE X e ta)(g:AS X e f):PE X Qdr (ati X.K ta f):=by
 intro pins s σ H Q I h;refine afr g (f6 Qbz λu s1 zz=>?_);obtain⟨x,H1,k,b,a,C,dx,fs,v,ex,i,c,n,l,q⟩:=zz;subst ex;obtain rfl:u=Value.ref a:=b;exact R7 k i c n l λm s2 j d=>⟨v,H1,j,d,q⟩
def akr(i:PE X o ta)(hv:PE X value tv)(hs:swapsWith value (some (.Attribute o f pos')) pos.line X.env=pure false):PS X (.Assign [.Attribute o f pos'] value pos) (atj X.K ta tv f):=by
 intro pins s σ H D I h;refine plainObj_wpAny_Assign_Attribute (f6 (hv pins s σ H _ I h) λu s1 ⟨y,H1,p,b,q⟩=>f6 (i pins s1 σ H1 _ p q) λg s2 zz=>?_) hs;obtain⟨x,H2,m,d,a,C,dx,fs,ex,j,c,n,l,e⟩:=zz;subst ex;obtain rfl:g=Value.ref a:=d;exact R9 m j c n l b λs3 k=>⟨σ,_,k,e⟩
def ai0{m:Str}{apos:Pos}{args:Cc}{Q:B2}(he:PE X e te)(I:QP)
  (h:te σ H λx H1=>∃a C dx fs g,x=.ref a/\H1 a=some Qcp/\jh X.K C/\Meth X.K C m g/\fs.lookup m=none ∧
   ∀s1,Inv X pins σ H1 s1->wpAny Qr X.A (callWith pos (.ref g) [.ref a] (backTo pos (starEach args X.env)) Qa6) Q X.xe s1)
  (i:eval (.Call (.Attribute e m apos) args [] pos) X.env=(do
   let U ← eval e X.env
   standAt apos.atName
   let (f,first) ← holding [U] (getMethod U m pl)
   callWith pos f first (backTo pos (starEach args X.env)) Qa6)) :
  wpAny Qr X.A (eval (.Call (.Attribute e m apos) args [] pos) X.env) Q X.xe s:=by
 refine JE (f6 Qbz λu s1 zz=>?_) i;obtain⟨x,H1,b,d,a,C,dx,fs,g,ex,j,c,k,l,q⟩:=zz;subst ex;obtain rfl:u=Value.ref a:=d;exact yx b j c k l (q s1 b)
structure eO(k:Nat)(A:Qat):Prop where
 hd:A.handled=none
 dp:A.depth+3*k+5<recursionLimit
 un:A.units+16*k+200<cLine
theorem eO.mono{j:Nat}(r:eO k A)(h:j<=k):eO j A:=⟨r.hd,by have:=r.dp;lia,by have:=r.un;lia⟩
theorem eO.deeper(r:eO (k+1) A)(env:Env):eO k (A.deeper env):=
 ⟨r.hd,by have:=r.dp;show A.depth+1+3*k+5<_;lia,by have:=r.un;show A.units+3+16*k+200<_;lia⟩
def Sd{kw:DA}:(A.under QdA).depth=A.depth+1:=rfl
def Se{kw:DA}:(A.under QdA).units=A.units+1:=rfl
theorem eO.make(r:eO (k+1) A)(C:Addr)(us:B0)(kw:DA):eO k (A.under QdA):=
 ⟨r.hd,by have:=r.dp;rw[Sd];lia,by have:=r.un;rw[Se];lia⟩
theorem eO.depth(r:eO k A):A.depth<recursionLimit:=by have:=r.dp;lia
theorem eO.units(r:eO k A):A.units+64<cLine:=by have:=r.un;lia
def XS:TA:=λ_ H Q=>Q [] H
noncomputable def VZ(ta:TE)(tr:TA):TA:=λσ H Q=>ta σ H λx H1=>tr σ H1 λxs H2=>Q (x::xs) H2
variable{t:TA}
noncomputable def d7:PA X [] XS:=λ_ _ _ _ H Q I h=>Calls.spliced_nil ⟨[],H,I,.nil,h⟩
def bZ(g:PE X e te)(f:PA X es t)(hs:Qad:=by rfl):PA X Qaa (VZ te t):=by
 intro pos pins s σ H Q I h;rw[hs];show wpAny _ _ (spliced ((false,eval e _)::backTo pos _)) _ _ s;refine Calls.spliced_cons (f6 Qdp λu s1 zz=>?_);obtain⟨x,H1,j,b,d⟩:=zz;exact f6 (f pos pins s1 σ H1 _ j d) λus s2 ⟨xs,H2,i,a,c⟩=>⟨ _,H2,i,.cons b a,c⟩
def atk(t:TA):TE:=λσ H Q=>t σ H λxs H1=>xs.length<=sizeLine/\∀p,H1 p=none->Q (.ref p) (upd H1 p Qbe)
def atl(t:TA):TE:=λσ H Q=>t σ H λxs H1=>xs.length<=sizeLine/\∀p,H1 p=none->Q (.ref p) (upd H1 p QaS)
def aaF{U}(h:PA X es t):PE X (.Tuple es U pos) (atk t):=by
 intro pins s σ H Q I c;refine wpAny_Tuple_spliced (f6 (h pos pins s σ H _ I c) λus s1 ⟨xs,H1,a,r,z,q⟩=>⟨ r.length▸z,?_⟩);have hf:=a.f7.fresh (i5 _);refine⟨.ref _,_,a.laid (λb u e=>kv _ e) (i5 _) ?_,rfl,q _ hf⟩;exact⟨z,us,r,⟨_,mi _ rfl,rfl,_,rfl⟩⟩
def aks(h:PA X es t):PE X (.List es pos) (atl t):=by
 intro pins s σ H Q I c;refine wpAny_List_spliced (f6 (h pos pins s σ H _ I c) λus s1 ⟨xs,H1,a,r,z,q⟩=>⟨ r.length▸z,?_⟩);have hf:=a.f7.fresh (i5 _);refine⟨.ref _,_,a.laid (λb u e=>kv _ e) (i5 _) ?_,rfl,q _ hf⟩;exact⟨z,us,0,r,mi _ rfl⟩
abbrev Sp:=BY->Hp->VK->XK->Prop
abbrev tI:=Da->Hp->Shared->XK->Value->Shared->Prop
structure Sf(P:Qax)(w:World)(K:Frag)(mg:Bi)(base:Heap)(A:Qat)(outer:Da)(s:Qb)(H:Hp):Prop where
 frames:A.frames=some outer
 mod:Mod K mg base
 bs:∀b o,base.get? b=some o->s.heap.get? b=some o/\H b=none
 pj:base.objs.size<=s.heap.objs.size
 Dv:s.heap.FunFrames base outer
 u3:∀b∈ZX outer,H b=none
 f7:zJ P w H s.heap
 bare:AllBare s.gens
def CE(outer:Da)(P:Qax)(w:World)(H:Hp)(s:Qb)(Q:VK)(u:Value)(s':Qb):Prop:=
 ∃v H',s'.os=s.os/\AllBare s'.gens/\Un (ZX outer) [] H H' s.heap s'.heap/\zJ P w H' s'.heap/\RelV v u/\Q v H'
def CR(CX:tI)(outer:Da)(P:Qax)(w:World)(H:Hp)(s:Qb)(Q:VK)(E:XK)(r:Result)(s':Qb):Prop:=
 match r with
 | .ok (.ret u)=>CE outer P w H s Q u s'
 | .ok _=>False
 | .error e=>CX outer H s E e s'
structure fz(P:Qax)(w:World)(K:Frag)(mg:Bi)(base:Heap)(CX:tI)(k:Nat)(f:Addr)(fd:QaC)(ps:At)(sp:Sp):Prop where
 len:∀vs H Q E,sp vs H Q E->vs.length=ps.length
 run:∀(A:Qat) (outer:Da) (s:Qb) (H:Hp) (args:Args) (us:B0) (vs:BY) (Q:VK) (E:XK),eO k A->Sf P w K mg base A outer s H->BindsTo s fd args (ps.zip us)->Vals vs us->sp vs H Q E →
  codeAny (model P w) A (.call QR args) (CR CX outer P w H s Q E) s
variable{mg:Bi}{base:Heap}{CX:tI}{ps:At}
theorem fz.imp{f:Addr}{fd:QaC}{sp a:Sp}(F:fz P w K mg base CX k f fd ps sp)
  (h:∀vs H Q E,a vs H Q E->sp vs H Q E):fz P w K mg base CX k f fd ps a:=
 ⟨λvs H Q E q=>F.len vs H Q E (h _ _ _ _ q),λA outer s H args us vs Q E b he c hv hs=>F.run A _ s H args us vs Q E b he c hv (h _ _ _ _ hs)⟩
theorem Sf.make{outer:Da}(e:Sf P w K mg base A outer s H)(C:Addr)(us:B0)(kw:DA) :
  Sf P w K mg base (A.under QdA) outer s H:=⟨by first|exact e.frames|(simpa using e.frames),e.mod,e.bs,e.pj,e.Dv,e.u3,e.f7,e.bare⟩
variable{s':Qb}
theorem Inv.O6(I:QP):Sf X.prog X.w X.K X.mg X.base X.A X.stack s H:=
 ⟨I.ok.frames,I.ok.mod,I.bs,kM I.ok.pj I.sz,I.stack,I.K8,I.f7,I.bare⟩
theorem Inv.after{Q:VK}(I:QP)(h:CE X.stack X.prog X.w H s Q u s'):EP X pins σ Q u s':=by
 obtain⟨v,H',os,bare,un,f7,r,q⟩:=h;obtain⟨c,g,d,t,a⟩:=s';obtain rfl:a=s.os:=os;exact⟨v,H',I.call un f7 bare (λb z=>absurd z Wm),r,q⟩
noncomputable def Nl(sp:Sp)(D7:BY)(E:XK)(t:TA):TE:=λσ H Q=>t σ H λvs H1=>sp (vs++D7) H1 Q E
def Tx(C:Addr)(m:Str)(sp:Sp)(D7:BY)(E:XK)(ta:TE)(t:TA):TE:=λσ H Q=>ta σ H λx H1=>∃a dx fs,x=.ref a/\H1 a=some Qcp/\fs.lookup m=none ∧
 t σ H1 λvs H2=>sp (x::(vs++D7)) H2 Q E
def apk(C:Addr)(sp:Sp)(D7:BY)(E:XK)(t:TA):TE:=λσ H Q=>t σ H λvs H1=>∀x dx,H1 x=none->H1 dx=none->dx≠x →
 sp (.ref x::(vs++D7)) (upd (upd H1 dx (.own x)) x (.ins C dx [])) (λv H2=>v=.non/\Q (.ref x) H2) E
def Binds(K:Frag)(fd:QaC)(ps:At)(ds:B0):Prop:=
 ∀(s:Qb) (us:B0),K.In s.heap->(us++ds).length=ps.length->BindsTo s fd ⟨us,[]⟩ (ps.zip (us++ds))
theorem Binds.all{fd:QaC}(h:∀us:B0,us.length=ps.length->bindArgs fd ⟨us,[]⟩=pure (ps.zip us)):Binds K fd ps []:=λs us _ a=>by
 rw[km]at a ⊢;exact .of_eq (h us a)
def Passes(CX:tI)(X:Cx)(E:XK):Prop:=∀(pins:BM) (σ:St) (H:Hp) (s:Qb) (e:Value) (s':Qb),Inv X pins σ H s->CX X.stack H s E e s'->X.xe e s'
section
variable{f:Addr}{fd:QaC}{sp:Sp}{D7:BY}{ds:B0}{E:XK}{x m:Str}{apos:Pos}
def E4{Q:VK}{vs:BY}(F:Qb4)(d:eO k X.A)(i:Qch)(hd:Vals D7 ds)(c:Qcs)
  (I:QP) (r:Vals vs us) (h:sp (vs++D7) H Q E):wpAny Qr X.A (call QR us) Qa2 X.xe s:=by
 have b:=r.append hd;have g:=b.length▸F.len _ _ _ _ h;refine wpAny_call (codeAny_mono (F.run X.A _ s H _ _ _ Q E d I.O6 (i s us I.OO g) b h) λr s' a=>?_);cases r with
 | error e=>exact c pins σ H s e s' I a
 | ok j=>
  cases j with
  | ret u=>exact I.after a
  | next=>exact False.elim a
  | brk=>exact False.elim a
  | cont=>exact False.elim a
def D8(F:Qb4)(d:eO k X.A)(i:Qal)(hm:X.mg x=some QR)(g:Qds)(j:Qch)(hd:Vals D7 ds)(c:Qcs)
  (l:PA X Qaa t) (b:AD x:=by decide) (he:Qad:=by rfl) (hpl:Qap:=by rfl) :
  PE X QdS (Nl sp D7 E t):=by
 intro pins s σ H Q I h;refine tf (D5 I i hm ?_ b);refine JU I.ok.mod.xk g (f6 (l pos pins s σ H _ I h) λus s1 ⟨vs,H1,a,r,q⟩=>⟨a.OO,?_⟩) he hpl;exact E4 F d j hd c a r q
def aaI(F:Qb4)(c:eO k X.A)(e:Qal)(hm:X.mg x=some QR)(d:Qds)(g:Qch)(hd:Vals D7 ds)(b:Qcs)
  (a:AD x:=by decide):PE X (.Call (.Name x p) [] [] pos) (Nl sp D7 E XS):=by
 intro pins s σ H Q I h;refine tf (D5 I e hm ?_ a);exact callWith_K0 I.OO d (E4 F c g hd b I .nil h)
def Lc(he:PE X o ta)(c:jh X.K C)(hm:Meth X.K C m f)(F:Qb4)(v:eO k X.A)(y:Qch)(hd:Vals D7 ds)(n:Qcs)(z:PA X Qaa t)
  (j:Qad:=by rfl) (hpl:Qap:=by rfl)
  (p:eval Qca X.env=(do
   let U ← eval o X.env
   standAt apos.atName
   let (f,first) ← holding [U] (getMethod U m pl)
   callWith pos f first (backTo pos QbX) Qa6):=by rfl) :
  PE X Qca (Tx C m sp D7 E ta t):=by
 intro pins s σ H Q I h;refine JE (f6 Qbz λu s1 zz=>?_) p;obtain⟨x,H1,d,g,a,dx,fs,ex,B,l,q⟩:=zz;subst ex;obtain rfl:u=Value.ref a:=g;refine yx d B c hm l ?_;refine JU I.ok.mod.xk hm.kp (f6 (z pos pins s1 σ H1 _ d q) λus s2 ⟨vs,H2,b,r,i⟩=>⟨b.OO,?_⟩) j hpl;exact E4 (vs:=.ref a::vs) F v y hd n b (.cons rfl r) i
def O8(he:PE X o ta)(c:jh X.K C)(hm:Meth X.K C m f)(F:Qb4)(i:eO k X.A)(j:Qch)(hd:Vals D7 ds)(e:Qcs)
  (g:eval Qcb X.env=(do
   let U ← eval o X.env
   standAt apos.atName
   let (f,first) ← holding [U] (getMethod U m pl)
   callWith pos f first (backTo pos Qc1) Qa6):=by rfl) :
  PE X Qcb (Tx C m sp D7 E ta XS):=by
 intro pins s σ H Q I h;refine JE (f6 Qbz λu s1 zz=>?_) g;obtain⟨x,H1,b,d,a,dx,fs,ex,n,l,q⟩:=zz;subst ex;obtain rfl:u=Value.ref a:=d;refine yx b n c hm l ?_;exact callWith_K0 b.OO hm.kp (E4 (vs:=[.ref a]) F i j hd e b (.cons rfl .nil) q)
structure Mk(K:Frag)(C f:Addr):Prop where
 makes:makesIn K C=true
 init:findIn K QaU "__init__" = some (some QR)
 fn:isFn K QR=true
 kp:keepIn K QaU=true
def aaJ{Q:VK}{vs:BY}(M:Mk X.K C f)(F:Qb4)(l:eO (k+1) X.A)(n:Qch)(hd:Vals D7 ds)
  (j:Qcs) (I:QP) (r:Vals vs us)
  (h:∀x dx,H x=none->H dx=none->dx≠x->sp (.ref x::(vs++D7)) (upd (upd H dx (.own x)) x (.ins C dx [])) (λv H2=>v=.non/\Q (.ref x) H2) E) :
  wpAny Qr X.A (call QaU us) Qa2 X.xe s:=by
 have d:=h _ _ (I.f7.fresh (nZ _)) (I.f7.fresh (i5 _)) (k4 (x3 _));have b:=Inv.made (C:=C) I;have c:Vals (V.ref Qa9::(vs++D7)) _:=.cons rfl (r.append hd);have m:=by
  have e:=c.length;rw[F.len _ _ _ _ d]at e;exact e.symm
 refine wpAny_call (aaE I.OO M.makes M.init (sy.1 M.fn) (codeAny_mono (F.run _ _ _ _ _ _ _ _ E (l.make C us [])
  (b.O6.make C us []) (n _ _ b.OO m) c d) λr s' a=>?_))
 cases r with
 | error e=>exact j pins σ _ _ e s' b a
 | ok o=>
  cases o with
  | ret u=>
   obtain⟨v,H',p,g,ev,i⟩:=b.after a;subst ev;exact⟨g,⟨V.ref _,H',p,rfl,i⟩⟩
  | next=>exact False.elim a
  | brk=>exact False.elim a
  | cont=>exact False.elim a
def Ld(M:Mk X.K C f)(F:Qb4)(d:eO (k+1) X.A)(g:Qal)(hm:X.mg x=some QaU)(i:Qch)(hd:Vals D7 ds)(c:Qcs)
  (j:PA X Qaa t) (b:AD x:=by decide) (he:Qad:=by rfl) (hpl:Qap:=by rfl) :
  PE X QdS (apk C sp D7 E t):=by
 intro pins s σ H Q I h;refine tf (D5 I g hm ?_ b);refine JU I.ok.mod.xk M.kp (f6 (j pos pins s σ H _ I h) λus s1 ⟨vs,H1,a,r,q⟩=>⟨a.OO,?_⟩) he hpl;exact aaJ M F d i hd c a r q
end
def PK(X:Cx)(kws:ET)(t:TA):Prop:=
 ∀(pos:Pos) (pins:BM) (s:Qb) (σ:St) (H:Hp) (Q:EN),Inv X pins σ H s->t σ H Q->wpAny Qr X.A (evalAll ((backToKw pos (keywordEach kws X.env)).map (·.2))) (AP X pins σ Q) X.xe s
variable{x:Str}{atm:Pos}{kws:ET}{nm:Option Str}
noncomputable def aaK:PK X [] XS:=λ_ _ _ _ H Q I h=>wpAny_evalAll_nil ⟨[],H,I,.nil,h⟩
def V0(g:PE X e te)(f:PK X kws t):PK X (⟨nm,e,atm⟩::kws) (VZ te t):=by
 intro pos pins s σ H Q I h;refine wpAny_evalAll_cons (i9 (f6 Qdp λu s1 ⟨x,H1,j,b,d⟩=>i9 (GG (kA ?_))));exact f6 (f pos pins s1 σ H1 _ j d) λus s2 ⟨xs,H2,i,a,c⟩=>⟨ _,H2,i,.cons b a,c⟩
structure c6(N P:At)(sc:Scope):Prop where
 kind:sc.kind=.function
 co:sc.isCoroutine=false
 gen:sc.isGenerator=false
 nd:N.Nodup
 pre:N.take P.length=P
 par:∀x∈P,sc.names.lookup x=some .local\/sc.names.lookup x=some .cell
 akt:∀y∈sc.names,y.2 ≠ .free
theorem J2{kindOf:Str->Option NameKind}{x:Str}:∀{binds:DA} {m:Bi},(∀v,(x,v)∉binds)->bindL kindOf binds m x=m x
 | [],_,_=>rfl
 | (n,v)::r,m,h=>by
  unfold bindL;rw[J2 λw hw=>h w (i8 _ hw)];split
  .have:x≠n:=by rintro rfl;exact h v fX
   simp[this]
  .rfl
theorem J3{kindOf:Str->Option NameKind}{x:Str}:∀{binds:DA} {m:Bi},(∀v,(x,v)∉binds)->bindC kindOf binds m x=m x
 | [],_,_=>rfl
 | (n,v)::r,m,h=>by
  unfold bindC;rw[J3 λw hw=>h w (i8 _ hw)];split
  .rfl
  .have:x≠n:=by rintro rfl;exact h v fX
   simp[this]
theorem J4{kindOf:Str->Option NameKind}{x:Str}{v:Value}:∀{P:At} {vs:B0} {i:Nat} {m:Bi},P.Nodup->P[i]? = some x->vs[i]? = some v->kindOf x=some .local →
  bindL kindOf (P.zip vs) m x=some v
 | [],_,_,_,_,h,_,_=>by simp at h
 | _::_,[],_,_,_,_,h,_=>by simp at h
 | p::P,w::vs,0,m,nd,h1,h2,a=>by
  simp at h1 h2;subst h1;subst h2;show bindL _ ((p,w)::P.zip vs) m p=_;unfold bindL;rw[J2 λv hv=>(nk.1 nd).1 (List.of_mem_zip hv).1,dX a];simp
 | p::P,w::vs,i+1,m,nd,h1,h2,a=>by
  unfold bindL;exact J4 (nk.1 nd).2 (‹_›) (‹_›) a
theorem J5{kindOf:Str->Option NameKind}{x:Str}{v:Value}:∀{P:At} {vs:B0} {i:Nat} {m:Bi},P.Nodup->P[i]? = some x->vs[i]? = some v->kindOf x≠some .local →
  bindC kindOf (P.zip vs) m x=some v
 | [],_,_,_,_,h,_,_=>by simp at h
 | _::_,[],_,_,_,_,h,_=>by simp at h
 | p::P,w::vs,0,m,nd,h1,h2,a=>by
  simp at h1 h2;subst h1;subst h2;show bindC _ ((p,w)::P.zip vs) m p=_;unfold bindC;rw[J3 λv hv=>(nk.1 nd).1 (List.of_mem_zip hv).1,dP a];simp
 | p::P,w::vs,i+1,m,nd,h1,h2,a=>by
  unfold bindC;exact J5 (nk.1 nd).2 (‹_›) (‹_›) a
noncomputable def start(N:At)(vs:BY):St:=vs.map some++List.replicate (N.length-vs.length) none
noncomputable def se(CX:tI)(P:Qax)(w:World)(K:Frag)(mg:Bi)(base:Heap)(N:At)(qual:Str)(scope:Scope)(f:Addr)(cd:Value)(A:Qat)(outer:Da)(s:Qb)(H:Hp)(E:XK):Cx where
 prog:=P
 w:=w
 K:=K
 mg:=mg
 base:=base
 A:=A.deeper Qev
 N:=N
 jx:=s
 nq:=H
 env:=envOfC qual scope s.heap.objs.size f cd
 outer:=outer
 stack:=envOfC qual scope s.heap.objs.size f cd::outer
 ex:=[]
 calm:=true
 fn:=λ_=>true
 pn:=[]
 xe:=λe s'=>wpAny (model P w) (A.deeper Qev) (leaving Qev e) (λ_ a=>CX outer H s E e a) (λb a=>CX outer H s E b a) s'
def O9{sc:Scope}{n:Nat}(h:sc.names.lookup x=some .cell):∃c,(cellsFrom n sc.names []).lookup x=some c:=by
 have q:=cellsFrom_some _ n [] (.inl h);exact Option.isSome_iff_exists.1 q
theorem XT{N:At}{qual:Str}{scope:Scope}{f:Addr}{cd:Value}{outer:Da}{s1:Qb}{E:XK}{vs:BY}
  (S:c6 N ps scope) (hd:A.handled=none) (e0:Sf P w K mg base A outer s H) (B:vs.length=ps.length) (r:Vals vs us)
  (x:InCallC s s.heap.objs.size (bindL (envOfC qual scope s.heap.objs.size f cd).kindOf (ps.zip us) λ_=>none) (cellsFrom Qa9 scope.names []) (bindC (envOfC qual scope s.heap.objs.size f cd).kindOf (ps.zip us) λ_=>none) s1) :
  Inv (se CX P w K mg base N qual scope f cd A outer s H E) [] (start N vs) H s1:=by
 have hpl:ps.length<=N.length:=by have:=congrArg List.length S.pre;rw[mT]at this;lia
 obtain⟨h1,tk,rfl,m⟩:=x.done;have a:∀b:Addr,b∉(se CX P w K mg base N qual scope f cd A outer s H E).ex:=λb z=>absurd (show b∈([]:BS) from z) Wm;refine⟨⟨e0.mod,S.kind,rfl,rfl,i5 _,λy z c h1 h2=>?_,λy g=>?_,λy c _ h=>?_,λ_=>hd,Around.frames_deeper e0.frames,.inr ⟨rfl,rfl⟩,λb z=>absurd z (a b),e0.bs,e0.pj,λb _ _=>a b,λb z=>absurd z (a b),e0.Dv,e0.u3⟩,
  rfl,e0.bare,Un.kept m,⟨_,x.toInCall.ns,λi y v h1 h2 C=>?_⟩,λy c h=>⟨_,x.cell y c h⟩,e0.f7.fresh (i5 _),λy c h=>?_,λp j=>absurd (show p∈([]:BM) from j) Wm,e0.f7.kept m,?_⟩
 .exact name_of_addr x.apart (rb h1) (rb h2)
 .obtain g|g:=g
  .exact O9 g
  .exact absurd rfl (S.akt _ (rb g))
 .exact l0 (x.above y c (rb h))
 .have hi:i<vs.length:=by
   unfold start at h2;by_cases hi:i<vs.length
   .exact hi
   .rw[List.getElem?_append_right (by simpa using hi)]at h2;rw[NG]at h2;split at h2<;>cases h2
  have t:vs[i]? = some v:=by
   unfold start at h2;rw[List.getElem?_append_left (by simpa using hi),List.getElem?_map]at h2;simp_all
  obtain⟨u,l,o⟩:=r.get t;have j:ps[i]? = some y:=by
   rw[← S.pre,List.getElem?_take_of_lt Wc];exact h1
  have d:ps.Nodup:=by rw[← S.pre];exact S.nd.sublist (List.take_sublist _ _)
  refine⟨u,o,?_⟩;obtain k|k:=S.par y (l3 j)
  .exact .inl ⟨k,J4 d j l k⟩
  .obtain⟨c,e⟩:=O9 (n:=s.heap.objs.size+1) k;refine .inr ⟨.inl k,c,e,?_⟩;have q:=x.cell y c e;rw[J5 d j l (by show scope.names.lookup y≠_;rw[k];decide)]at q;exact q
 .exact e0.f7.fresh (l0 (x.above y c (rb h)))
 .unfold start;show _=N.length;grind
abbrev _root_.Ch:=Array (Option Value)
theorem Tu{f:Addr}{qual:Str}{params:Arguments}{body:Co}{scope:Scope}{d kV doc pm gE ct oc:Value}{an od:Db}
  {Sg:Ch} {N:At} {sp:Sp} (lk:K.lookup f=some ⟨oc,od,.func (fnOf name qual params body scope d kV doc pm an gE ct),Sg⟩) (kH:codeIn K gE qual=true) (S:c6 N ps scope)
  (len:∀vs H Q E,sp vs H Q E->vs.length=ps.length)
  (B:∀(A:Qat) (outer:Da) (s:Qb) (H:Hp) (vs:BY) (Q:VK) (E:XK),eO k (A.deeper (envOfC qual scope s.heap.objs.size f gE))->sp vs H Q E →
   ∃t,R1 (se CX P w K mg base N qual scope f gE A outer s H E) body t/\t {nx:=λ_ H'=>Q .non H',rt:=Q} (start N vs) H) :
  fz P w K mg base CX (k+1) f (fnOf name qual params body scope d kV doc pm an gE ct) ps sp:=by
 refine⟨len,λA outer s H args us vs Q E c e0 p r g=>?_⟩;have m:=len _ _ _ _ g;have h:=e0.mod.xk.keeps λb o e=>(e0.bs b o e).1;have lim:=e0.mod.nolimit.keeps λb o e=>(e0.bs b o e).1;have C:∀y∈ps.zip us,scope.names.lookup y.1=some _\/(scope.names.lookup y.1=some _/\((cellsFrom Qa9 _ []).lookup y.1).isSome=true):=λ⟨n,v⟩ i=>by
  obtain q|q:=S.par n (List.of_mem_zip i).1
  .exact .inl q
  .exact .inr ⟨q,cellsFrom_some _ _ _ (.inl q)⟩
 refine codeAny_call_function c.depth (h _ _ lk) rfl S.co S.gen rfl (PySem.W.codeRec_of h kH) (p _ _ _ _ ?_);refine wpAny_newFunctionEnv_cells S.kind C λenv he s1 x=>?_;subst he;refine⟨lim.keeps x.toInCall.keep,codeAny_func ?_⟩;obtain⟨t,j,l⟩:=B A _ s H vs Q E (c.deeper _) g;have I:Inv (se CX P w K mg base N qual _ f gE A _ s H E) [] _ H s1:=XT S c.hd e0 m r x;refine m3 (j [] s1 _ H _ I l) (λz s' hs=>?_) λe s' hs=>hs;have fin:∀{σ':St} {H':Hp} {v:V} {u:Value},Inv (se CX P w K mg base N qual scope f gE A _ s H E) [] σ' H' s'->RelV v u->Q v H'->CE outer P w H s Q u s':=
  λ{σ' H' v u} J a q=>⟨v,H',J.os,J.bare,J.base,J.f7,a,q⟩
 cases z with
 | ret u=>
  obtain⟨v,σ',H',J,a,q⟩:=hs;exact fin J a q
 | next=>
  obtain⟨σ',H',J,q⟩:=hs;exact fin (v:=V.non) J rfl q
 | brk=>
  obtain⟨_,_,_,q⟩:=hs;simp_all
 | cont=>
  obtain⟨_,_,_,q⟩:=hs;exact False.elim q
section
variable{id T:String}{r:BY->Hp->VK->Prop}
noncomputable def NU(r:BY->Hp->VK->Prop)(t:TA):TE:=λσ H Q=>t σ H λvs H1=>r vs H1 Q
def sf(g:r6 X (.builtin id) r)(f:Qal)(hm:X.mg x=none)(hv:bootBuiltins x=some (.builtin id))(i:PA X Qaa t)(d:x≠"__name__":=by decide)(a:AD x:=by decide)
  (he:Qad:=by rfl) (hpl:Qap:=by rfl):PE X QdS (NU r t):=by
 intro pins s σ H Q I h;refine tf (qV I f hm hv ?_ d a);exact PyProof.Rows.callWith_builtin1 (f6 (i pos pins s σ H _ I h) λus s1 ⟨vs,H1,j,b,c⟩=>g pins s1 σ H1 vs us Q j b c) he hpl
def kB(g:r6 X (.type T) r)(f:Qal)(hm:X.mg x=none)(hv:bootBuiltins x=some (.type T))(i:PA X Qaa t)(d:x≠"__name__":=by decide)(a:AD x:=by decide)
  (he:Qad:=by rfl) (hpl:Qap:=by rfl):PE X QdS (NU r t):=by
 intro pins s σ H Q I h;refine tf (qV I f hm hv ?_ d a);exact vT (f6 (i pos pins s σ H _ I h) λus s1 ⟨vs,H1,j,b,c⟩=>g pins s1 σ H1 vs us Q j b c) he hpl
end
end L2
namespace HT
open PySem PyProof.Rows
abbrev _root_.CU:=Option Int
noncomputable def Il(n d:Nat):CU->Nat
 | none=>d
 | some v=>if v<0 then(v+(n:Int)).toNat else min v.toNat n
end HT
namespace L2
open PySem PySem.Spec PyProof.Rows
abbrev TO:=St->Hp->(CU->Hp->Prop)->Prop
def PO(X:Cx)(e:Option Expr)(t:TO):Prop:=
 ∀(pins:BM) (s:Qb) (σ:St) (H:Hp) (Q:CU->Hp->Prop),Inv X pins σ H s->t σ H Q →
  wpAny Qr X.A (evalPart e X.env) (λu s'=>∃o H',Inv X pins σ H' s'/\IsPart u o/\Q o H') X.xe s
def afu:TO:=λ_ H Q=>Q none H
noncomputable def apl(t:TE):TO:=λσ H Q=>t σ H λx H1=>∃i,x=.int i/\Q (some i) H1
abbrev _root_.AT:=List Int
theorem intsAre_of{ns:AT}:∀{us:B0},Vals QbL us->IntsAre us ns:=by
 induction ns with
 | nil=>intro us r;cases r;exact .nil
 | cons n ns c=>
  intro us r;cases r with
  | cons b a=>
   obtain⟨t,e⟩:=b;subst e;exact .cons n t (c a)
variable{X:Cx}{e:Expr}{te:TE}{lo hi:Option Expr}{tl th:TO}{pos p2:Pos}
noncomputable def V2:PO X none afu:=λpins s σ H Q I h=>kA ⟨none,H,I,.none,h⟩
def V3(h:PE X e te):PO X (some e) (apl te):=by
 intro pins s σ H Q I hw;refine f6 (h pins s σ H _ I hw) λu s1 zz=>?_;obtain⟨x,H1,c,a,b⟩:=zz;obtain⟨i,rfl,q⟩:=b;obtain⟨t,rfl⟩:=a;exact⟨ _,H1,c,.int i t,q⟩
def SlR(X:Cx)(r:V->CU->CU->Hp->VK->Prop):Prop:=
 ∀(pins:BM) (s:Qb) (σ:St) (H:Hp) (x:V) (v b a:Value) (lo hi:CU) (sl:Addr) (Q:VK),Inv X pins σ H s->RelV x v->s.heap.IsSliceOf sl b a .none->IsPart b lo->IsPart a hi->r x lo hi H Q →
  ∃T id,typeLookup (.type T) "__getitem__" = pure (some (.builtin id))/\s.TypeIs v T/\wpAny Qr X.A (getItem v (.ref sl)) Qa2 X.xe s
noncomputable def tSl(r:V->CU->CU->Hp->VK->Prop)(te:TE)(tl th:TO):TE:=λσ H Q=>te σ H λx H1=>tl σ H1 λl H2=>th σ H2 λu a=>r x l u a Q
def Pb{r:V->CU->CU->Hp->VK->Prop}(n:SlR X r)(he:PE X e te)(o:PO X lo tl)(k:PO X hi th):PE X (.Subscript e (.Slice lo hi none p2) pos) (tSl r te tl th):=by
 intro pins s σ H Q I h;refine Subscript_ (f6 Qbz λv s1 zz=>?_);obtain⟨x,H1,A,f,j⟩:=zz;refine wpAny_Slice (f6 (o pins s1 σ H1 _ A j) λc s2 ⟨l,H2,z,pl,i⟩=>f6 (k pins s2 σ H2 _ z i) λa s3 zz=>?_);obtain⟨u,d,y,pu,g⟩:=zz;refine kA ?_;have w:Inv X pins σ d {s3 with heap:=s3.heap.push {cls:=.type "slice",data:=.fields #[c,a,.none]}}:=y.kept λb B q=>kv _ q;obtain⟨T,id,t,m,p⟩:=n pins _ σ d x v c a l u _ Q w f (Heap.IsSliceOf.new ..) pl pu g;exact tail_any m t p (rfl)
def Ee(xs:BY)(lo hi:CU):BY:=(xs.drop (HT.Il xs.length 0 lo)).take (HT.Il xs.length xs.length hi-HT.Il xs.length 0 lo)
theorem Pg(xs:BY)(lo hi:CU):(Ee xs lo hi).length<=xs.length:=by
 unfold Ee;rw[mT,List.length_drop];lia
noncomputable def Dy(n:Nat)(i:Int):Option Nat:=if 0<=i then(if i<n then some i.toNat else none) else if -(n:Int)<=i then some (i+n).toNat else none
variable{α:Type}
def vf(xs:Q3)(i:Int):Option α:=(Dy xs.length i).bind λj=>xs[j]?
variable{n:Nat}
theorem zN{i:Int}{j:Nat}(h:Dy n i=some j):seqIndex? i n=some j/\j<n /\ -(n:Int)<=i/\i<n:=by
 unfold Dy at h;by_cases h0:0<=i
 .rw[dX h0]at h;by_cases h1:i<n
  .rw[dX h1]at h;have e:=l1 h;exact⟨by rw[seqIndex_of h0 h1,e],Wc,Wc,h1⟩
  simp_all
 .rw[dP h0]at h;by_cases h1:-n<=i
  .rw[dX h1]at h;have e:=l1 h;exact⟨by rw[seqIndex_neg Wc h1,e],Wc,h1,Wc⟩
  simp_all
theorem V4{xs:Q3}{i:Int}{v:α}(h:vf xs i=some v):∃j,seqIndex? i xs.length=some j/\xs[j]? = some v/\j<xs.length /\ -(xs.length:Int)<=i/\i<xs.length:=by
 unfold vf at h;cases e:Dy _ i with
 | none=>rw[e]at h;cases h
 | some j=>
  rw[e]at h;obtain⟨h1,h2,b,a⟩:=zN e;exact⟨j,h1,h,h2,b,a⟩
theorem dQ{xs:Q3}{j:Nat}{v:α}(h:xs[j]? = some v):vf xs (j:Int)=some v:=by
 have a:=(lL.1 h).1;have e:Dy xs.length j=some j:=by
  unfold Dy;simp_all
 unfold vf;rw[e];exact h
theorem E6(xs:Q3)(v:α):vf (xs++[v]) (-1)=some v:=by
 have a:(xs++[v]).length=xs.length+1:=by simp
 have e:Dy (xs++[v]).length (-1)=some xs.length:=by
  unfold Dy;grind
 unfold vf;simp_all
def qE(b:Expr):Prop:=∀o i,subscripted b false o i=operate [o,i] (getItem o i)
def NM(X:Cx)(r:R2):Prop:=
 ∀(value slice:Expr) (pins:BM) (s:Qb) (σ:St) (H:Hp) (x y:V) (v u:Value) (Q:VK),Inv X pins σ H s->RelV x v->RelV y u->r x y H Q →
  subscripted slice false v u=operate [v,u] (getItem v u)->wpAny Qr X.A (subscriptTail value slice v u) Qa2 X.xe s
abbrev _root_.EO:=V->BY->Hp->VK->Prop
def NL(X:Cx)(id:String)(r:EO):Prop:=
 ∀(pins:BM) (s:Qb) (σ:St) (H:Hp) (x:V) (xs:BY) (v:Value) (us:B0) (Q:VK),Inv X pins σ H s->RelV x v->Vals xs us->r x xs H Q →
  wpAny Qr X.A (call (.builtin id) (v::us)) Qa2 X.xe s
section
variable{a b:Expr}{ta tb:TE}
noncomputable def E8{r:R2}(e:NM X r)(g:PE X a ta)(f:PE X b tb)(hs:qE b):PE X (.Subscript a b pos) (w8 r ta tb):=λpins s σ H Q I h=>Subscript_ (LM g f I h λv u s2 x y H2 i d c q=>e a b pins s2 σ H2 x y v u Q i d c q (hs _ _))
def atp(K:Frag):R2:=λx y H Q=>∃p xs i v,x=.ref p/\y=.int i/\nT K H p xs/\vf xs i=some v/\Q v H
def atq(K:Frag):R2:=λx y H Q=>∃p xs i v,x=.ref p/\y=.int i/\zK K H p xs/\vf xs i=some v/\Q v H
theorem D9:NM X (atp X.K):=by
 intro value slice pins s σ H x y v u Q I c b h hs;obtain⟨p,xs,i,z,rfl,rfl,d,he,q⟩:=h;cases c;obtain⟨t,rfl⟩:=b;obtain⟨its,r,pl,hz⟩:=I.list d;obtain⟨j,h1,h2,m,g,f⟩:=V4 he;obtain⟨w,n,a⟩:=r.get h2;have l:=r.length;have k:=E2;have fin:EP X pins σ Q w s:=⟨z,H,I,a,q⟩;by_cases h0:0<=i
 .have e:i.toNat=j:=by
   rw[seqIndex_of h0 f]at h1;grind
  exact item_listR pl.isList h0 Wc Wp fin hs
 .have e:(i+its.toArray.size).toNat=j:=by
   rw[seqIndex_neg Wc g]at h1;simp_all
  exact subscriptTail_builtinR pl.isList.typeIs slot_list_getitem.lookup
   (wpAny_getItem_list_neg pl.isList Wc Wp Wc Wp ⟨rfl,fin⟩) hs
theorem Sh:NM X (atq X.K):=by
 intro value slice pins s σ H x y v u Q I c b h hs;obtain⟨p,xs,i,z,rfl,rfl,d,he,q⟩:=h;cases c;obtain⟨t,rfl⟩:=b;obtain⟨its,r,pl,hz⟩:=I.tuple d;obtain⟨j,h1,h2,l,k,g⟩:=V4 he;obtain⟨w,m,a⟩:=r.get h2;have f:=r.length;have e:=E2;have fin:EP X pins σ Q w s:=⟨z,H,I,a,q⟩;exact subscriptTail_builtinR pl.typeIs slot_tuple_getitem.lookup
  (getItem_tuple (j:=j) pl Wc Wc Wp Wp ⟨rfl,fin⟩) hs
noncomputable def Si(its:B0)(n j:Nat)(u:Value):Obj.mapSeq (·.setIfInBounds j u) {cls:=.type "list",data:=.seq its.toArray n}={cls:=.type "list",data:=.seq (its.set j u).toArray n}:=by
 simp[Obj.mapSeq]
theorem Inv.lst{pins:BM}{σ:St}{H:Hp}{s:Qb}{p:Addr}{xs:BY}(I:QP)(h:H p=some QaS) :
  ∃(its:B0) (n:Nat),Vals xs its/\s.heap.get? p=some {cls:=.type "list",data:=.seq its.toArray n}/\xs.length<=sizeLine:=by
 obtain⟨z,its,n,r,e⟩:=I.f7 p _ h;exact⟨its,n,r,e,z⟩
theorem Inv.aku{pins:BM}{σ:St}{H:Hp}{s:Qb}{p:Addr}{xs ys:BY}{its a:B0}{c:Nat}{f:Obj->Obj}(I:QP)(h:H p=some QaS)
  (d:s.heap.get? p=some {cls:=.type "list",data:=.seq its.toArray n}) (hf:f {cls:=.type "list",data:=.seq its.toArray n}={cls:=.type "list",data:=.seq a.toArray c}) (r:Vals ys a) (hz:ys.length<=sizeLine) (t:Nat) :
  Inv X pins σ (upd H p (.lst ys)) {s with heap:=s.heap.update p f,toks:=t}:=by
 have e:(s.heap.update p f).get? p=some {cls:=.type "list",data:=.seq a.toArray c}:=by
  rw[Jn f d (by rw[hf]<;>rfl),hf]
 refine I.write (by rw[h];trivial) Qae (λb u g q=>(Fs _ _ (mB g)).trans q) ⟨_,e⟩ ?_;exact⟨hz,a,c,r,e⟩
def apm:V->V->V->Hp->(Hp->Prop)->Prop:=λo i v H Q=>∃p xs k j,o=.ref p/\i=.int k/\H p=some QaS/\Dy xs.length k=some j/\Q (upd H p (.lst (xs.set j v)))
theorem set_list:Pw X apm:=by
 intro pins s σ H o i v x y u Q I f g e h;obtain⟨p,xs,k,j,rfl,rfl,c,l,q⟩:=h;cases f;obtain⟨t,rfl⟩:=g;obtain⟨its,n,r,a,hz⟩:=I.lst c;obtain⟨h1,h2,w,m⟩:=zN l;have A:=r.length;have z:=E2;have d:=
  I.aku c a (Si its n j u) (r.set e j) Wp s.toks
 by_cases h0:0<=k
 .have b:k.toNat=j:=by
   rw[seqIndex_of h0 m]at h1;grind
  exact PySem.W.ki_setAt a h0 Wc Wp (b▸⟨_,d,q⟩)
 .have b:(k+its.toArray.size).toNat=j:=by
   rw[seqIndex_neg Wc w]at h1;simp_all
  exact PySem.W.ki_setBack a Wc Wp Wc (b▸⟨_,d,q⟩)
theorem Le(lo hi:CU)(n:Nat):(sliceBounds lo hi none n).1=((HT.Il n 0 lo:Nat):Int)/\(sliceBounds lo hi none n).2.1=((HT.Il n n hi:Nat):Int)/\(sliceBounds lo hi none n).2.2=1:=by
 refine⟨?_,?_,rfl⟩
 .cases lo with
  | none=>simp[sliceBounds,HT.Il]
  | some i=>
   simp[sliceBounds,HT.Il,ox];by_cases h:i<0
   .simp only[h,ox]<;>lia
   .simp[h]<;>lia
 .cases hi with
  | none=>simp[sliceBounds,HT.Il]
  | some i=>
   simp[sliceBounds,HT.Il,ox];by_cases h:i<0
   .simp only[h,ox]<;>lia
   .simp[h]<;>lia
def Ir(its:B0)(lo hi:CU):slicePick its.toArray lo hi none=((its.drop (HT.Il its.length 0 lo)).take (HT.Il its.length its.length hi-HT.Il its.length 0 lo)).toArray:=by
 obtain⟨h1,h2,a⟩:=Le lo hi _;unfold slicePick;rw[h1,h2,a];simp only[sliceRange_one,pick_run]<;>rfl
def atr(K:Frag):V->CU->CU->Hp->VK->Prop:=λx lo hi H Q=>∃a xs,x=.ref a/\nT K H a xs/\∀p,H p=none->Q (.ref p) (upd H p (.lst (Ee xs lo hi)))
theorem V5:SlR X (atr X.K):=by
 intro pins s σ H x v g f lo hi sl Q I d hs pl pu h;obtain⟨a,xs,rfl,e,q⟩:=h;cases d;obtain⟨its,r,c,hz⟩:=I.list e;have hlen:=r.length;refine⟨ _,_,slot_list_getitem.lookup,c.isList.typeIs,?_⟩;refine wpAny_getItem_list_slice c.isList hs pl pu .none Wm ?_ WA;rw[Ir,← hlen];refine⟨.ref _,_,I.laid (λb i q=>kv _ q) (i5 _) ?_,rfl,q _ (I.f7.fresh (i5 _))⟩;exact⟨kM (Pg xs lo hi) hz,_,0,(r.drop _).take _,mi _ rfl⟩
noncomputable def x9:V->Bool
 | .non=>true
 | .bl _=>true
 | .int _=>true
 | .str _ => true
 | _=>false
noncomputable def ot:V->V->Bool
 | .non,.non=>true
 | .bl a,.bl b=>a==b
 | .bl a,.int b=>(if a then 1 else 0)==b
 | .int a,.bl b=>a==(if b then 1 else 0)
 | .int a,.int b=>a==b
 | .str a, .str b => a == b
 | _,_=>false
theorem akv{A:Qat}{s:Qb}{y x:V}{u v:Value}(d:RelV y u)(c:RelV x v)(e:x9 y=true)(fx:x9 x=true):SeqAt.EqAt A s u v (ot y x):=by
 cases y with
 | non=>
  cases d;cases x with
  | non=>cases c;exact SeqAt.EqAt.same _
  | bl b=>cases c;exact SeqAt.EqAt.none_bool b
  | int b=>obtain⟨t,rfl⟩:=c;exact SeqAt.EqAt.none_int b t
  | str b=>obtain⟨t,rfl⟩:=c;exact SeqAt.EqAt.none_str b t
  | _=>exact absurd (show false=true from fx) mx
 | bl a=>
  cases d;cases x with
  | non=>cases c;exact SeqAt.EqAt.bool_none a
  | bl b=>cases c;exact SeqAt.EqAt.bool_bool a b
  | int b=>obtain⟨t,rfl⟩:=c;exact SeqAt.EqAt.bool_int a b t
  | str b=>obtain⟨t,rfl⟩:=c;exact SeqAt.EqAt.bool_str a b t
  | _=>exact absurd (show false=true from fx) mx
 | int a=>
  obtain⟨t',rfl⟩:=d;cases x with
  | non=>cases c;exact SeqAt.EqAt.int_none a t'
  | bl b=>cases c;exact SeqAt.EqAt.int_bool a t' b
  | int b=>obtain⟨t,rfl⟩:=c;exact SeqAt.EqAt.int_int a t' b t
  | str b=>obtain⟨t,rfl⟩:=c;exact SeqAt.EqAt.int_str a t' b t
  | _=>exact absurd (show false=true from fx) mx
 | str a=>
  obtain⟨t',rfl⟩:=d;cases x with
  | non=>cases c;exact SeqAt.EqAt.str_none a t'
  | bl b=>cases c;exact SeqAt.EqAt.str_bool a t' b
  | int b=>obtain⟨t,rfl⟩:=c;exact SeqAt.EqAt.str_int a t' b t
  | str b=>obtain⟨t,rfl⟩:=c;exact SeqAt.EqAt.str_str a t' b t
  | _=>exact absurd (show false=true from fx) mx
 | _=>exact absurd (show false=true from e) mx
def u9(x:V)(u:Value):Bool:=match u with
 | .none=>ot .non x
 | .bool b=>ot (.bl b) x
 | .int i _=>ot Qaw x
 | .str z _ => ot (.str z) x
 | _=>false
theorem aaN{x y:V}{u:Value}(r:RelV y u)(f:x9 y=true):u9 x u=ot y x:=by
 cases y with
 | non=>cases r;rfl
 | bl b=>cases r;rfl
 | int i=>obtain⟨t,rfl⟩:=r;rfl
 | str z=>obtain⟨t,rfl⟩:=r;rfl
 | _=>exact absurd (f) mx
theorem zO{x:V}:∀{xs:BY} {us:B0},Vals xs us->xs.all x9=true->us.any (u9 x)=xs.any λy=>ot y x
 | _,_,.nil,_=>rfl
 | y::xs,u::us,.cons r t,f=>by
  rw[F1,lx]at f;rw[pv,pv,aaN r f.1,zO t f.2]
theorem vn{A:Qat}{s:Qb}{x:V}{v:Value}(b:RelV x v)(fx:x9 x=true):∀{xs:BY} {us:B0},Vals xs us->xs.all x9=true->∀u∈us,SeqAt.EqAt A s u v (u9 x u)
 | _,_,.nil,_=>λu a=>by cases a
 | y::xs,u::us,.cons r t,f=>λc a=>by
  rw[F1,lx]at f;obtain rfl|a:=fO.1 a
  .rw[aaN r f.1];exact akv r b f.1 fx
  .exact vn b fx t f.2 c a
def uu(x:V)(xs:BY):Bool:=xs.any λy=>ot y x
def NY(K:Frag)(neg:Bool):R2:=λx y H Q=>∃p xs,y=.ref p/\(nT K H p xs\/zK K H p xs)/\x9 x=true/\xs.all x9=true/\Q (.bl (if neg then !uu x xs else uu x xs)) H
def wY:zL X (compareOp .In) (NY X.K false):=by
 intro pins s σ H x y v u Q I b c h;obtain⟨p,xs,rfl,a,fx,fs,q⟩:=h;cases c;obtain a|a:=a
 .obtain⟨its,r,pl,hz⟩:=I.list a;refine SeqAt.in_listAt _ pl.isList Qd1 ⟨.bl _,H,I,rfl,?_⟩;rw[show its.toArray.any _=its.any (u9 x) by simp,zO r fs];exact q
 .obtain⟨its,r,pl,hz⟩:=I.tuple a;refine SeqAt.in_tupleAt _ pl Qd1 ⟨.bl _,H,I,rfl,?_⟩;rw[show its.toArray.any _=its.any (u9 x) by simp,zO r fs];exact q
def oN:zL X (compareOp .NotIn) (NY X.K true):=by
 intro pins s σ H x y v u Q I b c h;obtain⟨p,xs,rfl,a,fx,fs,q⟩:=h;cases c;obtain a|a:=a
 .obtain⟨its,r,pl,hz⟩:=I.list a;refine SeqAt.notIn_listAt _ pl.isList Qd1 ⟨.bl _,H,I,rfl,?_⟩;rw[show its.toArray.any _=its.any (u9 x) by simp,zO r fs];exact q
 .obtain⟨its,r,pl,hz⟩:=I.tuple a;refine SeqAt.notIn_tupleAt _ pl Qd1 ⟨.bl _,H,I,rfl,?_⟩;rw[show its.toArray.any _=its.any (u9 x) by simp,zO r fs];exact q
theorem Lf:r6 X (.builtin "len") (λxs H Q=>∃p ys,xs=[.ref p]/\(nT X.K H p ys\/zK X.K H p ys)/\Q (.int ys.length) H):=by
 intro pins s σ H xs us Q I r h;obtain⟨p,ys,rfl,a,q⟩:=h;obtain⟨u,rfl,c⟩:=vals1 r;cases c;have d:=E2;obtain a|a:=a
 .obtain⟨its,b,pl,hz⟩:=I.list a;have hlen:=b.length;exact Calls.call_len_list pl.isList (by simp only[oy]<;>lia) ⟨.int _,H,I.tok _,⟨s.toks+1,by simp_all ⟩,q⟩
 .obtain⟨its,b,pl,hz⟩:=I.tuple a;have hlen:=b.length;exact len_tuple pl (by simp only[oy]<;>lia) ⟨.int _,H,I.tok _,⟨s.toks+1,by simp_all ⟩,q⟩
theorem zP:r6 X (.type "list") (λxs H Q=>∃p ys,xs=[.ref p]/\(nT X.K H p ys\/zK X.K H p ys)/\∀l,H l=none->Q (.ref l) (upd H l (.lst ys))):=by
 intro pins s σ H xs us Q I r h;obtain⟨p,ys,rfl,c,q⟩:=h;obtain⟨u,rfl,i⟩:=vals1 r;cases i;have fin:∀(its:List _),Vals ys its->ys.length<=sizeLine->∀(h':Heap) (g:Nat),(∀b o',s.heap.get? b=some o'->h'.get? b=some o') →
   h'.get? _=some _->EP X pins σ Q _ _:=λits a hz h' g kp e=>
  ⟨.ref _,_,I.laid (t':=s.toks) kp (i5 _) (show gW _ X.w _ h' _ (.lst ys) from⟨hz,its,g,a,e⟩),rfl,q _ (I.f7.fresh (i5 _))⟩
 obtain c|c:=c
 .obtain⟨its,a,pl,hz⟩:=I.list c;have hlen:=a.length;obtain⟨o,d,f,n,hd⟩:=pl.isList;exact call_list_seq p Qae d f hd (fin its a hz) WA
 .obtain⟨its,a,pl,hz⟩:=I.tuple c;have hlen:=a.length;obtain⟨o,d,f,n,hd⟩:=pl;exact call_list_seq p QaG d f hd (fin its a hz) WA
theorem yb:r6 X (.type "tuple") (λxs H Q=>∃p ys,xs=[.ref p]/\((nT X.K H p ys/\∀l,H l=none->Q (.ref l) (upd H l (.tup ys)))\/(zK X.K H p ys/\Q (.ref p) H))):=by
 intro pins s σ H xs us Q I r h;obtain⟨p,ys,rfl,h⟩:=h;obtain⟨u,rfl,f⟩:=vals1 r;cases f;obtain⟨c,q⟩|⟨c,q⟩:=h
 .obtain⟨its,a,pl,hz⟩:=I.list c;have hlen:=a.length;refine call_tuple_list pl.isList (λh' kp=>?_) WA;have d:=I.kept (t':=s.toks) kp;have g:=
   d.laid (t':=s.toks) (λb o e=>kv _ e) (i5 _) (show gW _ X.w _ _ _ (.tup ys) from⟨hz,its,a,IsTup.new _ _⟩)
  exact⟨.ref _,_,g,rfl,q _ (d.f7.fresh (i5 _))⟩
 .obtain⟨its,a,pl,hz⟩:=I.tuple c;exact call_tuple_same pl ⟨.ref p,H,I,rfl,q⟩
def KO(K:Frag)(T:String)(x:V)(H:Hp):Prop:=match x with
 | .str _ => T = "str"
 | .int _=>T="int"
 | .ref p=>(T="list" /\ ∃xs,nT K H p xs)\/(T="tuple" /\ ∃o,K.lookup p=some o/\o.cls=.type "tuple" /\ o.dict=none) ∨
   (T="dict" /\ ((∃kvs,H p=some (.dK kvs))\/∃kvs,H p=some (.dT kvs)))\/(T="set" /\ ∃S n,H p=some (.set S n))
 | _=>False
theorem aaO{pins:BM}{σ:St}{H:Hp}{s:Qb}{T:String}{x:V}{v:Value}(I:QP)(r:RelV x v)(ty:KO X.K T x H) :
  s.TypeIs v T/\∀a,v=.ref a->∃d,s.heap.get? a=some d/\d.dict=none:=by
 cases x with
 | str z=>
  obtain⟨t,rfl⟩:=r;cases (ty);exact⟨typeIs_str s z t,λ_ e=>nomatch e⟩
 | int i=>
  obtain⟨t,rfl⟩:=r;cases (ty);exact⟨typeIs_int s i t,λ_ e=>nomatch e⟩
 | ref p=>
  cases r;obtain⟨rfl,xs,f⟩|⟨rfl,o,b,g,hd⟩|⟨rfl,b⟩|⟨rfl,S,n,b⟩:=ty
  .obtain⟨its,_,pl,_⟩:=I.list f;refine⟨pl.isList.typeIs,λa e=>?_⟩;obtain⟨o,n,e,c,hd,_⟩:=pl;simp_all
  .refine⟨⟨o,I.OO p o b,g⟩,λa e=>?_⟩;cases e;exact⟨o,I.OO _ o b,hd⟩
  .have z:∃o,s.heap.get? p=some o/\o.ExactDict:=by
    obtain⟨kvs,b⟩|⟨kvs,b⟩:=b
    .obtain⟨_,_,_,_,o,_,_,e,ex,_⟩:=I.f7 p _ b;simp_all
    .obtain⟨_,_,_,_,o,_,_,e,ex,_⟩:=I.f7 p _ b;simp_all
   obtain⟨o,e,ex⟩:=z;refine⟨⟨o,e,ex.1⟩,λa e2=>?_⟩;cases e2;exact⟨o,e,ex.2.1⟩
  .obtain⟨o,_,_,_,e,ex,_⟩:=I.f7 p _ b;refine⟨⟨o,e,ex.1⟩,λa e2=>?_⟩;cases e2;exact⟨o,e,ex.2.1⟩
 | _=>exact False.elim ty
noncomputable def att(K:Frag)(T:String)(r:EO)(to:TE):TE:=λσ H Q=>to σ H λx H1=>KO K T x H1/\r x [] H1 Q
noncomputable def tBM(K:Frag)(T:String)(r:EO)(to:TE)(t:TA):TE:=λσ H Q=>to σ H λx H1=>KO K T x H1/\t σ H1 λxs H2=>r x xs H2 Q
variable{o:Expr}{es:Cc}{to:TE}{t:TA}{name:Str}{apos Ph:Pos}{T id:String}{r:EO}
def aky(pa:PlainAttrs T)(slot:Slot T name id)(b:typeOf (.builtin id)=pure (.type "method_descriptor"))(hm:NL X id r)(g:PE X o to)
  (f:AS X o name:=by rfl) (a:(apos.endLine==Ph.line)=true:=by rfl):PE X (.Call (.Attribute o name apos) [] [] Ph) (att X.K T r to):=by
 intro pins s σ H Q I h;refine wpAny_Call_method0_late f a (f6 Qdp λv s1 zz=>?_);obtain⟨x,H1,d,c,ty,e⟩:=zz;obtain⟨h1,h2⟩:=aaO d c ty;exact⟨T,id,pa,slot,b,h1,h2,Calls.callWith_builtin rfl (PySem.evalArgs_none (hm pins s1 σ H1 x [] v [] Q d c .nil e))⟩
def Pj(pa:PlainAttrs T)(slot:Slot T name id)(b:typeOf (.builtin id)=pure (.type "method_descriptor"))(hm:NL X id r)(l:PE X o to)(m:PA X Qaa t)
  (k:AS X o name:=by rfl)
  (q:((backTo Ph QbX).all (λx=>!x.1)&&(backToKw Ph (keywordEach [] X.env)).all (λx=>x.1.isSome)
   && decide ((e::es).length+([]:ET).length+QdL<30))=true:=by rfl)
  (a:(apos.endLine==Ph.line)=true:=by rfl) (hs:Qad:=by rfl) (n:AL X Ph es:=by rfl) :
  PE X (.Call (.Attribute o name apos) Qaa [] Ph) (tBM X.K T r to t):=by
 intro pins s σ H Q I h;refine wpAny_Call_method_late k q a rfl (f6 (l pins s σ H _ I h) λv s1 zz=>?_);obtain⟨x,H1,f,c,ty,j⟩:=zz;obtain⟨h1,h2⟩:=aaO f c ty;refine⟨T,id,pa,slot,b,h1,h2,?_⟩;have d:=m Ph pins s1 σ H1 _ f j;rw[hs]at d ⊢;refine Calls.callWith_builtin (‹_›) (Calls.evalArgs_plain ?_);exact f6 d λus s2 ⟨vs,H2,p,g,i⟩=>hm pins s2 σ H2 x vs v us Q p c g i
end
def yB(X:Cx)(id:String)(r:EO):Prop:=
 ∀(pins:BM) (s:Qb) (σ:St) (H:Hp) (x:V) (xs:BY) (v:Value) (us:B0) (Q:VK),Inv X pins σ H s->RelV x v->Vals xs us->r x xs H Q →
  wpAny Qr X.A (call (.builtin id) (v::us)) Qa2 X.xe s
variable{x:V}
theorem Vals.one{us:B0}(h:Vals [x] us):∃u,us=[u]/\RelV x u:=by
 cases h with
 | cons r h=>cases h;exact⟨_,rfl,r⟩
theorem Vals.zero:∀{us:B0},Vals [] us->us=[]
 | _,.nil=>rfl
variable{xs:BY}
theorem Vals.dropLast{us:B0}(h:Vals xs us):Vals xs.dropLast us.dropLast:=by
 induction h with
 | nil=>exact .nil
 | cons r t a=>
  cases t with
  | nil=>exact .nil
  | cons q t'=>exact .cons r a
theorem Vals.eraseIdx:∀{xs:BY} {us:B0} (i:Nat),Vals xs us->Vals (xs.eraseIdx i) (us.eraseIdx i)
 | _,_,_,.nil=>.nil
 | _,_,0,.cons _ t=>t
 | _,_,i+1,.cons r t=>.cons r (Vals.eraseIdx i t)
theorem Vals.rep{xs:BY}{us:B0}(h:Vals xs us):∀k:Nat,Vals (List.replicate k xs).flatten (List.replicate k us).flatten
 | 0=>.nil
 | k+1=>Vals.append h (Vals.rep h k)
theorem J6{α:Type}:∀(l:Q3) (i:Nat),(l.eraseIdx i).length<=l.length
 | [],_=>i5 _
 | _::_,0=>nZ _
 | _::r,i+1=>Nat.succ_le_succ (J6 r i)
theorem foldl_rep(its:B0):∀(k:Nat) (acc:B0),
  List.foldl (λb a=>b++a) acc.toArray (List.replicate k its.toArray)=(acc++(List.replicate k its).flatten).toArray
 | 0,acc=>by simp
 | k+1,acc=>by
  have e:acc.toArray++its.toArray=(acc++its).toArray:=by simp
  have e2:(acc++its)++(List.replicate k its).flatten=acc++(List.replicate (k+1) its).flatten:=by
   rw[List.replicate_succ,List.flatten_cons,jw]
  rw[← e2,← foldl_rep its k _,← e,List.replicate_succ,vk]
variable{pins:BM}{σ:St}{H:Hp}{s:Qb}{l:Addr}{ys:BY}
theorem Inv.Dw{its a:B0}{f:CI->CI}{t':Nat}(I:QP)(d:H l=some QaS)
  (e:s.heap.get? l=some {cls:=.type "list",data:=.seq its.toArray n}) (hf:f its.toArray=a.toArray) (hv:Vals ys a) (hz:ys.length<=sizeLine) :
  Inv X pins σ (upd H l (.lst ys)) {s with heap:=s.heap.update l (Obj.mapSeq f),toks:=t'}:=by
 have q:=PySem.IsL.update e f;rw[hf]at q;refine I.write (d▸trivial) Qae (λg u c b=>(Fs _ _ (mB c)).trans b) ⟨_,q⟩ ?_;exact⟨hz,a,_,hv,q⟩
theorem Inv.O3{its:B0}{t':Nat}(I:QP)(hv:Vals ys its)(hz:ys.length<=sizeLine) :
  Inv X pins σ (upd H s.heap.objs.size (.lst ys)) {s with heap:=s.heap.push {cls:=.type "list",data:=.seq its.toArray},toks:=t'}:=
 I.laid (λ_ _ q=>kv _ q) (i5 _) ⟨hz,its,0,hv,mi _ rfl⟩
theorem Inv.fresh(I:QP):H s.heap.objs.size=none:=I.f7.fresh (i5 _)
theorem Inv.Dp(I:QP)(a:H l=some QaS):xs.length<=sizeLine/\∃(its:B0) (n:Nat),Vals xs its/\xs.length=its.length/\s.heap.get? l=some {cls:=.type "list",data:=.seq its.toArray n}:=by
 obtain⟨z,its,n,r,e⟩:=I.f7 l _ a;exact⟨z,its,n,r,r.length,e⟩
theorem E9(h:n<=sizeLine):Builtin.List.listTooLong n=false:=mn Wc
def afw:V->BY->Hp->VK->Prop:=λx vs H Q=>∃l xs y,x=.ref l/\vs=[y]/\H l=some QaS/\xs.length<sizeLine/\Q .non (upd H l (.lst (xs++[y])))
theorem Br:yB X "list.append" afw:=by
 intro pins s σ H x vs v us Q I b c h;obtain⟨l,xs,y,rfl,rfl,a,hz,q⟩:=h;cases b;obtain⟨u,rfl,d⟩:=c.one;obtain⟨z,its,n,r,f,e⟩:=I.Dp a;refine sx F.slot_list_append ⟨_,e,rfl⟩ F.entry_list_append (F.args_list_append_2 _ _) (PySem.list_append l _ n u WA) ⟨e,?_⟩;refine⟨.non,_,I.Dw a e Wm (r.append (.cons d .nil)) ?_,rfl,q⟩;grind
def atv:V->BY->Hp->VK->Prop:=λx vs H Q=>∃l xs y,x=.ref l/\vs=[]/\H l=some QaS/\xs[xs.length-1]? = some y/\Q y (upd H l (.lst xs.dropLast))
theorem akz:yB X "list.pop" atv:=by
 intro pins s σ H x vs v us Q I d f h;obtain⟨l,xs,y,rfl,rfl,c,i,q⟩:=h;cases d;have b:=f.zero;subst b;obtain⟨z,its,n,r,k,e⟩:=I.Dp c;obtain⟨u,j,g⟩:=r.get i;have a:its.toArray[its.toArray.size-1]? = some u:=by simp_all
 refine sx F.slot_list_pop ⟨_,e,rfl⟩ F.entry_list_pop (F.args_list_pop_1 _) (MeetsSeq.list_pop_last l _ n u a Wp) ⟨e,?_⟩;refine⟨y,_,I.Dw c e ?_ r.dropLast ?_,g,q⟩
 .simp_all
 .rw[List.length_dropLast];lia
def akA:V->BY->Hp->VK->Prop:=λx vs H Q=>∃l xs i k y,x=.ref l/\vs=[.int i]/\H l=some QaS /\ -(2 ^ 63)<=i/\i<2 ^ 63/\seqIndex? i xs.length=some k/\xs[k]? = some y/\Q y (upd H l (.lst (xs.eraseIdx k)))
theorem aaS:yB X "list.pop" akA:=by
 intro pins s σ H x vs v us Q I c d h;obtain⟨l,xs,i,k,y,rfl,rfl,b,h1,h2,m,g,q⟩:=h;cases c;obtain⟨u,rfl,f⟩:=d.one;obtain⟨t,rfl⟩:=f;obtain⟨z,its,n,r,j,e⟩:=I.Dp b;obtain⟨w,hw,a⟩:=r.get g;refine sx F.slot_list_pop ⟨_,e,rfl⟩ F.entry_list_pop (F.args_list_pop_2 _ _)
  (MeetsSeq.list_pop_at l _ n i t k w (fitsIndex_both h1 h2) Wp Wp Wp) ⟨e,?_⟩
 refine⟨y,_,I.Dw b e ?_ (r.eraseIdx k) ?_,a,q⟩
 .simp_all
 .have:=J6 xs k;lia
def len_rep(xs:Q3)(k:Nat):(List.replicate k xs).flatten.length=k*xs.length:=by simp
end L2
namespace Att
open PySem PySem.W PySem.Calls PyProof.Rows
def Dz{P:Params}{h:Heap}:∀(ns:AT) (vs:B0),WellAll P h vs (ns.map WData.int)->IntsAre vs ns:=by
 intro ns
 induction ns with
 | nil=>
  intro vs w;cases w;exact .nil
 | cons n ns c=>
  intro vs w;cases w with
  | cons a b=>
   cases a;exact .cons _ _ (c _ b)
theorem XU{l:OpenLaw}{n:Nat}(j:l.most=some n){P:Params}{h:Heap}{args:List WData}{vals:B0}
  (e:l.row.toRowW.claim.pre args=true) (o:WellAll P h vals args) :
  ∃a vs ns,vals=[Value.ref a]/\args=[WData.list (ns.map WData.int)]/\h.get? a=some {cls:=.type "list",data:=.seq vs.toArray}/\IntsAre vs ns/\ns.length<=n:=by
 have Hk:=(pre_splitW e).1;have k:=(pre_splitW e).2;obtain⟨d,r,rfl,h1,h2⟩:=hasAllW_cons Hk;obtain rfl:=hasAllW_nil h2;obtain⟨xs,rfl,m⟩:=hasW_list h1;obtain⟨ns,rfl⟩:=items_int m;have hlen:ns.length<=n:=by
  have b:=by
   have b:=(holds_andW k).1;rw[j]at b;exact b
  have p:=condW_of b (w_not (w_lt w_lit (w_len_list (w_arg rfl))));simp_all
 cases o with
 | cons g f=>
  cases f;cases g with
  | list i c=>exact⟨_,_,ns,rfl,rfl,i,Dz ns _ c,hlen⟩
def XW(l:OpenLaw)(args:List WData):l.row.toRowW.claim.post args (.bool true) args=true:=
 postW_of
  (rfl)
  (w_eq_bool (w_res rfl) w_lit) rfl
def Pn{l:OpenLaw}{n:Nat}{q:Qax}{loose:At}{k:Bi->Heap->Prop}{j:World->Heap->Prop}{d:DefRec}
  (t:l.most=some n) (g:d.params.defaults=[])
  (call:∀(w:World) (jx b:Qb) (mg mb:Bi) (c:Addr) (o:Obj) (pm cd doc:Value) (a:Addr) (vs:B0) (ns:AT),
   Ground q loose [] k w jx mg mb b.heap->j w b.heap →
   b.heap.get? c=some o->o.data=.func (docDef d.name d.params d.body d.scope pm cd doc)->b.heap.CodeRec cd d.name->mg d.name=some (.ref c) →
   b.heap.get? a=some {cls:=.type "list",data:=.seq vs.toArray}->IntsAre vs ns->ns.length<=n->b.gens=#[] →
   codeAny (model l.prog w) callerA (.call (.ref c) ⟨[.ref a],[]⟩) (λr s'=>r=.ok (.ret (.bool true))/\OldK b.heap s'.heap/\s'.os=b.os/\AllBare s'.gens) b) :
  WalkO q loose k j l.row.toRowW d [] (λf vs=>PySem.call f vs):=by
 intro w jx b mg mb G Y c o pm cd doc z kV s hd kH hD e v args vals as B i m A u;obtain rfl:z=.none:=Dflts.none hD g;obtain rfl:kV=.none:=Dflts.noKw hD;obtain⟨a,vs,ns,rfl,rfl,h,hints,hlen⟩:=XU t B A;refine enter_call (codeAny_mono (call w jx b mg mb c o pm cd doc a vs ns G Y s (fd_plain hd) kH e h hints hlen v) λr s' p=>?_);obtain⟨rfl,h2,y,x⟩:=p;exact⟨.inl ⟨ _,_,[],rfl,λ_=>rfl,.bool true,XW l _,λ_=>⟨List.Pairwise.nil,λ_ hm=>(nomatch hm)⟩⟩,h2,y,x⟩
noncomputable def ledger(h:Heap)(L d:Addr):BM:=(List.range h.objs.size).filterMap λa=>if a=L\/a=d then none else(h.get? a).map λo=>(a,o)
end Att
namespace L2
open PySem PySem.Spec PyProof.Rows
theorem J7:∀{vs:B0} {ns:AT},IntsAre vs ns->Vals QbL vs
 | _,_,.nil=>.nil
 | _,_,.cons n t h=>.cons ⟨t,rfl⟩ (J7 h)
noncomputable def inClass(s:Stmt)(j:Nat):Stmt:=match s with
 | .ClassDef _ _ _ body _ _ _ _ _ _ _=>body.getD j (.Pass ⟨0,0,0,0⟩)
 | _=>.Pass ⟨0,0,0,0⟩
noncomputable def oO(s:Stmt):Arguments:=match s with
 | .FunctionDef _ a _ _ _ _ _ _ _ _=>a
 | _=>{posonlyargs:=[],args:=[],vararg:=none,kwonlyargs:=[],kw_defaults:=[],kwarg:=none,defaults:=[]}
noncomputable def d9(s:Stmt):Co:=match s with
 | .FunctionDef _ _ b _ _ _ _ _ _ _=>b
 | _=>[]
noncomputable def ai(s:Stmt):Scope:=match s with
 | .FunctionDef _ _ _ _ _ _ sc _ _ _=>sc
 | _=>{kind:=.function,names:=[],isGenerator:=false,isCoroutine:=false}
noncomputable abbrev lO:tI:=λ_ _ _ _ _ _=>False
abbrev E0:XK:=λ_ _ _=>False
variable{X:Cx}
noncomputable def qF:Passes lO X E0:=λ_ _ _ _ _ _ _ h=>h.elim
structure ZZ(K:Frag)(x qual:Str)(st:Stmt)(f:Addr)(fd:QaC):Prop where
 ex:∃(oc:Value) (od:Db) (kV doc pm:Value) (an:Db) (gE ct:Value) (Sg:Ch),
  fd=fnOf x qual (oO st) (d9 st) QaB .none kV doc pm an gE ct/\K.lookup f=some ⟨oc,od,.func fd,Sg⟩/\codeIn K gE qual=true
 kp:keepIn K QR=true
variable{P:Qax}{w:World}{K:Frag}{mg:Bi}{base:Heap}
theorem ZZ.ok{x qual:Str}{st:Stmt}{f:Addr}{fd:QaC}{N ps:At}{k:Nat}{sp:Sp}(F:QcA)(S:QbO)(len:∀vs H Q E,sp vs H Q E->vs.length=ps.length)
  (c:∀(gE:Value) (A:Qat) (outer:Da) (s:Qb) (H:Hp) (vs:BY) (Q:VK) (E:XK),eO k (A.deeper Qb5)->sp vs H Q E →
   ∃t,R1 (se lO P w K mg base N qual QaB f gE A outer s H E).La (d9 st) t/\t {nx:=λ_ H'=>Q .non H',rt:=Q} (start N vs) H):fz P w K mg base lO (k+1) f fd ps sp:=by
 obtain⟨oc,od,kV,doc,pm,an,gE,ct,Sg,rfl,lk,kH⟩:=F.ex;refine Tu lk kH S len λA outer s H vs Q E a b=>?_;obtain⟨t,h,q⟩:=c gE A _ s H vs Q E a b;exact⟨t,h.La,q⟩
theorem ZZ.binds{x qual:Str}{st:Stmt}{f:Addr}{fd:QaC}{ps:At}(F:QcA)
  (h:∀(kV doc pm:Value) (an:Db) (gE ct:Value) (us:B0),us.length=ps.length->bindArgs Qc7 ⟨us,[]⟩=pure (ps.zip us)):Binds K fd ps []:=by
 obtain⟨oc,od,kV,doc,pm,an,gE,ct,Sg,rfl,lk,kH⟩:=F.ex;exact .all (h kV doc pm an gE ct)
def aaU{x qual:Str}{st:Stmt}{f:Addr}{oc:Value}{od an:Db}{Sg:Ch}{kV doc pm gE ct:Value}(l:K.lookup f=some ⟨oc,od,.func Qc7,Sg⟩)
  (c:codeIn K gE qual=true) (k:keepIn K QR=true):ZZ K x qual st f Qc7:=⟨⟨oc,od,kV,doc,pm,an,gE,ct,Sg,rfl,l,c⟩,k⟩
def cL{n:Nat}(h:n<=1000):n<sizeLine:=q7 h Wl
def Sj{A B:Prop}(h:B):if false=true then A else B:=‹_›
def Pp{A B:Prop}(h:A):if true=true then A else B:=‹_›
def aD(H H':Hp):Prop:=∀b o,H b=some o->H' b=some o
theorem aD.refl(H:Hp):aD H H:=λ_ _ h=>h
variable{H:Hp}
theorem aD.trans{H1 H2:Hp}(a:aD H H1)(b:aD H1 H2):aD H H2:=λc o h=>b c o (a c o h)
variable{H':Hp}
theorem aD.free(e:aD H H'){l:Addr}(h:H' l=Option.none):H l=Option.none:=by
 cases q:H l with
 | none=>rfl
 | some o=>
  rw[e l o q]at h;cases h
variable{a:Addr}
theorem aD.seq{xs:BY}(e:aD H H')(h:nT K H a xs):nT K H' a xs:=by
 rcases h with(h|⟨o,h⟩)|h
 .exact .inl (.inl Qcy)
 .exact .inl (.inr ⟨o,e _ _ h⟩)
 .exact .inr h
section
variable{κ:Type}[DecidableEq κ]
noncomputable def vo(kvs:Qbs)(k:κ):Option V:=(kvs.find? λa=>decide (a.1=k)).map (·.2)
noncomputable def putK(kvs:Qbs)(k:κ)(v:V):List (κ×V):=
 if Qdb=true then kvs.map (λa=>if a.1=k then(a.1,v) else a) else kvs++[(k,v)]
def su{p:κ×V}{r:Qbs}{k:κ}(e:p.1=k):vo (p::r) k=some p.2:=by simp[vo,sr,e]
def pU{p:κ×V}{r:Qbs}{k:κ}(e:¬ p.1=k):vo (p::r) k=vo r k:=by simp[vo,sr,e]
theorem Pq(k:κ):∀kvs:List (κ×V),Qdb=(vo kvs k).isSome
 | []=>rfl
 | p::r=>by
  rw[pv];by_cases e:p.1=k
  .simp only[su e,ml e,Bool.true_or,Option.isSome_some]
  .rw[pU e,mn e,Bool.false_or];exact Pq k r
theorem CW(kvs:Qbs)(k:κ)(v:V):(putK kvs k v).length<=kvs.length+1:=by
 unfold putK;split
 .rw[e7];lia
 .rw[kn,lr,List.length_nil];lia
theorem yw.XY{o:Option V}{u:Option Value}(r:yw o u):o.isSome=u.isSome:=by
 cases o with
 | none=>cases u with
  | none=>rfl
  | some _=>exact(show False from r).elim
 | some _=>cases u with
  | none=>exact(show False from r).elim
  | some _=>rfl
theorem yw.getD{o:Option V}{u:Option Value}{d:V}{d':Value}(r:yw o u)(rd:RelV d d'):RelV (o.getD d) (u.getD d'):=by
 cases o with
 | none=>cases u with
  | none=>exact rd
  | some _=>exact(show False from r).elim
 | some _=>cases u with
  | none=>exact(show False from r).elim
  | some _=>exact r
theorem KV.val{kvs:Qbs}{vs:QcC}(r:KV kvs vs)(k:κ):yw (vo kvs k) (valueAt vs k):=by
 unfold KV at r
 induction r with
 | nil=>exact True.intro
 | @cons p q ps a h t d=>
  obtain⟨h1,h2⟩:=h;by_cases e:p.1=k
  .have c:q.1=k:=h1.symm.trans e;have b:valueAt (q::a) k=some q.2:=by simp[valueAt,sr,c]
   rw[su e,b];exact h2
  .have c:¬ q.1=k:=λz=>e (h1.trans z);have b:valueAt (q::a) k=valueAt a k:=by simp[valueAt,sr,c]
   rw[pU e,b];exact d
theorem KV.any{kvs:Qbs}{vs:QcC}(r:KV kvs vs)(k:κ):Qdb=vs.any λa=>decide (a.1=k):=by
 unfold KV at r
 induction r with
 | nil=>rfl
 | cons h t b=>rw[pv,pv,b,h.1]
theorem KV.mE{kvs:Qbs}{vs:QcC}(r:KV kvs vs)(k:κ){y:V}{u:Value}(b:RelV y u) :
  KV (kvs.map λa=>if a.1=k then(a.1,y) else a) (vs.map λa=>if a.1=k then(a.1,u) else a):=by
 unfold KV at r ⊢
 induction r with
 | nil=>exact .nil
 | @cons p q ps d h t c=>
  rw[kx,kx];refine .cons ?_ c;obtain⟨h1,h2⟩:=h;by_cases e:p.1=k
  .rw[dX e,dX (h1.symm.trans e)];exact⟨h1,b⟩
  .rw[dP e,dP (λz=>e (h1.trans z))];exact⟨h1,h2⟩
theorem KV.put{kvs:Qbs}{vs:QcC}(r:KV kvs vs)(k:κ){y:V}{u:Value}(a:RelV y u):KV (putK kvs k y) (stored vs k u):=by
 unfold putK stored;rw[r.any k];by_cases e:(vs.any λb=>decide (b.1=k))=true
 .rw[dX e,dX e];exact r.mE k a
 .rw[dP e,dP e];exact Paired.snoc r ⟨rfl,a⟩
theorem KV.keys{kvs:Qbs}{vs:QcC}(r:KV kvs vs):kvs.map (·.1)=vs.map (·.1):=by
 unfold KV at r
 induction r with
 | nil=>rfl
 | cons h t a=>rw[kx,kx,a,h.1]
theorem KV.length{kvs:Qbs}{vs:QcC}(r:KV kvs vs):kvs.length=vs.length:=Paired.length r
end
variable{u:Value}
theorem Ts{k:Key}(r:RelV (kV k) u):(gT P w).is k u=true:=by
 cases k with
 | inl i=>obtain⟨t,e⟩:=(show ∃t,u=Value.int i t from r);subst e;exact OX P w i t
 | inr x=>obtain⟨t,e⟩:=(show ∃t,u=Value.str x t from r);subst e;exact OY P w x t
theorem J8{P:Qax}{w:World}:∀{ks:Dx} {us:B0},Vals (ks.map kV) us->ItemsAre (gT P w) ks us
 | [],_,r=>by rw[List.map_nil]at r;cases r;exact .nil
 | k::ks,_,r=>by
  rw[kx]at r;cases r with
  | cons h t=>exact .cons (Ts h) (J8 t)
abbrev KT(H:Hp):Bn->List Qdq->Prop:=Paired λp q=>p.1=q.1/\H q.2.1=some (.tup (p.1.map kV))/\RelV p.2 q.2.2
variable{kvs:Bn}{xs:List Qdq}
theorem KT.val(r:KT H kvs xs)(k:Dx):yw (vo kvs k) ((atKey xs k).map (·.2)):=by
 induction r with
 | nil=>exact True.intro
 | @cons p q ps a h t d=>
  obtain⟨h1,_,h2⟩:=h;by_cases e:p.1=k
  .have c:q.1=k:=h1.symm.trans e;have b:atKey (q::a) k=some q.2:=by simp[atKey,sr,c]
   rw[su e,b];exact h2
  .have c:¬ q.1=k:=λz=>e (h1.trans z);have b:atKey (q::a) k=atKey a k:=by simp[atKey,sr,c]
   rw[pU e,b];exact d
variable{y:V}
theorem KT.mE(r:KT H kvs xs)(k:Dx)(b:RelV y u) :
  KT H (kvs.map λa=>if a.1=k then(a.1,y) else a) (xs.map (putAt k u)):=by
 induction r with
 | nil=>exact .nil
 | @cons p q ps f h t c=>
  rw[kx,kx];refine .cons ?_ c;obtain⟨h1,h2,d⟩:=h;unfold putAt;by_cases e:p.1=k
  .rw[dX e,dX (h1.symm.trans e)];exact⟨h1,h2,b⟩
  .rw[dP e,dP (λz=>e (h1.trans z))];exact⟨h1,h2,d⟩
theorem KT.put(r:KT H kvs xs)(k:Dx){b:Addr}(d:H b=some (.tup (k.map kV)))(a:RelV y u) :
  KT H (putK kvs k y) (storedH xs k b u):=by
 have e:(kvs.any λc=>decide (c.1=k))=(atKey xs k).isSome:=by
  rw[Pq,(r.val k).XY,Option.isSome_map]
 unfold putK storedH;rw[e];by_cases q:(atKey xs k).isSome=true
 .rw[dX q,dX q];exact r.mE k a
 .rw[dP q,dP q];exact Paired.snoc r ⟨rfl,d,a⟩
theorem KT.keeps(r:KT H kvs xs)(a:∀b ys,H b=some (.tup ys)->H' b=some (.tup ys)):KT H' kvs xs:=
 Paired.L9 r λ_ _ z=>⟨z.1,a _ _ z.2.1,z.2.2⟩
variable{h:Heap}
def To{u:HO}(ok:Qbj)(e:Rd H a u):gW P w H h a u:=e.ok ok
def apo{kvs:Cf}(ok:Qbj)(e:Rd H a (.dK kvs)):kvs.length<=sizeLine/\Qco=false/\∃vs,KV kvs vs/\h.DictOf (gT P w) a vs:=
 show gW P w H h a (.dK kvs) from To ok e
def Th{kvs:Cf}(ok:Qbj)(e:H a=some (.dK kvs)):kvs.length<=sizeLine/\Qco=false/\∃vs,KV kvs vs/\h.DictOf (gT P w) a vs:=apo ok (.inl e)
def aaV{ks:Dx}(ok:Qbj)(e:H a=some (.tup (ks.map kV))):(tupleKind (gT P w)).is h ks a:=by
 obtain⟨_,its,r,o,h1,h2,n,b⟩:=(show gW P w H h a (.tup (ks.map kV)) from ok a _ e);exact⟨o,its.toArray,n,h1,h2,b,by simpa using J8 r⟩
def apq(ok:Qbj)(e:Rd H a (.dT kvs)):kvs.length<=sizeLine/\Qco=false ∧
  ∃xs,KT H kvs xs/\h.DictOfH (tupleKind (gT P w)) a xs:=by
 obtain⟨z,y,xs,r,o,es,ep,h1,h2,i,g,f⟩:=(show gW P w H h a (.dT kvs) from To ok e);refine⟨z,y,xs,r,o,es,ep,h1,h2,i,g,λx b=>?_,f⟩;have all:∀{l:Bn} {m:List Qdq},KT H l m->∀x∈m,(tupleKind (gT P w)).is h x.1 x.2.1:=by
  intro l m q
  induction q with
  | nil=>intro x b;exact nomatch b
  | @cons p q ps j c t d=>
   intro x b;obtain e|b:=fO.1 b
   .subst e;exact aaV ok (by rw[← c.1];exact c.2.1)
   .exact d x b
 exact all r x b
def apr(ok:Qbj)(e:H a=some (.dT kvs)):kvs.length<=sizeLine/\Qco=false ∧
  ∃xs,KT H kvs xs/\h.DictOfH (tupleKind (gT P w)) a xs:=apq ok (.inl e)
def CN(H:Hp)(a:Addr)(y v:V)(H':Hp):Prop:=
 (∃kvs k,H a=some (.dK kvs)/\y=kV k/\kvs.length<sizeLine/\H'=upd H a (.dK (putK kvs k v))) ∨
 ∃kvs k b,H a=some (.dT kvs)/\y=.ref b/\H b=some (.tup (k.map kV))/\kvs.length<sizeLine/\H'=upd H a (.dT (putK kvs k v))
theorem CN.k{kvs:Cf}{k:Key}{v:V}(e:H a=some (.dK kvs))(b:kvs.length<sizeLine):CN H a (kV k) v (upd H a (.dK (putK kvs k v))):=.inl ⟨kvs,k,e,rfl,b,rfl⟩
variable{pins:BM}{σ:St}{s:Qb}{v:V}{r:Value}{A:Qat}{E:B2}
theorem Inv.big(I:QP):sysModules<s.heap.objs.size:=by
 have h:mainGlobals<s.heap.objs.size:=(I.mod.glob.keeps I.bk).lt;exact Nat.lt_trans Wl h
noncomputable def V6{h':Heap}{t':Nat}{c:HO}(I:QP)(d:G2 (H a))(hs:Heap.SameBut a s.heap h')(he:∃q,h'.get? a=some q)(new:gW X.prog X.w (upd H a c) h' a c) :
  Inv X pins σ (upd H a c) {s with heap:=h',toks:=t'}:=
 I.write (x:=a) (e:=a) d Qae (λb q f z=>(hs.2 b f).trans z) he new
def akD{h':Heap}{kvs:Cf}{vs:List (Key×Value)}(z:kvs.length<=sizeLine)(hd:Qco=false)(rel:KV kvs vs)(dd:h'.DictOf (gT P w) a vs) :
  gW P w H' h' a (.dK kvs):=⟨z,hd,vs,rel,dd⟩
theorem XZ{Q:Unit->Shared->Prop}(x:A.units+1<cLine)(I:QP)(g:CN H a y v H')(n:RelV y u)(o:RelV v r)(h:∀s',Inv X pins σ H' s'->Q () s') :
  wpAny Qr A (setItem Qaq u r) Q E s:=by
 obtain⟨kvs,k,e,j,l,m⟩|⟨kvs,k,b,e,j,t,l,m⟩:=g
 .subst j m;obtain⟨z,hd,vs,rel,dd⟩:=Th I.f7 e;have hz:vs.length<=sizeLine:=by rw[← rel.length];exact z
  have i:(putK kvs k v).length<=sizeLine:=by have:=CW kvs k v;lia
  refine wpAny_setItem_pairs (hsz:=hz) (Ts n) dd λh' d hs=>h _ ?_;have he:∃q,h'.get? a=some q:=let ⟨q,_,_,f,_⟩:=d;⟨q,f⟩;exact V6 I (by rw[e];exact True.intro) hs he (akD i hd (rel.put k o) d)
 .subst j m;cases (show u=Value.ref b from n);obtain⟨z,hd,xs,rel,dd⟩:=apr I.f7 e;have hz:xs.length<=sizeLine:=by rw[← Paired.length rel];exact z
  have i:(putK kvs k v).length<=sizeLine:=by have:=CW kvs k v;lia
  refine wpAny_setItem_heap (hsz:=hz) (tupleKind_room_in1 x) (aaV I.f7 t) dd λh' d hs=>h _ ?_;obtain⟨q,es,ep,f,h2,D,C,_,B⟩:=d;refine V6 I (by rw[e];exact True.intro) hs ⟨q,f⟩ ⟨i,hd,_,(rel.put k t o).keeps λc ys p=>?_,q,es,ep,f,h2,D,C,B⟩;rw[aq (aoO p e (λz=>nomatch z))];exact p
noncomputable def aps(td ty tv:TE):TS:=λD σ H=>tv σ H λv H1=>td σ H1 λx H2=>ty σ H2 λy c=>∃a b,x=.ref a/\CN c a y v b/\D.nx σ b
variable{o i value:Expr}{pos pos':Pos}{td ty tv:TE}
def afy(k:X.A.units+1<cLine)(l:PE X o td)(hi:PE X i ty)(hv:PE X value tv)(hs:swapsWith value (some (.Subscript o i pos')) pos.line X.env=pure false) :
  PS X (.Assign [.Subscript o i pos'] value pos) (aps td ty tv):=by
 intro pins s σ H D I h;refine wpAny_Assign_Subscript (f6 (hv pins s σ H _ I h) λr s1 ⟨v,H1,q,d,j⟩=>f6 (l pins s1 σ H1 _ q j) λu s2 ⟨x,H2,p,c,f⟩=>f6 (hi pins s2 σ H2 _ p f) λw s3 zz=>?_) hs;obtain⟨y,z,n,b,a,t,ex,g,e⟩:=zz;subst ex;obtain rfl:u=Value.ref a:=c;exact XZ k n g b d λs4 m=>⟨σ,t,m,e⟩
noncomputable def aaX(h:Heap)(a:sysModules<h.objs.size):gW P w H (h.push {cls:=.type "dict",data:=.dict #[]}) h.objs.size (.dK []):=
 ⟨kr _,FX.2 (mB (k4 a)),[],.nil,Heap.DictOf.new h⟩
def akE:TE:=λ_ H Q=>∀p,H p=none->Q (.ref p) (upd H p (.dK []))
def aaY:PE X (.Dict [] [] pos) akE:=λpins s σ H Q I h=>
 wpAny_Dict_empty ⟨.ref s.heap.objs.size,_,I.laid (a:=s.heap.objs.size) (o:=.dK []) (t':=s.toks) (λ_ _ q=>kv _ q) (i5 _) (aaX s.heap I.big),rfl,h _ (I.f7.fresh (i5 _))⟩
end L2
namespace L3
open PySem PySem.Spec PyProof.Rows L2
inductive D where
 | non|bl (b:Bool)|int (i:Int)|str (x:Str)
 | tup (ds:List D)|lst (ds:List D)|ins (c:Str) (fs:List (Str×D))|rZ (kvs:List (Key×D))
 | dct (kvs:List (Dx×D))
 | any
 | val (v:V)
 | CY (w:World) (ds es:List D)
abbrev _root_.BA:=List D
abbrev _root_.CC:=List (Key×D)
inductive T where
 | sh (d:D)|tup (ts:List T)|lst (ts:List T)|ins (c:Str) (fs:List (Str×T))|rZ (kvs:CC)|dct (kvs:List (Dx×T))
 | pin (x:Addr) (t:T)
 | CY (w:World) (ds es:BA)
abbrev _root_.BN:=List (Str×T)
abbrev _root_.B1:=List T
abbrev _root_.CS:=List (Dx×T)
abbrev _root_.Cn:=List (Dx×D)
abbrev _root_.D2:=List (Str×D)
mutual
def T.fB:T->D
 | .sh d=>d
 | .tup ts=>.tup (cQ ts)
 | .lst ts=>.lst (cQ ts)
 | .ins c fs=>.ins c (vd fs)
 | .rZ kvs=>.rZ kvs
 | .dct kvs=>.dct (LW kvs)
 | .pin _ t=>t.fB
 | .CY w ds es=>.CY w ds es
def T.cQ:B1->BA
 | []=>[]
 | t::ts=>t.fB::T.cQ ts
def T.vd:BN->D2
 | []=>[]
 | (x,t)::fs=>(x,t.fB)::T.vd fs
def T.LW:CS->Cn
 | []=>[]
 | (x,t)::fs=>(x,t.fB)::T.LW fs
end
mutual
def D.Hk(w:World):D->Int
 | .int i=>hashInt i
 | .str x => hashStr w x
 | .tup ds=>reduceHash (Builtin.Tuple.tupleHashOf (D.O0 w ds))
 | _=>0
def D.O0(w:World):BA->AT
 | []=>[]
 | d::ds=>d.Hk w::D.O0 w ds
end
def IxP(w:World)(a:Addr)(ds:BA)(vs us:BY)(h:Heap):Prop:=
 Qco=false/\∃(xs:List (D×Addr×Value)) (o:Obj) (es:Array DictEntry) (ep:Nat),h.get? a=some o/\o.ExactDict/\o.data=.dict es ep/\es.toList=xs.map (λx=>⟨x.1.Hk w,.ref x.2.1,x.2.2⟩)/\xs.map (·.1)=ds/\xs.map (λx=>V.ref x.2.1)=vs/\Vals us (xs.map λx=>x.2.2)
abbrev _root_.BC:=Str->Addr
variable(K:Frag)(CL:BC)
mutual
inductive bQ(Z:Hp):D->V->Prop where
 | non:bQ Z .non .non
 | bl (b:Bool):bQ Z (.bl b) (.bl b)
 | int (i:Int):bQ Z Qaw Qaw
 | str (x:Str):bQ Z Qa0 Qa0
 | any (v:V):bQ Z .any v
 | val (v:V):bQ Z (.val v) v
 | tup {a:Addr} {vs:BY} {ds:BA}:zK K Z a vs->az Z ds vs->bQ Z (.tup ds) Qaq
 | lst {a:Addr} {vs:BY} {ds:BA}:nT K Z a vs->az Z ds vs->bQ Z (.lst ds) Qaq
 | ins {a dx:Addr} {c:Str} {gs:Bz} {fs:D2}:Z a=some Qc2->ng Z fs gs->bQ Z QaF Qaq
 | rZ {a:Addr} {gs:Cf} {fs:CC}:Z a=some (.dK gs)->cN Z fs gs->bQ Z (.rZ fs) Qaq
 | dct {a:Addr} {gs:Bn} {fs:Cn}:Rd Z a (.dT gs)->pV Z fs gs->bQ Z (.dct fs) Qaq
 | CY {a:Addr} {w:World} {vs us:BY} {ds es:BA}:Z a=some (.ext (IxP w a ds vs us))->az Z ds vs->az Z es us->bQ Z (.CY w ds es) Qaq
inductive az(Z:Hp):BA->BY->Prop where
 | nil:az Z [] []
 | cons {d:D} {v:V} {ds:BA} {vs:BY}:bQ Z d v->az Z ds vs->az Z (d::ds) QaN
inductive ng(Z:Hp):D2->Bz->Prop where
 | nil:ng Z [] []
 | cons {x:Str} {d:D} {v:V} {ds:D2} {vs:Bz}:bQ Z d v->ng Z ds vs->ng Z ((x,d)::ds) ((x,v)::vs)
inductive cN(Z:Hp):CC->Cf->Prop where
 | nil:cN Z [] []
 | cons {x:Key} {d:D} {v:V} {ds:CC} {vs:Cf}:bQ Z d v->cN Z ds vs->cN Z ((x,d)::ds) ((x,v)::vs)
inductive pV(Z:Hp):Cn->Bn->Prop where
 | nil:pV Z [] []
 | cons {x:Dx} {d:D} {v:V} {ds:Cn} {vs:Bn}:bQ Z d v->pV Z ds vs->pV Z ((x,d)::ds) ((x,v)::vs)
end
mutual
inductive bK(H Z:Hp):T->V->BS->Prop where
 | sh {d:D} {v:V}:bQ K CL Z d v->bK H Z (.sh d) v []
 | tup {a:Addr} {vs:BY} {ts:B1} {fp:BS}:Z a=some (.tup vs)->aS H Z ts vs fp->bK H Z (.tup ts) Qaq fp
 | lst {a:Addr} {vs:BY} {ts:B1} {fp:BS}:H a=some (.lst vs)->aS H Z ts vs fp->bK H Z (.lst ts) Qaq (a::fp)
 | ins {a dx:Addr} {c:Str} {gs:Bz} {fs:BN} {fp:BS}:H a=some Qc2->dz H Z fs gs fp->bK H Z QaF Qaq (a::fp)
 | rZ {a:Addr} {gs:Cf} {kvs:CC}:H a=some (.dK gs)->cN K CL Z kvs gs->bK H Z (.rZ kvs) Qaq [a]
 | dct {a:Addr} {gs:Bn} {kvs:CS} {fp:BS}:H a=some (.dT gs)->fP H Z kvs gs fp->bK H Z (.dct kvs) Qaq (a::fp)
 | pin {x:Addr} {t:T} {fp:BS}:bK H Z t (.ref x) fp->bK H Z (.pin x t) (.ref x) fp
 | CY {a:Addr} {w:World} {vs us:BY} {ds es:BA}:H a=some (.ext (IxP w a ds vs us))->az K CL Z ds vs->az K CL Z es us->bK H Z (.CY w ds es) Qaq [a]
inductive aS(H Z:Hp):B1->BY->BS->Prop where
 | nil:aS H Z [] [] []
 | cons {t:T} {v:V} {ts:B1} {vs:BY} {fp gp:BS}:bK H Z t v fp->aS H Z ts vs gp->aS H Z (t::ts) QaN (fp++gp)
inductive dz(H Z:Hp):BN->Bz->BS->Prop where
 | nil:dz H Z [] [] []
 | cons {x:Str} {t:T} {v:V} {ts:BN} {vs:Bz} {fp gp:BS}:bK H Z t v fp->dz H Z ts vs gp->dz H Z ((x,t)::ts) ((x,v)::vs) (fp++gp)
inductive fP(H Z:Hp):CS->Bn->BS->Prop where
 | nil:fP H Z [] [] []
 | cons {x:Dx} {t:T} {v:V} {ts:CS} {vs:Bn} {fp gp:BS}:bK H Z t v fp->fP H Z ts vs gp->fP H Z ((x,t)::ts) ((x,v)::vs) (fp++gp)
end
abbrev _root_.BB:=List (Option T)
inductive fU(H Z:Hp):BB->L2.St->BS->Prop where
 | nil:fU H Z [] [] []
 | skip {o:Option V} {δ:BB} {σ:L2.St} {fp:BS}:fU H Z δ σ fp->fU H Z (none::δ) (o::σ) fp
 | cons {t:T} {v:V} {δ:BB} {σ:L2.St} {fp gp:BS}:bK K CL H Z t v fp->fU H Z δ σ gp->fU H Z (some t::δ) (some v::σ) (fp++gp)
variable{K:Frag}{CL:BC}{H H':Hp}{a:Addr}
theorem Rd.mono{u:HO}(e:aD H H')(h:Rd H a u):Rd H' a u:=h.imp (e _ _) λ⟨o,q⟩=>⟨o,e _ _ q⟩
variable{xs:BY}
theorem aD.o7(e:aD H H')(h:zK K H a xs):zK K H' a xs:=by
 rcases h with(h|⟨o,h⟩)|h
 .exact .inl (.inl Qcy)
 .exact .inl (.inr ⟨o,e _ _ h⟩)
 .exact .inr h
variable{Z Z':Hp}{v:V}
theorem bQ.mono(e:aD Z Z'){d:D}(h:Qct):bQ K CL Z' d v:=
 bQ.rec
  .non .bl .int .str .any .val QdT QdX Qeb Qeg QdQ Qd8 .nil QaW .nil QaW .nil QaW .nil QaW h
theorem az.mono(e:aD Z Z'){d:BA}{v:BY}(h:az K CL Z d v):az K CL Z' d v:=
 az.rec
  .non .bl .int .str .any .val QdT QdX Qeb Qeg QdQ Qd8 .nil QaW .nil QaW .nil QaW .nil QaW h
theorem ng.mono(e:aD Z Z'){d:D2}{v:Bz}(h:ng K CL Z d v):ng K CL Z' d v:=
 ng.rec
  .non .bl .int .str .any .val QdT QdX Qeb Qeg QdQ Qd8 .nil QaW .nil QaW .nil QaW .nil QaW h
theorem cN.mono(e:aD Z Z'){d:CC}{v:Cf}(h:cN K CL Z d v):cN K CL Z' d v:=
 cN.rec
  .non .bl .int .str .any .val QdT QdX Qeb Qeg QdQ Qd8 .nil QaW .nil QaW .nil QaW .nil QaW h
variable{t:T}{fp:BS}
theorem bK.mono(e:aD Z Z')(k:∀a∈fp,H' a=H a)(h:bK K CL H Z t v fp):bK K CL H' Z' t v fp:=
 bK.rec (motive_2:=λt v fp _=>(∀a∈fp,H' a=H a)->aS K CL H' Z' t v fp) (motive_3:=λt v fp _=>(∀a∈fp,H' a=H a)->dz K CL H' Z' t v fp) (motive_4:=λt v fp _=>(∀a∈fp,H' a=H a)->fP K CL H' Z' t v fp)
  (λh _=>.sh (h.mono e)) Qd6 QdC QdD Qdy QdE (λ_ r k=>.pin (r k)) Qdu QaM Qbl QaM Qbl QaM Qbl h k
theorem aS.mono(e:aD Z Z'){t:B1}{v:BY}(k:∀a∈fp,H' a=H a)(h:aS K CL H Z t v fp):aS K CL H' Z' t v fp:=
 aS.rec (motive_1:=λt v fp _=>(∀a∈fp,H' a=H a)->bK K CL H' Z' t v fp) (motive_3:=λt v fp _=>(∀a∈fp,H' a=H a)->dz K CL H' Z' t v fp) (motive_4:=λt v fp _=>(∀a∈fp,H' a=H a)->fP K CL H' Z' t v fp)
  (λh _=>.sh (h.mono e)) Qd6 QdC QdD Qdy QdE (λ_ r k=>.pin (r k)) Qdu QaM Qbl QaM Qbl QaM Qbl h k
theorem dz.mono(e:aD Z Z'){t:BN}{v:Bz}(k:∀a∈fp,H' a=H a)(h:dz K CL H Z t v fp):dz K CL H' Z' t v fp:=
 dz.rec (motive_1:=λt v fp _=>(∀a∈fp,H' a=H a)->bK K CL H' Z' t v fp) (motive_2:=λt v fp _=>(∀a∈fp,H' a=H a)->aS K CL H' Z' t v fp) (motive_4:=λt v fp _=>(∀a∈fp,H' a=H a)->fP K CL H' Z' t v fp)
  (λh _=>.sh (h.mono e)) Qd6 QdC QdD Qdy QdE (λ_ r k=>.pin (r k)) Qdu QaM Qbl QaM Qbl QaM Qbl h k
theorem fP.mono(e:aD Z Z'){t:CS}{v:Bn}(k:∀a∈fp,H' a=H a)(h:fP K CL H Z t v fp):fP K CL H' Z' t v fp:=
 fP.rec (motive_1:=λt v fp _=>(∀a∈fp,H' a=H a)->bK K CL H' Z' t v fp) (motive_2:=λt v fp _=>(∀a∈fp,H' a=H a)->aS K CL H' Z' t v fp) (motive_3:=λt v fp _=>(∀a∈fp,H' a=H a)->dz K CL H' Z' t v fp)
  (λh _=>.sh (h.mono e)) Qd6 QdC QdD Qdy QdE (λ_ r k=>.pin (r k)) Qdu QaM Qbl QaM Qbl QaM Qbl h k
theorem bK.there(h:bK K CL H Z t v fp):∀a∈fp,∃o,H a=some o:=
 bK.rec (motive_3:=λt v fp _=>∀a∈fp,∃o,H a=some o) (motive_4:=λt v fp _=>∀a∈fp,∃o,H a=some o)
  (λ_ a b=>absurd b kf) (λ_ _ r=>r) (λh _ r a b=>(fO.1 b).elim (λq=>⟨_,q▸h⟩) (r a)) (λh _ r a b=>(fO.1 b).elim (λq=>⟨_,q▸h⟩) (r a)) (λh _ a b=>(fO.1 b).elim (λq=>⟨_,q▸h⟩) Qcd) (λh _ r a b=>(fO.1 b).elim (λq=>⟨_,q▸h⟩) (r a)) (λ_ r=>r) (λh _ _ a b=>(fO.1 b).elim (λq=>⟨_,q▸h⟩) Qcd) Qbp Qbm Qbp Qbm Qbp Qbm h
theorem aS.there{t:B1}{v:BY}(h:aS K CL H Z t v fp):∀a∈fp,∃o,H a=some o:=
 aS.rec (motive_1:=λt v fp _=>∀a∈fp,∃o,H a=some o) (motive_3:=λt v fp _=>∀a∈fp,∃o,H a=some o) (motive_4:=λt v fp _=>∀a∈fp,∃o,H a=some o)
  (λ_ a b=>absurd b kf) (λ_ _ r=>r) (λh _ r a b=>(fO.1 b).elim (λq=>⟨_,q▸h⟩) (r a)) (λh _ r a b=>(fO.1 b).elim (λq=>⟨_,q▸h⟩) (r a)) (λh _ a b=>(fO.1 b).elim (λq=>⟨_,q▸h⟩) Qcd) (λh _ r a b=>(fO.1 b).elim (λq=>⟨_,q▸h⟩) (r a)) (λ_ r=>r) (λh _ _ a b=>(fO.1 b).elim (λq=>⟨_,q▸h⟩) Qcd) Qbp Qbm Qbp Qbm Qbp Qbm h
theorem dz.there{t:BN}{v:Bz}(h:dz K CL H Z t v fp):∀a∈fp,∃o,H a=some o:=
 dz.rec (motive_1:=λt v fp _=>∀a∈fp,∃o,H a=some o) (motive_2:=λt v fp _=>∀a∈fp,∃o,H a=some o) (motive_3:=λt v fp _=>∀a∈fp,∃o,H a=some o) (motive_4:=λt v fp _=>∀a∈fp,∃o,H a=some o)
  (λ_ a b=>absurd b kf) (λ_ _ r=>r) (λh _ r a b=>(fO.1 b).elim (λq=>⟨_,q▸h⟩) (r a)) (λh _ r a b=>(fO.1 b).elim (λq=>⟨_,q▸h⟩) (r a)) (λh _ a b=>(fO.1 b).elim (λq=>⟨_,q▸h⟩) Qcd) (λh _ r a b=>(fO.1 b).elim (λq=>⟨_,q▸h⟩) (r a)) (λ_ r=>r) (λh _ _ a b=>(fO.1 b).elim (λq=>⟨_,q▸h⟩) Qcd) Qbp Qbm Qbp Qbm Qbp Qbm h
theorem fP.there{t:CS}{v:Bn}(h:fP K CL H Z t v fp):∀a∈fp,∃o,H a=some o:=
 fP.rec (motive_1:=λt v fp _=>∀a∈fp,∃o,H a=some o) (motive_2:=λt v fp _=>∀a∈fp,∃o,H a=some o) (motive_3:=λt v fp _=>∀a∈fp,∃o,H a=some o) (motive_4:=λt v fp _=>∀a∈fp,∃o,H a=some o)
  (λ_ a b=>absurd b kf) (λ_ _ r=>r) (λh _ r a b=>(fO.1 b).elim (λq=>⟨_,q▸h⟩) (r a)) (λh _ r a b=>(fO.1 b).elim (λq=>⟨_,q▸h⟩) (r a)) (λh _ a b=>(fO.1 b).elim (λq=>⟨_,q▸h⟩) Qcd) (λh _ r a b=>(fO.1 b).elim (λq=>⟨_,q▸h⟩) (r a)) (λ_ r=>r) (λh _ _ a b=>(fO.1 b).elim (λq=>⟨_,q▸h⟩) Qcd) Qbp Qbm Qbp Qbm Qbp Qbm h
theorem bK.fB(e:aD Z Z')(k:∀a∈fp,Z' a=H a)(h:bK K CL H Z t v fp):bQ K CL Z' t.fB v:=
 bK.rec (motive_2:=λt v fp _=>(∀a∈fp,Z' a=H a)->az K CL Z' _ v) (motive_3:=λt v fp _=>(∀a∈fp,Z' a=H a)->ng K CL Z' _ v) (motive_4:=λt v fp _=>(∀a∈fp,Z' a=H a)->pV K CL Z' _ v)
  (λh _=>by exact h.mono e) (λh _ r k=>by exact .tup (zK.of Qcy) (r k)) (λh _ r k=>by exact .lst (nT.of ((k _ fX).trans h)) QcJ) (λh _ r k=>by exact .ins ((k _ fX).trans h) QcJ) (λh f k=>by exact .rZ ((k _ fX).trans h) (cN.mono e f)) (λh _ r k=>by exact .dct (.inl ((k _ fX).trans h)) QcJ) (λ_ r k=>by rw[T.fB];exact r k) (λh f g k=>by exact .CY ((k _ fX).trans h) (az.mono e f) (az.mono e g)) (λ_=>by exact .nil) (λ_ _ h r k=>by rw[T.cQ];exact .cons (h λa b=>k a (j1 _ b)) (r λa b=>k a (js _ b))) (λ_=>by rw[T.vd];exact .nil) (λ_ _ h r k=>by exact .cons (h λa b=>k a (j1 _ b)) (r λa b=>k a (js _ b))) (λ_=>by exact .nil) (λ_ _ h r k=>by rw[T.LW];exact .cons (h λa b=>k a (j1 _ b)) (r λa b=>k a (js _ b))) h k
variable{vs:BY}
theorem az.ind{P:BA->BY->Prop}(n:P [] [])(c:∀{d:D} {v:V} {ds:BA} {vs:BY},bQ K CL Z d v->az K CL Z ds vs->P ds vs->P (d::ds) QaN){ds:BA}(h:az K CL Z ds vs):P ds vs:=
 az.rec (motive_1:=λ_ _ _=>True) (motive_3:=λ_ _ _=>True) (motive_4:=λ_ _ _=>True) (motive_5:=λ_ _ _=>True)
  trivial Qa1 Qa1 Qa1 Qa1 Qa1 Qag Qag Qag Qag Qag Qek n QcW trivial Qar trivial Qar trivial Qar h
theorem cN.ind{P:CC->Cf->Prop}(n:P [] [])(c:∀{x:Key} {d:D} {v:V} {ds:CC} {vs:Cf},bQ K CL Z d v->cN K CL Z ds vs->P ds vs->P ((x,d)::ds) ((x,v)::vs)){ds:CC}{vs:Cf}(h:cN K CL Z ds vs):P ds vs:=
 cN.rec (motive_1:=λ_ _ _=>True) (motive_2:=λ_ _ _=>True) (motive_3:=λ_ _ _=>True) (motive_5:=λ_ _ _=>True)
  trivial Qa1 Qa1 Qa1 Qa1 Qa1 Qag Qag Qag Qag Qag Qek trivial Qar trivial Qar n QcW trivial Qar h
theorem pV.ind{P:Cn->Bn->Prop}(n:P [] [])(c:∀{x:Dx} {d:D} {v:V} {ds:Cn} {vs:Bn},bQ K CL Z d v->pV K CL Z ds vs->P ds vs->P ((x,d)::ds) ((x,v)::vs)){ds:Cn}{vs:Bn}(h:pV K CL Z ds vs):P ds vs:=
 pV.rec (motive_1:=λ_ _ _=>True) (motive_2:=λ_ _ _=>True) (motive_3:=λ_ _ _=>True) (motive_4:=λ_ _ _=>True) (motive_5:=λd v _=>P d v)
  trivial Qa1 Qa1 Qa1 Qa1 Qa1 Qag Qag Qag Qag Qag Qek trivial Qar trivial Qar trivial Qar n QcW h
variable{ts:B1}
theorem aS.ind{P:B1->BY->BS->Prop}(n:P [] [] [])(c:∀{t:T} {v:V} {ts:B1} {vs:BY} {fp gp:BS},bK K CL H Z t v fp->aS K CL H Z ts vs gp->P ts vs gp->P (t::ts) QaN (fp++gp))(h:aS K CL H Z ts vs fp):P ts vs fp:=
 aS.rec (motive_1:=λ_ _ _ _=>True) (motive_3:=λ_ _ _ _=>True) (motive_4:=λ_ _ _ _=>True)
  (λ_=>trivial) Qag Qag Qag Qcg Qag Qcg Qag n QcW trivial Qar trivial Qar h
theorem dz.ind{P:BN->Bz->BS->Prop}(n:P [] [] [])(c:∀{x:Str} {t:T} {v:V} {ts:BN} {vs:Bz} {fp gp:BS},bK K CL H Z t v fp->dz K CL H Z ts vs gp->P ts vs gp->P ((x,t)::ts) ((x,v)::vs) (fp++gp)){ts:BN}{vs:Bz}(h:dz K CL H Z ts vs fp):P ts vs fp:=
 dz.rec (motive_1:=λ_ _ _ _=>True) (motive_2:=λ_ _ _ _=>True) (motive_4:=λ_ _ _ _=>True)
  (λ_=>trivial) Qag Qag Qag Qcg Qag Qcg Qag trivial Qar n QcW trivial Qar h
theorem fP.ind{P:CS->Bn->BS->Prop}(n:P [] [] [])(c:∀{x:Dx} {t:T} {v:V} {ts:CS} {vs:Bn} {fp gp:BS},bK K CL H Z t v fp->fP K CL H Z ts vs gp->P ts vs gp->P ((x,t)::ts) ((x,v)::vs) (fp++gp)){ts:CS}{vs:Bn}(h:fP K CL H Z ts vs fp):P ts vs fp:=
 fP.rec (motive_1:=λ_ _ _ _=>True) (motive_2:=λ_ _ _ _=>True) (motive_3:=λ_ _ _ _=>True)
  (λ_=>trivial) Qag Qag Qag Qcg Qag Qcg Qag trivial Qar trivial Qar n QcW h
theorem az.length{d:BA}{v:BY}(h:az K CL Z d v):d.length=v.length:=
 az.ind (P:=λd v=>d.length=v.length) rfl Qeh h
theorem aS.length{d:B1}{v:BY}(h:aS K CL H Z d v fp):d.length=v.length:=
 aS.ind (P:=λd v _=>d.length=v.length) rfl Qeh h
theorem fU.length{d:BB}{v:L2.St}(h:fU K CL H Z d v fp):d.length=v.length:=by
 induction h with
 | nil=>rfl
 | skip _ i=>exact congrArg (· + 1) i
 | cons _ _ i=>exact congrArg (· + 1) i
theorem az.get{Z:Hp}:∀{ds:BA} {vs:BY} {i:Nat} {d:D},az K CL Z ds vs->ds[i]? = some d->∃v,vs[i]? = some v/\bQ K CL Z d v
 | _,_,_,_,.nil,e=>by simp at e
 | _,_,0,_,.cons r _,e=>by simp_all
 | _,_,i+1,d,.cons _ t,e=>by
  obtain⟨u,h1,h2⟩:=az.get t (‹_›);exact⟨u,‹_›,h2⟩
theorem az.X3{Z:Hp}:∀{ds:BA} {vs:BY} {i:Nat} {v:V},az K CL Z ds vs->vs[i]? = some v->∃d,ds[i]? = some d/\bQ K CL Z d v
 | _,_,_,_,.nil,e=>by simp at e
 | _,_,0,_,.cons r _,e=>by simp_all
 | _,_,i+1,d,.cons _ t,e=>by
  obtain⟨u,h1,h2⟩:=az.X3 t (‹_›);simp_all
theorem fU.get:∀{δ:BB} {σ:L2.St} {fp:BS} {i:Nat} {t:T},fU K CL H Z δ σ fp->δ[i]? = some Qan →
  ∃v f1 f2 c,σ[i]? = some Qav/\fp=f1++(f2++c)/\bK K CL H Z t v f2 ∧
   (∀{H' Z':Hp} {t':T} {v':V} {g:BS},aD Z Z'->(∀a∈f1++c,H' a=H a)->bK K CL H' Z' t' v' g->fU K CL H' Z' (δ.set i (some t')) (σ.set i (some v')) (f1++(g++c))) ∧
   (∀{o:Option V},fU K CL H Z (δ.set i none) (σ.set i o) (f1++c)):=by
 intro δ σ fp i t h;have mono:∀{H H' Z Z':Hp} {δ:BB} {σ:L2.St} {fp:BS},aD Z Z'->(∀a∈fp,H' a=H a)->fU K CL H Z δ σ fp->fU K CL H' Z' δ σ fp:=by
  intro H H' Z Z' δ σ fp e k r
  induction r with
  | nil=>exact .nil
  | skip _ d=>exact .skip (d k)
  | cons r _ d=>exact .cons (r.mono e λa b=>k a (j1 _ b)) (d λa b=>k a (js _ b))
 induction h generalizing i with
 | nil=>intro e;simp at e
 | @skip o δ σ fp r d=>
  cases i with
  | zero=>intro e;simp at e
  | succ i=>
   intro e;obtain⟨v,f1,f2,c,h1,h2,m,l,j⟩:=d (i:=i) (by simpa using e);exact⟨v,f1,f2,c,by simpa using h1,h2,m,λe k q=>.skip (l e k q),.skip j⟩
 | @cons t0 v0 δ σ fp gp f r d=>
  cases i with
  | zero=>
   intro e;simp at e;subst e;refine⟨v0,[],fp,gp,rfl,rfl,f,λ{H' Z' t' v' g} e k q=>fU.cons (fp:=g) (gp:=gp) q (mono (fp:=gp) e (λa b=>k a (by simpa using b)) r),.skip (by simpa using r)⟩
  | succ i=>
   intro e;obtain⟨v,f1,f2,c,h1,h2,m,l,j⟩:=d (i:=i) (by simpa using e);refine⟨v,fp++f1,f2,c,by simpa using h1,by rw[h2,List.append_assoc],m,λ{H' Z' t' v' g} e k q=>?_,λ{o}=>?_⟩
   .rw[jw];exact .cons (f.mono e λa b=>k a (by simp[b])) (l e (λa b=>k a (by rw[jw];exact js _ b)) q)
   .rw[jw];exact .cons f j
variable{δ:BB}{σ:L2.St}
theorem fU.mono(e:aD Z Z')(k:∀a∈fp,H' a=H a)(r:fU K CL H Z δ σ fp):fU K CL H' Z' δ σ fp:=by
 induction r with
 | nil=>exact .nil
 | skip _ b=>exact .skip (b k)
 | cons r _ b=>exact .cons (r.mono e λa c=>k a (j1 _ c)) (b λa c=>k a (js _ c))
theorem fU.there(r:fU K CL H Z δ σ fp):∀a∈fp,∃o,H a=some o:=by
 induction r with
 | nil=>intro a c;cases c
 | skip _ b=>exact b
 | cons r _ b=>exactλa c=>(i3.1 c).elim (r.there a) (b a)
theorem fU.put(r:fU K CL H Z δ σ fp){g:BS}(q:bK K CL H Z t v g) :
  ∀{i:Nat},i<δ.length->∃f,fU K CL H Z (δ.set i Qan) (σ.set i Qav) f/\∃a,a.Sublist fp/\f.Perm (g++a):=by
 induction r with
 | nil=>intro i hi;simp at hi
 | @skip o δ σ fp r b=>
  intro i hi;cases i with
  | zero=>exact⟨ _,.cons q r,fp,n7 _,List.Perm.refl _⟩
  | succ i=>
   obtain⟨f,h1,a,h2,c⟩:=b (by simpa using hi);exact⟨f,.skip h1,a,h2,c⟩
 | @cons t0 v0 δ σ fp gp d r b=>
  intro i hi;cases i with
  | zero=>exact⟨ _,.cons q r,gp,vy _ _,List.Perm.refl _⟩
  | succ i=>
   obtain⟨f,h1,a,h2,c⟩:=b (by simpa using hi);refine⟨ _,.cons d h1,_,pw (n7 _) h2,?_⟩;refine(tc fp c).trans ?_;rw[← jw,← jw];exact List.Perm.append_right a mN
theorem bQ.gR{ds:BA}(h:bQ K CL Z (.lst ds) v):∃a vs,v=.ref a/\nT K Z a vs/\az K CL Z ds vs:=by cases h with|lst p q=>exact⟨_,_,rfl,p,q⟩
theorem bQ.Sl{ds:BA}(h:bQ K CL Z (.tup ds) v):∃a vs,v=.ref a/\zK K Z a vs/\az K CL Z ds vs:=by cases h with|tup p q=>exact⟨_,_,rfl,p,q⟩
variable{c:Str}
theorem bQ.DB{fs:D2}(h:bQ K CL Z QaF v):∃a dx gs,v=.ref a/\Z a=some Qc2/\ng K CL Z fs gs:=by cases h with|ins p q=>exact⟨_,_,_,rfl,p,q⟩
theorem bK.Iu{d:D}(h:bK K CL H Z (.sh d) v fp):fp=[]/\bQ K CL Z d v:=by cases h with|sh r=>exact⟨rfl,r⟩
theorem bK.gR(h:bK K CL H Z (.lst ts) v fp):∃a vs g,v=.ref a/\fp=a::g/\H a=some (.lst vs)/\aS K CL H Z ts vs g:=by cases h with|lst p q=>exact⟨_,_,_,rfl,rfl,p,q⟩
theorem bK.Sl(h:bK K CL H Z (.tup ts) v fp):∃a vs,v=.ref a/\Z a=some (.tup vs)/\aS K CL H Z ts vs fp:=by cases h with|tup p q=>exact⟨_,_,rfl,p,q⟩
theorem bK.DB{fs:BN}(h:bK K CL H Z QaF v fp):∃a dx gs g,v=.ref a/\fp=a::g/\H a=some Qc2/\dz K CL H Z fs gs g:=by cases h with|ins p q=>exact⟨_,_,_,_,rfl,rfl,p,q⟩
theorem bK.Iv{y:Addr}(h:bK K CL H Z (.pin y t) v fp):v=.ref y/\bK K CL H Z t (.ref y) fp:=by cases h with|pin r=>exact⟨rfl,r⟩
noncomputable def Iw(X:Cx)(e:Expr):TE:=λσ H Q=>∀(pins:BM) (s:Qb),Inv X pins σ H s->wpAny Qr X.A (eval e X.env) Qa2 X.xe s
noncomputable def BD(X:Cx)(e:Expr):TT:=λσ H Q=>∀(pins:BM) (s:Qb),Inv X pins σ H s->wpAny Qr X.A (isTrue e X.env (eval e X.env)) (TP X pins σ Q) X.xe s
noncomputable def Sn(X:Cx)(es:Cc):TA:=λσ H Q=>∀(pos:Pos) (pins:BM) (s:Qb),Inv X pins σ H s->wpAny Qr X.A (spliced (backTo pos (starEach es X.env))) (AP X pins σ Q) X.xe s
noncomputable def LU(X:Cx)(st:Stmt):TS:=λD σ H=>∀(pins:BM) (s:Qb),Inv X pins σ H s->wpAny Qr X.A (exec st X.env) (SP X pins D) X.xe s
noncomputable def LS(X:Cx)(st:Co):TS:=λD σ H=>∀(pins:BM) (s:Qb),Inv X pins σ H s->wpAny Qr X.A (execs st X.env) (SP X pins D) X.xe s
variable{X:Cx}{e:Expr}
noncomputable def dI:PE X e (Iw X e):=λpins s _ _ _ I h=>h pins s I
noncomputable def og:PT X e (BD X e):=λpins s _ _ _ I h=>h pins s I
noncomputable def Fb{e:Cc}:PA X e (Sn X e):=λpos pins s _ _ _ I h=>h pos pins s I
noncomputable def psS{e:Stmt}:PS X e (LU X e):=λpins s _ _ _ I h=>h pins s I
noncomputable def Z6{e:Co}:R1 X e (LS X e):=λpins s _ _ _ I h=>h pins s I
noncomputable def cM{t:TE}(h:PE X e t){Q:VK}(q:t σ H Q):Iw X e σ H Q:=λpins s I=>h pins s σ H Q I q
variable{Q:Do}
noncomputable def Iz{t:TT}(h:PT X e t)(q:t σ H Q):BD X e σ H Q:=λpins s I=>h pins s σ H Q I q
noncomputable def IA{e:Cc}{t:TA}(h:PA X e t){Q:EN}(q:t σ H Q):Sn X e σ H Q:=λpos pins s I=>h pos pins s σ H Q I q
noncomputable def tO{e:Stmt}{t:TS}(h:PS X e t){D:Ends}(q:t D σ H):LU X e D σ H:=λpins s I=>h pins s σ H D I q
noncomputable def OT{e:Co}{t:TS}(h:R1 X e t){D:Ends}(q:t D σ H):LS X e D σ H:=λpins s I=>h pins s σ H D I q
noncomputable def notStar:Expr->Bool
 | .Starred _ _=>false
 | _=>true
variable{es:Cc}{env:Env}
def aW(h:notStar e=true):starEach Qaa env=(false,eval e env)::starEach es env:=by
 cases e<;>first|rfl|(cases h)
structure Bx where
 B:Hp
 Z:Hp
def lP:HO->Bool
 | .tup _=>true
 | .fB _ _=>true
 | _=>false
noncomputable def J9(x:Str):Bool:=x.cps[0]? == some 35
noncomputable def Lg(x:Str):Str:=⟨x.cps.extract 1 x.cps.size⟩
def tP(CL:BC)(Z:Hp):Prop:=∀x,J9 x=true->CL x≠0->Z (CL x)=some (.tabs (Lg x))
structure bB(K:Frag)(CL:BC)(b:Bx)(H Z:Hp)(δ:BB)(σ:L2.St)(ts:B1)(vs:BY):Prop where
 rep:∃fp gp,fU K CL H Z δ σ fp/\aS K CL H Z ts vs gp/\(fp++gp).Nodup/\∀a∈fp++gp,Z a=none/\b.B a=none
 bh:aD b.B H
 zz:aD b.Z Z
 zh:aD Z H
 new:∀a o,Z a=some o->b.Z a=none->b.B a=none
 tp:∀a o,H a=some o->lP o=true->Z a=some o
 tab:tP CL b.Z
variable{b:Bx}
theorem tP.mono{A B:Hp}(h:tP CL A)(e:aD A B):tP CL B:=λx a h0=>e _ _ (h x a h0)
theorem bB.Lh(S:Qam):tP CL Z:=S.tab.mono S.zz
theorem bB.Pr(S:Qam):tP CL H:=S.Lh.mono S.zh
def Sq{A B:Hp}(e:aD A B)(h:B a=none):A a=none:=e.free h
variable{p:Addr}{o:HO}
theorem aD.upd(h:H p=none):aD H (upd H p o):=λb u e=>aq (aP e h)▸e
theorem bB.view(S:QbS):bQ K CL H t.fB v:=by
 obtain⟨fp,gp,_,r,_,_⟩:=S.rep;cases r with
 | cons r _=>exact r.fB S.zh λ_ _=>rfl
theorem bB.pop(S:QbS):bB K CL b H Z δ σ ts vs:=by
 obtain⟨fp,gp,e,r,nd,k⟩:=S.rep;cases r with
 | @cons _ _ _ _ f1 f2 f c=>
  refine⟨⟨fp,f2,e,c,nd.sublist (pw (n7 _) (vy _ _)),λa d=>k a ?_⟩,S.bh,S.zz,S.zh,S.new,S.tp,S.tab⟩;obtain h|h:=i3.1 d
  .exact j1 _ h
  simp_all
theorem bB.push{d:D}(S:Qam)(r:Qct):bB K CL b H Z δ σ (.sh d::ts) QaN:=by
 obtain⟨fp,gp,e,a,nd,k⟩:=S.rep;exact⟨⟨fp,_,e,.cons (.sh r) a,nd,k⟩,S.bh,S.zz,S.zh,S.new,S.tp,S.tab⟩
theorem bB.Li(S:QbS):∃Z',aD Z Z'/\bB K CL b H Z' δ σ (.sh t.fB::ts) QaN:=by
 classical
 obtain⟨fp,gp,e,r,nd,k⟩:=S.rep;cases r with
 | @cons _ _ _ _ f1 f2 m l=>
  have j:=λa c=>k a (js _ (j1 _ c));have sz:aD Z _:=λa o q=>by
   by_cases c:a∈f1
   .rw[(j a c).1]at q;cases q
   .show(if a∈f1 then H a else Z a)=some o;rw[dP c];exact q
  have f:=la.1 nd;have n:∀a∈fp++f2,a∉f1:=λa c h1=>by
   obtain h|h:=i3.1 c
   .exact f.2.2 a h a (j1 _ h1) rfl
   .exact(la.1 f.2.1).2.2 a h1 a h rfl
  refine⟨ _,sz,⟨⟨fp,[]++f2,e.mono sz QbK,.cons (.sh (m.fB sz λa c=>dX c)) (l.mono sz λ_ _=>rfl),?_,λa c=>?_⟩,S.bh,S.zz.trans sz,λa o q=>?_,λa o q z=>?_,λa o q i=>?_,S.tab⟩⟩
  .exact nd.sublist (pw (n7 _) (vy _ _))
  .have g:a∈fp++f2:=c;refine⟨?_,(k a ?_).2⟩
   .rw[dP (n a g)];refine(k a ?_).1;obtain h|h:=i3.1 g
    .exact j1 _ h
    .exact js _ (js _ h)
   simp_all
  .have d:=q;by_cases c:a∈f1
   .rw[dX c]at d;exact d
   .rw[dP c]at d;exact S.zh a o d
  .have d:=q;by_cases c:a∈f1
   .exact(j a c).2
   .rw[dP c]at d;exact S.new a o d z
  .exact sz a o (S.tp a o q i)
variable{i:Nat}
theorem bB.afz(S:Qam)(hi:δ[i]? = some Qan):∃v Z',σ[i]? = some Qav/\aD Z Z'/\bB K CL b H Z' (δ.set i (some (.sh t.fB))) σ (.sh t.fB::ts) QaN:=by
 classical
 obtain⟨fp,gp,e,r,nd,k⟩:=S.rep;obtain⟨v,f1,f2,d,hv,s,rt,put,_⟩:=e.get hi;subst s;have p:∀a∈f2,Z a=none/\b.B a=none:=λa c=>k a (by simp[c]);have sz:aD Z Qes:=λa o q=>by
  by_cases c:a∈f2
  .rw[(p a c).1]at q;cases q
  .show QdO=some o;rw[dP c];exact q
 have w:∀a∈(f1++d)++gp,a∉f2:=λa c h2=>by
  have u:((f1++(f2++d))++gp).Perm (f2++((f1++d)++gp)):=by
   rw[← jw,← jw];refine(List.perm_append_right_iff gp).2 ?_;rw[← jw];exact(List.perm_append_right_iff d).2 mN
  exact(la.1 (u.nodup_iff.1 nd)).2.2 a h2 a c rfl
 have n:bQ K CL Qes t.fB v:=rt.fB sz λa c=>dX c;have m:σ.set i Qav=σ:=by
  apply vv;intro j;rw[List.getElem?_set];split
  .rename_i h;subst h;split
   .exact hv.symm
   .rename_i h2;rw[v3 Wc]
  .rfl
 have e2:fU K CL H Qes (δ.set i (some (.sh t.fB))) σ (f1++([]++d)):=by
  have:=put (H':=H) (t':=.sh t.fB) (v':=v) (g:=[]) sz QbK (.sh n)
  rwa [m]at this
 refine⟨v,λa=>if a∈f2 then H a else Z a,hv,sz,⟨⟨f1++([]++d),[]++gp,e2,.cons (.sh n) (r.mono sz λ_ _=>rfl),?_,λa c=>?_⟩,S.bh,S.zz.trans sz,λa o q=>?_,λa o q z=>?_,λa o q i=>sz a o (S.tp a o q i),S.tab⟩⟩
 .exact nd.sublist (pw (pw (n7 _) (vy _ _)) (n7 _))
 .have l:a∈(f1++d)++gp:=c;have hm:a∈(f1++(f2++d))++gp:=by
   simp only[i3]at l ⊢;rcases l with(h|h)|h
   .exact .inl (.inl h)
   .exact .inl (.inr (.inr h))
   .exact .inr h
  refine⟨?_,(k a hm).2⟩;show QdO=none;rw[dP (w a l)];exact(k a hm).1
 .have f:QdO=some o:=q;by_cases c:a∈f2
  .rw[dX c]at f;exact f
  .rw[dP c]at f;exact S.zh a o f
 .have f:QdO=some o:=q;by_cases c:a∈f2
  .exact(p a c).2
  .rw[dP c]at f;exact S.new a o f z
theorem bB.move(S:Qam)(hi:δ[i]? = some Qan):∃v,σ[i]? = some Qav/\bB K CL b H Z (δ.set i none) σ (t::ts) QaN:=by
 obtain⟨fp,gp,e,r,nd,k⟩:=S.rep;obtain⟨v,f1,f2,c,hv,g,rt,_,del⟩:=e.get hi;subst g;have d:σ.set i Qav=σ:=by
  apply vv;intro j;rw[List.getElem?_set];split
  .rename_i h;subst h;split
   .exact hv.symm
   simp_all
  .rfl
 have f:((f1++(f2++c))++gp).Perm ((f1++c)++(f2++gp)):=by
  have h1:(f2++c).Perm _:=mN;have h2:=(tc f1 h1).append_right gp;simp_all
 refine⟨v,hv,⟨⟨ _,_,?_,.cons rt r,f.nodup_iff.1 nd,λa l=>k a (f.mem_iff.2 l)⟩,S.bh,S.zz,S.zh,S.new,S.tp,S.tab⟩⟩;have:=del (o:=some v)
 rwa [d]at this
theorem bB.look(S:Qam)(hi:δ[i]? = some Qan):∃v,σ[i]? = some Qav/\bQ K CL H t.fB v:=by
 obtain⟨fp,gp,e,r,nd,k⟩:=S.rep;obtain⟨v,f1,f2,c,hv,a,rt,_,_⟩:=e.get hi;exact⟨v,hv,rt.fB S.zh λ_ _=>rfl⟩
theorem bB.V7{d:D}(S:Qam)(hi:δ[i]? = some QbM):∃v,σ[i]? = some Qav/\bQ K CL Z d v:=by
 obtain⟨fp,gp,e,r,nd,k⟩:=S.rep;obtain⟨v,f1,f2,c,hv,a,rt,_,_⟩:=e.get hi;obtain⟨rfl,h⟩:=rt.Iu;exact⟨v,hv,h⟩
theorem bB.set(S:QbS)(hi:i<δ.length):bB K CL b H Z (δ.set i Qan) (σ.set i Qav) ts vs:=by
 obtain⟨fp,gp,e,r,nd,k⟩:=S.rep;cases r with
 | @cons _ _ _ _ f1 f2 j h=>
  obtain⟨f,h1,g,h2,m⟩:=e.put j hi;have d:(f++f2).Perm (g++(f1++f2)):=by
   refine(m.append_right f2).trans ?_;rw[← jw];exact mN.append_right f2
  have c:(g++(f1++f2)).Sublist _:=pw h2 (n7 _);exact⟨⟨f,f2,h1,h,d.nodup_iff.2 (nd.sublist c),λa l=>k a (c.subset (d.mem_iff.1 l))⟩,S.bh,S.zz,S.zh,S.new,S.tp,S.tab⟩
mutual
def D.tQ:D->Bool
 | .tup ds=>D.bP ds
 | .lst _=>false
 | .ins _ _=>false
 | .rZ _=>false
 | .dct _=>false
 | .any=>false
 | .CY _ _ _=>false
 | _=>true
def D.bP:BA->Bool
 | []=>true
 | d::ds=>d.tQ&&D.bP ds
end
mutual
def T.clean:T->Bool
 | .sh d=>d.tQ
 | .tup ts=>T.cW ts
 | .lst ts=>T.cW ts
 | .ins _ fs=>T.fV fs
 | .rZ kvs=>D.bP (kvs.map (·.2))
 | .dct kvs=>T.Lj kvs
 | .pin _ t=>t.clean
 | .CY _ _ _=>false
def T.cW:B1->Bool
 | []=>true
 | t::ts=>t.clean&&T.cW ts
def T.fV:BN->Bool
 | []=>true
 | (_,t)::ts=>t.clean&&T.fV ts
def T.Lj:CS->Bool
 | []=>true
 | (_,t)::ts=>t.clean&&T.Lj ts
end
def cO(X:Cx)(CL:BC)(b:Bx)(e:Expr)(δ:BB)(t:T)(δ':BB):Prop:=
 ∀(H Z:Hp) (σ:L2.St) (ts:B1) (vs:BY) (Q:VK),bB X.K CL b H Z δ σ ts vs->(∀v H' Z',aD Z Z'->aD H H'->bB X.K CL b H' Z' δ' σ (t::ts) QaN->Q v H')->Iw X e σ H Q
def dM(X:Cx)(CL:BC)(b:Bx)(e:Expr)(δ:BB)(d:D)(δ':BB):Prop:=
 ∀(H Z:Hp) (σ:L2.St) (ts:B1) (vs:BY) (Q:VK),bB X.K CL b H Z δ σ ts vs->(∀v H' Z',aD Z Z'->aD H H'->bB X.K CL b H' Z' δ' σ ts vs->bQ X.K CL H' d v->Q v H')->Iw X e σ H Q
def wZ(X:Cx)(CL:BC)(b:Bx)(e:Expr)(δ:BB)(p:Bool)(δ':BB):Prop:=
 ∀(H Z:Hp) (σ:L2.St) (ts:B1) (vs:BY) (Q:Do),bB X.K CL b H Z δ σ ts vs->(∀H' Z',aD Z Z'->aD H H'->bB X.K CL b H' Z' δ' σ ts vs->Q p H')->BD X e σ H Q
def IB(X:Cx)(CL:BC)(b:Bx)(es:Cc)(δ:BB)(tl:B1)(δ':BB):Prop:=
 ∀(H Z:Hp) (σ:L2.St) (ts:B1) (vs:BY) (Q:EN),bB X.K CL b H Z δ σ ts vs →
  (∀us H' Z',us.length=tl.length->aD Z Z'->aD H H'->bB X.K CL b H' Z' δ' σ (tl.reverse++ts) Qb1->Q us H')->Sn X es σ H Q
def X4(X:Cx)(CL:BC)(b:Bx)(es:Cc)(δ:BB)(ds:BA)(δ':BB):Prop:=
 ∀(H Z:Hp) (σ:L2.St) (ts:B1) (vs:BY) (Q:EN),bB X.K CL b H Z δ σ ts vs →
  (∀us H' Z',aD Z Z'->aD H H'->bB X.K CL b H' Z' δ' σ ts vs->az X.K CL H' ds us->Q us H')->Sn X es σ H Q
structure gF where
 nx:BB->Prop
 rt:T->BB->Prop
 bk:BB->Prop:=λ_=>False
 ct:BB->Prop:=λ_=>False
structure Meets(K:Frag)(CL:BC)(b:Bx)(Z:Hp)(ts:B1)(vs:BY)(D:gF)(E:Ends):Prop where
 nx:∀δ' σ' H' Z',aD Z Z'->bB K CL b H' Z' δ' σ' ts vs->D.nx δ'->E.nx σ' H'
 rt:∀t v H' Z' δ' σ',aD Z Z'->bB K CL b H' Z' δ' σ' (t::ts) QaN->D.rt t δ'->E.rt v H'
 bk:∀δ' σ' H' Z',aD Z Z'->bB K CL b H' Z' δ' σ' ts vs->D.bk δ'->E.bk σ' H'
 ct:∀δ' σ' H' Z',aD Z Z'->bB K CL b H' Z' δ' σ' ts vs->D.ct δ'->E.ct σ' H'
def Ss(X:Cx)(CL:BC)(b:Bx)(st:Stmt)(δ:BB)(D:gF):Prop:=
 ∀(H Z:Hp) (σ:L2.St) (ts:B1) (vs:BY) (E:Ends),bB X.K CL b H Z δ σ ts vs->Meets X.K CL b Z ts vs D E->LU X st E σ H
def eW(X:Cx)(CL:BC)(b:Bx)(st:Co)(δ:BB)(D:gF):Prop:=
 ∀(H Z:Hp) (σ:L2.St) (ts:B1) (vs:BY) (E:Ends),bB X.K CL b H Z δ σ ts vs->Meets X.K CL b Z ts vs D E->LS X st E σ H
theorem Meets.mono{D:gF}{E:Ends}(M:Meets K CL b Z ts vs D E)(e:aD Z Z'):Meets K CL b Z' ts vs D E:=
 ⟨λ_ _ _ _ s=>M.nx _ _ _ _ (e.trans s),λ_ _ _ _ _ _ s=>M.rt _ _ _ _ _ _ (e.trans s),λ_ _ _ _ s=>M.bk _ _ _ _ (e.trans s),λ_ _ _ _ s=>M.ct _ _ _ _ (e.trans s)⟩
def V8(zh:∀a o,H a=some o->lP o=true->Z a=some o)(h:zK K H a xs):zK K Z a xs:=by
 rcases h with(h|⟨o,h⟩)|h
 .exact .inl (.inl (zh _ _ h rfl))
 .exact .inl (.inr ⟨o,zh _ _ h rfl⟩)
 .exact .inr h
theorem bQ.tQ(zh:∀a o,H a=some o->lP o=true->Z a=some o){d:D}(k:d.tQ=true)(h:bQ K CL H d v):bQ K CL Z d v:=
 bQ.rec (motive_2:=λd v _=>D.bP d=true->az K CL Z d v) (motive_3:=λd v _=>True) (motive_4:=λd v _=>True) (motive_5:=λd v _=>True)
  (λ_=>.non) (λb _=>.bl b) (λb _=>.int b) (λb _=>.str b) (λ_ k=>by cases k) (λb _=>.val b) (λh _ r k=>.tup (V8 zh h) (r (‹_›))) (λ_ _ _ k=>by cases k) (λ_ _ _ k=>by cases k) (λ_ _ _ k=>by cases k) (λ_ _ _ k=>by cases k) (λ_ _ _ _ _ k=>by rw[D.tQ]at k;cases k) QaM (λ_ _ h r k=>by rw[D.bP,lx]at k;exact .cons (h k.1) (r k.2)) trivial Qar trivial Qar trivial Qar h k
theorem az.tQ(zh:∀a o,H a=some o->lP o=true->Z a=some o){d:BA}{v:BY}(k:D.bP d=true)(h:az K CL H d v):az K CL Z d v:=
 az.rec (motive_1:=λd v _=>d.tQ=true->bQ K CL Z d v) (motive_3:=λd v _=>True) (motive_4:=λd v _=>True) (motive_5:=λd v _=>True)
  (λ_=>.non) (λb _=>.bl b) (λb _=>.int b) (λb _=>.str b) (λ_ k=>by cases k) (λb _=>.val b) (λh _ r k=>.tup (V8 zh h) (r (‹_›))) (λ_ _ _ k=>by cases k) (λ_ _ _ k=>by cases k) (λ_ _ _ k=>by cases k) (λ_ _ _ k=>by cases k) (λ_ _ _ _ _ k=>by cases k) QaM (λ_ _ h r k=>by rw[D.bP,lx]at k;exact .cons (h k.1) (r k.2)) trivial Qar trivial Qar trivial Qar h k
variable{gs:Cf}
theorem cN.clean{Z1:Hp}(a:∀{d:D} {v:V},d.tQ=true->bQ K CL Z1 d v->bQ K CL Z d v){kvs:CC}(k:D.bP (kvs.map (·.2))=true)(h:cN K CL Z1 kvs gs):cN K CL Z kvs gs:=
 cN.ind (P:=λkvs gs=>D.bP (kvs.map _)=true->cN K CL Z kvs gs) QaM (λh _ i k=>by rw[kx,D.bP,lx]at k;exact .cons (a k.1 h) (i k.2)) h k
theorem bK.clean{Z1:Hp}(zh:∀a xs,Z1 a=some Qbe->Z a=some Qbe)(b:∀{d:D} {v:V},d.tQ=true->bQ K CL Z1 d v->bQ K CL Z d v)(k:t.clean=true)(h:bK K CL H Z1 t v fp):bK K CL H Z t v fp:=
 bK.rec (motive_2:=λt v fp _=>T.cW t=true->aS K CL H Z t v fp) (motive_3:=λt v fp _=>T.fV t=true->dz K CL H Z t v fp) (motive_4:=λt v fp _=>T.Lj t=true->fP K CL H Z t v fp)
  (λh k=>.sh (b (‹_›) h)) (λh _ r k=>.tup (zh _ _ h) (r (‹_›))) (λh _ r k=>.lst h (r (‹_›))) (λh _ r k=>.ins h (r (‹_›))) (λh f k=>.rZ h (cN.clean b (‹_›) f)) (λh _ r k=>.dct h (r (‹_›))) (λ_ r k=>.pin (r (‹_›))) (λ_ _ _ k=>by rw[T.clean]at k;cases k) QaM (λ_ _ h r k=>by rw[T.cW,lx]at k;exact .cons (h k.1) (r k.2)) QaM (λ_ _ h r k=>by rw[T.fV,lx]at k;exact .cons (h k.1) (r k.2)) QaM (λ_ _ h r k=>by rw[T.Lj,lx]at k;exact .cons (h k.1) (r k.2)) h k
theorem bB.back{W W':Hp}(S:Qam)(p:aD H H')(s:aD Z W)(ww:aD W W')(m:aD W' H')(new:∀a o,W' a=some o->W a=none->H a=none)
  (tp:∀a o,H' a=some o->lP o=true->W' a=some o) (r:bK K CL H' W' t v fp) (nd:fp.Nodup) (own:∀a∈fp,W' a=none/\H a=none) (c:W=Z\/t.clean=true) :
  ∃Z',aD Z Z'/\bB K CL b H' Z' δ σ (t::ts) QaN:=by
 classical
 let Z':Hp:=λa=>if (H a).isSome=true then Z a else W' a
 have zs:∀{a:Addr} {o:HO},H a=some o->Z' a=Z a:=λ{a o} e=>by
  show(if (H a).isSome=true then Z a else W' a)=Z a;rw[dX (by rw[e];rfl)]
 have zn:∀{a:Addr},H a=none->Z' a=W' a:=λ{a} e=>by
  show(if (H a).isSome=true then Z a else W' a)=W' a;rw[dP (by rw[e];simp)]
 have sz:aD Z Z':=λa o q=>by rw[zs (S.zh a o q)];exact q
 have l:∀a o,Z' a=some o->W' a=some o:=λa o q=>by
  cases e:H a with
  | none=>rw[zn e]at q;exact q
  | some u=>rw[zs e]at q;exact ww a o (s a o q)
 have g:∀a o,H' a=some o->lP o=true->Z' a=some o:=λa o q i=>by
  cases e:H a with
  | none=>rw[zn e];exact tp a o q i
  | some u=>
   rw[zs e];have:=p a u e;rw[q]at this;cases this;exact S.tp a o e i
 have x:bK K CL H' Z' t v fp:=by
  obtain c|c:=c
  .have:Z'=W':=by
    funext a;cases e:H a with
    | none=>exact zn e
    | some u=>
     rw[zs e];cases q:W' a with
     | none=>
      cases j:Z a with
      | none=>rfl
      | some o=>rw[ww a o (s a o j)]at q;cases q
     | some o=>
      cases j:W a with
      | none=>rw[new a o q j]at e;cases e
      | some y=>
       have:=ww a y j;rw[q]at this;cases this;rw[← c];exact j
   rw[this];exact r
  .refine bK.clean (λa xs h=>?_) (λ{d v} k h=>?_) c r
   .exact g a _ (m a _ h) rfl
   .exact bQ.tQ (H:=H') g k (h.mono m)
 obtain⟨f0,g0,e0,w,n,k0⟩:=S.rep;have old:∀a∈f0++g0,∃o,H a=some o:=λa f=>(i3.1 f).elim (e0.there a) (w.there a);have keep:∀a∈f0++g0,H' a=H a:=λa f=>by
  obtain⟨o,e⟩:=old a f;rw[e];exact p a o e
 refine⟨Z',sz,⟨⟨f0,fp++g0,e0.mono sz (λa f=>keep a (j1 _ f)),.cons x (w.mono sz λa f=>keep a (js _ f)),?_,λa f=>?_⟩,S.bh.trans p,S.zz.trans sz,λa o q=>m a o (l a o q),λa o q z=>?_,g,S.tab⟩⟩
 .have A:(f0++(fp++g0)).Perm (fp++(f0++g0)):=by
   rw[← jw,← jw];exact mN.append_right g0
  refine A.nodup_iff.2 (la.2 ⟨nd,n,λa f c B e=>?_⟩);subst e;obtain⟨o,q⟩:=old a B;rw[(own a f).2]at q;cases q
 .have:a∈f0++g0\/a∈fp:=by
   simp only[i3]at f ⊢;obtain h|h|h:=f
   .exact .inl (.inl h)
   .exact .inr h
   .exact .inl (.inr h)
  obtain h|h:=this
  .obtain⟨o,q⟩:=old a h;exact⟨by rw[zs q];exact(k0 a h).1,(k0 a h).2⟩
  .exact⟨by rw[zn (own a h).2];exact(own a h).1,S.bh.free (own a h).2⟩
 .cases e:H a with
  | none=>exact S.bh.free e
  | some u=>rw[zs e]at q;exact S.new a o q z
section
variable{δ1 δ2:BB}{e1 e2:Expr}{pos:Pos}{d d1 d2:D}
noncomputable def Tb(h:QaL):dM X CL b e δ t.fB δ1:=λH Z σ ts vs Q S k=>h H Z σ ts vs Q S λv H' Z' z s a=>k v H' Z' z s a.pop a.view
def aE(h:Qej):dM X CL b e δ d δ1:=by have:=Tb h;rwa [T.fB]at this
noncomputable def cX(h:dM X CL b e δ d δ1)(i:d.tQ=true):cO X CL b e δ (.sh d) δ1:=λH Z σ ts vs Q S k=>h H Z σ ts vs Q S λv H' Z' z s a r=>k v H' Z' z s (a.push (bQ.tQ a.tp i r))
def Sv(h:QaL):cO X CL b e δ (.sh t.fB) δ1:=λH Z σ ts vs Q S k=>h H Z σ ts vs Q S λv H' Z' z s d=>by
 obtain⟨Z2,a,c⟩:=d.Li;exact k v H' Z2 (z.trans a) s c
def aZ{i:Int}{j:Nat}:cO X CL b (.Constant Qaw j pos) δ (.sh Qaw) δ:=λH Z σ ts vs Q S k=>cM aap (k _ _ Z Ql Ql (S.push Qaw))
def vp{i:Bool}{j:Nat}:cO X CL b (.Constant (.bool i) j pos) δ (.sh (.bl i)) δ:=λH Z σ ts vs Q S k=>cM S2 (k _ _ Z Ql Ql (S.push (.bl i)))
def eS{x:Str}{j:Nat}:cO X CL b (.Constant Qa0 j pos) δ (.sh Qa0) δ:=λH Z σ ts vs Q S k=>cM aj4 (k _ _ Z Ql Ql (S.push Qa0))
section
variable{x:Str}(i:Nat)(hi:X.N[i]? = some x:=by rfl)(hv:tj X.env.scope x:=by first|exact Or.inl rfl|exact Or.inr (Or.inl rfl)|exact Or.inr (Or.inr rfl))(hd:AD x:=by decide)(kH:AE x:=by decide)
include hi hv hd kH
def akJ(h:δ[i]? = some QbM:=by rfl):cO X CL b Qau δ (.sh d) δ:=λH Z σ ts vs Q S k=>by
 obtain⟨v,e,r⟩:=S.V7 h;exact cM (nS hi hv hd kH) ⟨v,e,k v H Z Ql Ql (S.push r)⟩
def afA(h:δ[i]? = some Qan:=by rfl):cO X CL b Qau δ t (δ.set i none):=λH Z σ ts vs Q S k=>by
 obtain⟨v,e,a⟩:=S.move h;exact cM (nS hi hv hd kH) ⟨v,e,k v H Z Ql Ql a⟩
def akK(h:δ[i]? = some Qan:=by rfl):dM X CL b Qau δ t.fB δ:=λH Z σ ts vs Q S k=>by
 obtain⟨v,e,r⟩:=S.look h;exact cM (nS hi hv hd kH) ⟨v,e,k v H Z Ql Ql S r⟩
end
noncomputable def o8:D->Option V
 | .non=>some .non
 | .bl b=>some (.bl b)
 | .int i=>some Qaw
 | .str x => some Qa0
 | _=>none
theorem bQ.sc{d:D}{w:V}(r:Qct)(h:o8 d=some w):v=w:=by
 cases r<;>first|(exact l1 h)|(cases h)
def V9{d:D}{w:V}(h:o8 d=some w):bQ K CL Z d w:=by
 cases d<;>first|(cases h;constructor)|(cases h)
def vq{op:Operator}{r:R2}{c a w:V}(j:zL X (binaryOp op) r)(h1:Qdo)(h2:Qdk)(s1:o8 d1=some c)(s2:o8 d2=some a)(s3:o8 d=some w)
  (i:∀(H:Hp) (Q:VK),Q w H->r c a H Q):cO X CL b (.BinOp e1 op e2 pos) δ (.sh d) δ2:=λH Z σ ts vs Q S k=>by
 refine cM (O7 j dI dI) (h1 H Z σ ts vs _ S λv1 H1 Z1 f k1 m h=>h2 H1 Z1 σ ts vs _ m λv2 H2 Z2 e k2 l g=>?_);rw[h.sc s1,g.sc s2];exact i H2 Q (k w H2 Z2 (f.trans e) Qao (l.push (V9 s3)))
noncomputable def tR{i j:Int}(h1:Qa7)(h2:Qbg):cO X CL b QcV δ (.sh (.int (i+j))) δ2:=vq aaz h1 h2 rfl rfl rfl λ_ _ q=>⟨i,j,rfl,rfl,q⟩
noncomputable def Lk{i j:Int}(h1:Qa7)(h2:Qbg):cO X CL b (.BinOp e1 .Sub e2 pos) δ (.sh (.int (i-j))) δ2:=vq aaA h1 h2 rfl rfl rfl λ_ _ q=>⟨i,j,rfl,rfl,q⟩
noncomputable def akL{i j:Int}(h1:Qa7)(h2:Qbg)(c:Im i j):cO X CL b (.BinOp e1 .Mult e2 pos) δ (.sh (.int (i*j))) δ2:=vq akm h1 h2 rfl rfl rfl λ_ _ q=>⟨i,j,rfl,rfl,c,q⟩
noncomputable def ji{i j:Int}(h1:Qa7)(h2:Qbg)(c:0<j):cO X CL b (.BinOp e1 .Mod e2 pos) δ (.sh (.int (i % j))) δ2:=vq akn h1 h2 rfl rfl rfl λ_ _ q=>⟨i,j,rfl,rfl,c,q⟩
noncomputable def qG{i j:Int}(h1:Qa7)(h2:Qbg)(c:Pe i j):cO X CL b (.BinOp e1 .FloorDiv e2 pos) δ (.sh (.int (i / j))) δ2:=vq afp h1 h2 rfl rfl rfl λ_ _ q=>⟨i,j,rfl,rfl,c,q⟩
noncomputable def yz{i j:Int}(h1:Qa7)(h2:Qbg)(c:Pd i j):cO X CL b (.BinOp e1 .Pow e2 pos) δ (.sh (.int (i ^ j.toNat))) δ2:=vq ako h1 h2 rfl rfl rfl λ_ _ q=>⟨i,j,rfl,rfl,c,q⟩
noncomputable def aa2{x y:Str}(h1:dM X CL b e1 δ (.str x) δ1)(h2:dM X CL b e2 δ1 (.str y) δ2)(c:x.length+y.length<=sizeLine):cO X CL b QcV δ (.sh (.str (x++y))) δ2:=vq E3 h1 h2 rfl rfl rfl λ_ _ q=>⟨x,y,rfl,rfl,c,q⟩
def Fd{op:CmpOp}{r:R2}{p:Bool}{i h:V}(l:zL X (compareOp op) r)(h1:Qdo)(h2:Qdk)(s1:o8 d1=some i)(s2:o8 d2=some h)
  (j:∀(H:Hp) (Q:VK),Q (.bl p) H->r i h H Q) (hm:behindInMarks op e2=false):wZ X CL b Qed δ p δ2/\cO X CL b Qed δ (.sh (.bl p)) δ2:=by
 constructor
 .intro H Z σ ts vs Q S k;refine Iz (tN l dI dI hm) (h1 H Z σ ts vs _ S λv1 H1 Z1 c k1 g e=>h2 H1 Z1 σ ts vs _ g λv2 H2 Z2 a k2 f d=>?_);rw[e.sc s1,d.sc s2];exact j H2 _ ⟨p,rfl,k H2 Z2 QbP Qao f⟩
 .intro H Z σ ts vs Q S k;refine cM (wX l dI dI hm) (h1 H Z σ ts vs _ S λv1 H1 Z1 c k1 g e=>h2 H1 Z1 σ ts vs _ g λv2 H2 Z2 a k2 f d=>?_);rw[e.sc s1,d.sc s2];exact j H2 _ (k _ H2 Z2 QbP Qao (f.push (.bl p)))
theorem fK{i j:Int}(h1:Qa7)(h2:Qbg):wZ X CL b QcS δ (decide (i=j)) δ2/\cO X CL b QcS δ (.sh (.bl (decide (i=j)))) δ2:=
 Fd SU h1 h2 rfl rfl (λ_ _ q=>⟨rfl,by simp_all ⟩) (qW _)
theorem Lp{i j:Int}(h1:Qa7)(h2:Qbg):wZ X CL b QcO δ (!decide (i=j)) δ2/\cO X CL b QcO δ (.sh (.bl (!decide (i=j)))) δ2:=
 Fd SS h1 h2 rfl rfl (λ_ _ q=>⟨rfl,by simp_all ⟩) (qW _)
theorem eU{i j:Str}(h1:dM X CL b e1 δ (.str i) δ1)(h2:dM X CL b e2 δ1 (.str j) δ2):wZ X CL b QcS δ (decide (i=j)) δ2/\cO X CL b QcS δ (.sh (.bl (decide (i=j)))) δ2:=
 Fd SU h1 h2 rfl rfl (λ_ _ q=>⟨rfl,by simp_all ⟩) (qW _)
theorem aa3{i j:Str}(h1:dM X CL b e1 δ (.str i) δ1)(h2:dM X CL b e2 δ1 (.str j) δ2):wZ X CL b QcO δ (!decide (i=j)) δ2/\cO X CL b QcO δ (.sh (.bl (!decide (i=j)))) δ2:=
 Fd SS h1 h2 rfl rfl (λ_ _ q=>⟨rfl,by simp_all ⟩) (qW _)
def Ka{i j:Int}(h1:Qa7)(h2:Qbg):wZ X CL b (.Compare e1 [.Lt] [e2] pos) δ (decide (i<j)) δ2/\cO X CL b (.Compare e1 [.Lt] [e2] pos) δ (.sh (.bl (decide (i<j)))) δ2:=Fd apd h1 h2 rfl rfl QeG (qW _)
def apw{i j:Int}(h1:Qa7)(h2:Qbg):wZ X CL b (.Compare e1 [.LtE] [e2] pos) δ (decide (i<=j)) δ2/\cO X CL b (.Compare e1 [.LtE] [e2] pos) δ (.sh (.bl (decide (i<=j)))) δ2:=Fd ape h1 h2 rfl rfl QeG (qW _)
def Ta{i j:Int}(h1:Qa7)(h2:Qbg):wZ X CL b (.Compare e1 [.Gt] [e2] pos) δ (decide (j<i)) δ2/\cO X CL b (.Compare e1 [.Gt] [e2] pos) δ (.sh (.bl (decide (j<i)))) δ2:=Fd SO h1 h2 rfl rfl QeG (qW _)
end
theorem aS.split:∀{as bs:B1} {us ws:BY} {gp:BS},as.length=us.length->aS K CL H Z (as++bs) (us++ws) gp->∃g1 g2,gp=g1++g2/\aS K CL H Z as us g1/\aS K CL H Z bs ws g2
 | [],_,[],_,gp,_,r=>⟨[],gp,rfl,.nil,r⟩
 | [],_,_::_,_,_,h,_=>by simp at h
 | _::_,_,[],_,_,h,_=>by simp at h
 | a::as,bs,u::us,ws,gp,h,r=>by
  cases r with
  | @cons _ _ _ _ f1 f2 c b=>
   obtain⟨g1,g2,e,h1,h2⟩:=aS.split Wp b;exact⟨ _,g2,Wp,.cons c h1,h2⟩
variable{us:BY}
theorem aS.app{as bs:B1}{ws:BY}{g1 g2:BS}(h:aS K CL H Z as us g1)(q:aS K CL H Z bs ws g2):aS K CL H Z (as++bs) (us++ws) (g1++g2):=
 aS.ind (P:=λas us g1=>aS K CL H Z (as++bs) (us++ws) (g1++g2)) q (λr _ i=>by rw[jw];exact .cons r i) h
theorem aS.rev:∀{as:B1} {us:BY} {g:BS},aS K CL H Z as.reverse us.reverse g->∃g',aS K CL H Z as us g'/\g'.Perm g
 | [],[],g,r=>by grind
 | [],u::us,g,r=>by have:=r.length;simp at this
 | a::as,[],g,r=>by have:=r.length;simp at this
 | a::as,u::us,g,r=>by
  rw[mM,mM]at r;have i:=r.length;obtain⟨g1,g2,e,c,b⟩:=aS.split Wp r;subst e;obtain⟨g',d,p⟩:=aS.rev c;cases b with
  | @cons _ _ _ _ f1 f2 h f=>
   cases f;refine⟨ _,.cons h d,?_⟩;rw[km];exact(tc f1 p).trans mN
theorem aS.Oe:∀{ds:BA} {us:BY},az K CL Z ds us->aS K CL H Z QaP us []
 | _,_,.nil=>.nil
 | _,_,.cons r t=>.cons (.sh r) (aS.Oe t)
theorem aS.toF:∀{ds:BA} {us:BY} {g:BS},aS K CL H Z QaP us g->az K CL Z ds us/\g=[]
 | [],_,_,r=>by
  have a:=r;cases a;exact⟨.nil,rfl⟩
 | d::ds,_,_,r=>by
  have a:=r;cases a with
  | cons c b=>
   obtain⟨rfl,h⟩:=c.Iu;obtain⟨q,e⟩:=aS.toF b;exact⟨.cons h q,‹_› ⟩
theorem kJ:∀(ds:BA),T.cQ QaP=ds
 | []=>rfl
 | d::ds=>by rw[kx,T.cQ,kJ ds,T.fB]
theorem Pu:∀(ts:B1),(T.cQ ts).length=ts.length
 | []=>rfl
 | d::ds=>by rw[T.cQ,lr,lr,Pu ds]
variable{tl:B1}
theorem bB.Lq(S:bB K CL b H Z δ σ (tl.reverse++ts) Qb1)(s:us.length=tl.length)(d:H p=none) :
  aD Z (upd Z p (.tup us))/\aD H (upd H p (.tup us))/\bB K CL b (upd H p (.tup us)) (upd Z p (.tup us)) δ σ (.tup tl::ts) (.ref p::vs):=by
 obtain⟨fp,gp,e,r,nd,k⟩:=S.rep;obtain⟨g1,g2,n,l,j⟩:=aS.split WA r;subst n;obtain⟨g',m,pm⟩:=l.rev;have g:=S.zh.free d;have sz:aD Z (upd Z p (.tup us)):=aD.upd g;have sh:aD H (upd H p (.tup us)):=aD.upd d;have keep:∀a∈fp++(g1++g2),a≠p:=λa c=>by
  have:∃o,H a=some o:=by
   obtain h|h:=i3.1 c
   .exact e.there a h
   .exact r.there a h
  obtain⟨o,q⟩:=this;exact aP q d
 have f:=(pm.append_right g2).append_left fp;have kk:=λa c=>keep a (f.mem_iff.1 c);refine⟨sz,sh,⟨⟨fp,_,e.mono sz (λa c=>aq (keep a (j1 _ c))),.cons (.tup aV (m.mono sz λa c=>aq (kk a (by simp[c])))) (j.mono sz λa c=>aq (keep a (by simp[c]))),f.nodup_iff.2 nd,λa c=>?_⟩,S.bh.trans sh,S.zz.trans sz,λa o q=>?_,λa o q z=>?_,λa o q i=>?_,S.tab⟩⟩
 .exact⟨ aq (kk a c)▸(k a (f.mem_iff.1 c)).1,(k a (f.mem_iff.1 c)).2⟩
 .by_cases c:a=p
  .subst c;rw[aV]at q ⊢;exact q
  .rw[aq c]at q ⊢;exact S.zh a o q
 .by_cases c:a=p
  .subst c;exact S.bh.free d
  .rw[aq c]at q;exact S.new a o q z
 .by_cases c:a=p
  .subst c;rw[aV]at q ⊢;exact q
  .rw[aq c]at q ⊢;exact S.tp a o q i
theorem bB.j4{g0:BS}(S:bB K CL b H Z δ σ (tl.reverse++ts) Qb1)(t:us.length=tl.length)(f:H p=none) :
  aD H (upd H p (.lst us))/\bB K CL b (upd H p (.lst us)) Z δ σ (.lst tl::ts) (.ref p::vs):=by
 obtain⟨fp,gp,e,r,nd,k⟩:=S.rep;obtain⟨g1,g2,s,m,l⟩:=aS.split WA r;subst s;obtain⟨g',n,pm⟩:=m.rev;have j:=S.zh.free f;have sh:aD H (upd H p (.lst us)):=aD.upd f;have keep:∀a∈fp++(g1++g2),a≠p:=λa c=>by
  have:∃o,H a=some o:=by
   obtain h|h:=i3.1 c
   .exact e.there a h
   .exact r.there a h
  obtain⟨o,q⟩:=this;exact aP q f
 have g:=(pm.append_right g2).append_left fp;have kk:=λa c=>keep a (g.mem_iff.1 c);have d:(fp++((p::g')++g2)).Perm (p::(fp++(g'++g2))):=by simp
 refine⟨sh,⟨⟨fp,_,e.mono Ql (λa c=>aq (keep a (j1 _ c))),.cons (.lst aV (n.mono Ql λa c=>aq (kk a (by simp[c])))) (l.mono Ql λa c=>aq (keep a (by simp[c]))),?_,λa c=>?_⟩,S.bh.trans sh,S.zz,S.zh.trans sh,S.new,λa o q i=>?_,S.tab⟩⟩
 .refine d.nodup_iff.2 (nk.2 ⟨λh=>kk p h rfl,g.nodup_iff.2 nd⟩)
 .obtain h|h:=fO.1 (d.mem_iff.1 c)
  .subst h;exact⟨j,S.bh.free f⟩
  .exact k a (g.mem_iff.1 h)
 .by_cases c:a=p
  .subst c;rw[aV]at q;cases q;cases i
  .rw[aq c]at q;exact S.tp a o q i
variable{δ1 δ2:BB}{e1 e2:Expr}{p q:Bool}{pos:Pos}{d:D}{ds:BA}
def aQ:IB X CL b [] δ [] δ:=λH Z σ ts vs Q S k=>IA d7 (k [] H Z rfl Ql Ql S)
theorem ay(h1:QaL)(h2:IB X CL b es δ1 tl δ2)(hs:Qad:=by exact aW rfl):IB X CL b Qaa δ (t::tl) δ2:=λH Z σ ts vs Q S k=>
 IA (bZ dI Fb hs) (h1 H Z σ ts vs _ S λv H1 Z1 c k1 f=>h2 H1 Z1 σ _ _ _ f λus H2 Z2 d a k2 g=>k _ H2 Z2 (by simp[d]) QbP Qao Wp)
def aJ:X4 X CL b [] δ [] δ:=λH Z σ ts vs Q S k=>IA d7 (k [] H Z Ql Ql S .nil)
def ah(h1:dM X CL b e δ d δ1)(h2:X4 X CL b es δ1 ds δ2)(hs:Qad:=by exact aW rfl):X4 X CL b Qaa δ (d::ds) δ2:=λH Z σ ts vs Q S k=>
 IA (bZ dI Fb hs) (h1 H Z σ ts vs _ S λv H1 Z1 c k1 i g=>h2 H1 Z1 σ _ _ _ i λus H2 Z2 a k2 h f=>k _ H2 Z2 QbP Qao h (.cons (g.mono k2) f))
variable{j:Nat}
def lQ(h:IB X CL b es δ tl δ1)(g:tl.length<=sizeLine):cO X CL b (.Tuple es j pos) δ (.tup tl) δ1:=λH Z σ ts vs Q S k=>
 cM (aaF Fb) (h H Z σ ts vs _ S λus H1 Z1 d e k1 l=>⟨ d▸g,λp f=>by
  obtain⟨a,c,i⟩:=l.Lq d f;exact k _ _ _ (e.trans a) Qb3 i⟩)
theorem iJ(h:IB X CL b es δ (ds.map T.sh) δ1)(a:QbB):cO X CL b (.Tuple es j pos) δ (.sh (.tup ds)) δ1:=by
 have:=Sv (lQ (pos:=pos) (j:=j) h Wp)
 rwa [T.fB,kJ]at this
def cj(h:IB X CL b es δ tl δ1)(f:tl.length<=sizeLine):cO X CL b (.List es pos) δ (.lst tl) δ1:=λH Z σ ts vs Q S k=>
 cM (aks Fb) (h H Z σ ts vs _ S λus H1 Z1 a d k1 i=>⟨ a▸f,λp e=>by
  obtain⟨c,g⟩:=i.j4 (g0:=[]) a e;exact k _ _ _ d Qb3 g⟩)
def vt(h:cO X CL b e δ (.sh (.bl p)) δ1)(he:∀whole,isTrue e X.env whole=(do let v ← whole;standAt e.pos;holding [v] (truthy v)):=by intro _;rfl):wZ X CL b e δ p δ1:=λH Z σ ts vs Q S k=>
 Iz (aj5 dI he) (h H Z σ ts vs _ S λv H1 Z1 c k1 a=>⟨p,by have:=a.view;exact this.sc rfl,k H1 Z1 c k1 a.pop⟩)
def akM(h:QbI):wZ X CL b (.UnaryOp .Not e pos) δ (!p) δ1:=λH Z σ ts vs Q S k=>Iz (aj7 og) Qdl
noncomputable def IF(X:Cx)(e:Expr):TT:=λσ H Q=>∀(whole:Sem Value) (pins:BM) (s:Qb),Inv X pins σ H s->wpAny Qr X.A (isTrue e X.env whole) (TP X pins σ Q) X.xe s
noncomputable def KU:PW X e (IF X e):=λwhole pins s _ _ _ I h=>h _ pins s I
def we(X:Cx)(CL:BC)(b:Bx)(e:Expr)(δ:BB)(p:Bool)(δ':BB):Prop:=
 ∀(H Z:Hp) (σ:L2.St) (ts:B1) (vs:BY) (Q:Do),bB X.K CL b H Z δ σ ts vs->(∀H' Z',aD Z Z'->aD H H'->bB X.K CL b H' Z' δ' σ ts vs->Q p H')->IF X e σ H Q
noncomputable def X5{t:TT}(h:PW X e t)(q:t σ H Q):IF X e σ H Q:=λwhole pins s I=>h _ pins s σ H Q I q
noncomputable def ve(h:we X CL b e δ p δ1):wZ X CL b e δ p δ1:=λH Z σ ts vs Q S k pins s I=>h H Z σ ts vs Q S k _ pins s I
def jM(h:QbI):we X CL b (.BoolOp .And [e] pos) δ p δ1:=λH Z σ ts vs Q S k=>X5 (VN og) Qdl
def Sw(h:QbI):we X CL b (.BoolOp .Or [e] pos) δ p δ1:=λH Z σ ts vs Q S k=>X5 (aj6 og) Qdl
theorem jC(h:QbI)(h2:p=true->we X CL b (.BoolOp .And (e2::es) pos) δ1 q δ1):we X CL b (.BoolOp .And (e::e2::es) pos) δ (p&&q) δ1:=λH Z σ ts vs Q S k=>
 X5 (aaq og KU) (h H Z σ ts vs _ S λH1 Z1 a k1 c=>by
  cases p with
  | true=>exact Pp QeP
  | false=>exact Sj (k H1 Z1 a k1 c))
theorem Wa(h:QbI)(h2:p=false->we X CL b (.BoolOp .Or (e2::es) pos) δ1 q δ1):we X CL b (.BoolOp .Or (e::e2::es) pos) δ (p || q) δ1:=λH Z σ ts vs Q S k=>
 X5 (aoT og KU) (h H Z σ ts vs _ S λH1 Z1 a k1 c=>by
  cases p with
  | true=>exact Pp (k H1 Z1 a k1 c)
  | false=>exact Sj QeP)
def aa4{op:BoolOp}(h:QaL):cO X CL b (.BoolOp op [e] pos) δ t δ1:=λH Z σ ts vs Q S k=>cM (aj8 dI) Qdl
def S3(h:cO X CL b e δ (.sh (.bl p)) δ1)(h2:p=false->cO X CL b (.BoolOp .Or (e2::es) pos) δ1 (.sh (.bl q)) δ1):cO X CL b (.BoolOp .Or (e::e2::es) pos) δ (.sh (.bl (p || q))) δ1:=λH Z σ ts vs Q S k=>
 cM (aoU dI dI) (h H Z σ ts vs _ S λv H1 Z1 c k1 a=>by
  have hv:=by have:=a.view;exact this.sc rfl
  refine⟨p,hv,?_⟩;cases p with
  | true=>exact Pp (k _ H1 Z1 c k1 (a.pop.push (.bl true)))
  | false=>exact Sj (h2 rfl H1 Z1 σ ts vs _ a.pop λv H2 Z2 d k2 f=>k v H2 Z2 (c.trans d) Qao f))
theorem akO(h:QbI)(h1:p=true->cO X CL b e1 δ1 t δ2)(h2:p=false->cO X CL b e2 δ1 t δ2):cO X CL b (.IfExp e e1 e2 pos) δ t δ2:=λH Z σ ts vs Q S k=>
 cM (aar og dI dI) (h H Z σ ts vs _ S λH1 Z1 d k1 f=>by
  cases p with
  | true=>exact Pp (h1 rfl H1 Z1 σ ts vs _ f λv H2 Z2 a k2 c=>k v H2 Z2 (d.trans a) Qao c)
  | false=>exact Sj (h2 rfl H1 Z1 σ ts vs _ f λv H2 Z2 a k2 c=>k v H2 Z2 (d.trans a) Qao c))
variable{k:Int}
theorem zQ(r:az K CL Z ds vs)(h:vf ds k=some d):∃v,vf vs k=some v/\bQ K CL Z d v:=by
 unfold vf at h ⊢;rw[← r.length];cases e:Dy _ k with
 | none=>rw[e]at h;cases h
 | some j=>
  rw[e]at h;exact r.get h
def bC(h1:dM X CL b e1 δ (.tup ds) δ1)(h2:Qdd)(l:vf ds k=some d)(hs:qE e2:=by exactλ_ _=>rfl):dM X CL b Qdm δ d δ2:=λH Z σ ts vs Q S kk=>
 cM (E8 Sh dI dI hs) (h1 H Z σ ts vs _ S λv1 H1 Z1 e k1 n i=>h2 H1 Z1 σ ts vs _ n λv2 H2 Z2 c k2 m h=>by
  have a:=i.mono k2;obtain⟨_,_,rfl,j,g⟩:=a.Sl;obtain⟨v,hv,f⟩:=zQ g l;exact⟨_,_,k,v,rfl,h.sc rfl,j,hv,kk v H2 Z2 (e.trans c) Qao m f⟩)
def bH(h1:dM X CL b e1 δ (.lst ds) δ1)(h2:Qdd)(l:vf ds k=some d)(hs:qE e2:=by exactλ_ _=>rfl):dM X CL b Qdm δ d δ2:=λH Z σ ts vs Q S kk=>
 cM (E8 D9 dI dI hs) (h1 H Z σ ts vs _ S λv1 H1 Z1 e k1 n i=>h2 H1 Z1 σ ts vs _ n λv2 H2 Z2 c k2 m h=>by
  have a:=i.mono k2;obtain⟨_,_,rfl,j,g⟩:=a.gR;obtain⟨v,hv,f⟩:=zQ g l;exact⟨_,_,k,v,rfl,h.sc rfl,j,hv,kk v H2 Z2 (e.trans c) Qao m f⟩)
def nU(h1:cO X CL b e1 δ (.sh (.tup ds)) δ1)(h2:Qdd)(j:vf ds k=some d)(hs:qE e2:=by exactλ_ _=>rfl):cO X CL b Qdm δ (.sh d) δ2:=λH Z σ ts vs Q S kk=>
 cM (E8 Sh dI dI hs) (h1 H Z σ ts vs _ S λv1 H1 Z1 e k1 l=>h2 H1 Z1 σ _ _ _ l λv2 H2 Z2 c k2 a h=>by
  obtain⟨fp,gp,_,r,_,_⟩:=a.rep;cases r with
  | cons r _=>
   replace r:=r.Iu;obtain⟨rfl,r⟩:=r;obtain⟨_,_,rfl,i,g⟩:=r.Sl;obtain⟨v,hv,f⟩:=zQ g j;exact⟨_,_,k,v,rfl,h.sc rfl,aD.o7 a.zh i,hv,kk v H2 Z2 (e.trans c) Qao (a.pop.push f)⟩)
def Bs(h1:cO X CL b e1 δ (.sh (.lst ds)) δ1)(h2:Qdd)(j:vf ds k=some d)(hs:qE e2:=by exactλ_ _=>rfl):cO X CL b Qdm δ (.sh d) δ2:=λH Z σ ts vs Q S kk=>
 cM (E8 D9 dI dI hs) (h1 H Z σ ts vs _ S λv1 H1 Z1 e k1 l=>h2 H1 Z1 σ _ _ _ l λv2 H2 Z2 c k2 a h=>by
  obtain⟨fp,gp,_,r,_,_⟩:=a.rep;cases r with
  | cons r _=>
   replace r:=r.Iu;obtain⟨rfl,r⟩:=r;obtain⟨_,_,rfl,i,g⟩:=r.gR;obtain⟨v,hv,f⟩:=zQ g j;exact⟨_,_,k,v,rfl,h.sc rfl,a.zh.seq i,hv,kk v H2 Z2 (e.trans c) Qao (a.pop.push f)⟩)
theorem bB.oH:∀{ds:BA} {us:BY} {ts:B1} {vs:BY},az K CL Z ds us->bB K CL b H Z δ σ ts vs->bB K CL b H Z δ σ ((ds.map T.sh).reverse++ts) Qb1
 | _,_,_,_,.nil,S=>S
 | _,_,ts,vs,.cons r t,S=>by
  rw[kx,mM,mM,jw,jw];exact bB.oH t (S.push r)
theorem bB.drops(S:bB K CL b H Z δ σ (tl++ts) (us++vs))(a:us.length=tl.length):bB K CL b H Z δ σ ts vs:=by
 induction tl generalizing us with
 | nil=>
  cases us with
  | nil=>exact S
  | cons _ _=>simp at a
 | cons t tl c=>
  cases us with
  | nil=>simp at a
  | cons u us=>exact c S.pop Wp
theorem bB.Wb{ds:BA}(S:bB K CL b H Z δ σ ((ds.map T.sh).reverse++ts) Qb1)(d:us.length=ds.length):az K CL Z ds us:=by
 obtain⟨fp,gp,e,r,nd,k⟩:=S.rep;obtain⟨g1,g2,g,a,f⟩:=aS.split (by simp[d]) r;obtain⟨g',c,pm⟩:=a.rev;exact c.toF.1
section
variable{pp:Pos}{ds:BA}
def Ea(hm:X.mg "len" = none)(h:QbT)(f:Gl X "len":=by rfl)(hs:Qah:=by exact aW rfl)(hpl:(backTo pos (starEach ([]:Cc) X.env)).any (·.1)=false:=by rfl):cO X CL b (.Call (.Name "len" pp) [e] [] pos) δ (.sh (.int ds.length)) δ1:=λH Z σ ts vs Q S k=>
 cM (sf Lf f hm PySem.boot_len QaE (he:=hs)) (h H Z σ ts vs _ S λv H1 Z1 a k1 g r=>by
  obtain⟨_,_,rfl,d,c⟩:=r.gR;exact⟨_,_,rfl,.inl d,c.length▸k _ H1 Z1 a k1 (g.push (.int _)) ⟩)
def jk(hm:X.mg "list" = none)(h:QdR)(j:Gl X "list":=by rfl)(hv:bootBuiltins "list" = some (.type "list"):=by rfl)(hs:Qah:=by exact aW rfl):cO X CL b (.Call (.Name "list" pp) [e] [] pos) δ (.lst QaP) δ1:=λH Z σ ts vs Q S k=>
 cM (kB zP j hm hv QaE (he:=hs)) (h H Z σ ts vs _ S λv H1 Z1 f k1 a=>by
  obtain⟨fp,gp,_,r,_,_⟩:=a.rep;cases r with
  | cons r _=>
   replace r:=r.Iu;obtain⟨rfl,r⟩:=r;obtain⟨_,_,rfl,g,d⟩:=r.gR;refine⟨_,_,rfl,.inl (a.zh.seq g),λl i=>?_⟩;obtain⟨c,m⟩:=(bB.oH d a.pop).j4 (g0:=[]) (by simp[d.length]) i;exact k _ _ _ f Qb3 m)
def e9(hm:X.mg "list" = none)(h:QbT)(hi:QbE)(j:Gl X "list":=by rfl)(hv:bootBuiltins "list" = some (.type "list"):=by rfl)(hs:Qah:=by exact aW rfl):cO X CL b (.Call (.Name "list" pp) [e] [] pos) δ (.lst QaP) δ1:=λH Z σ ts vs Q S k=>
 cM (kB zP j hm hv QaE (he:=hs)) (h H Z σ ts vs _ S λv H1 Z1 f k1 d r=>by
  obtain⟨_,_,rfl,g,a⟩:=r.gR;refine⟨_,_,rfl,.inl g,λl i=>?_⟩;obtain⟨c,m⟩:=(bB.oH (az.tQ d.tp hi a) d).j4 (g0:=[]) (by simp[a.length]) i;exact k _ _ _ f Qb3 m)
def Px(K:Frag)(CL:BC){A:Type}(n:Nat)(arg:Qay)(Pre:Q4)(res:Qab):Sp:=λvs H Q _=>
 ∃(W:Hp) (a:A),aD W H/\(∀c o,H c=some o->lP o=true->W c=some o)/\az K CL W (arg a) vs/\(arg a).length=n/\Pre a/\tP CL W ∧
  ∀v H' W' fp,aD H H'->aD W W'->aD W' H'->(∀c o,W' c=some o->W c=none->H c=none)->(∀c o,H' c=some o->lP o=true->W' c=some o) →
   bK K CL H' W' (res a) v fp->fp.Nodup->(∀c∈fp,W' c=none/\H c=none)->Q v H'
variable{A:Type}{k n:Nat}{f:Addr}{fd:QaC}{ps:At}{x:Str}{arg:Qay}{Pre:Q4}{res:Qab}
def afC(a:A)(F:Qdt)(m:eO k X.A)(hm:X.mg x=some QR)(s:Qds)(y:Qci)
  (h:QdZ) (p:Qbq) (o:Pre a) (u:QcE) (t:Qal)
  (l:AD x:=by decide) (he:Qad:=by exact aW rfl) (hpl:Qap:=by rfl) :
  cO X CL b Qbf δ (res a) δ1:=λH Z σ ts vs Q S kk=>
 cM (D8 F m t hm s y .nil qF Fb l he hpl) (h H Z σ ts vs _ S λus H1 Z1 g k1 c r=>by
  rw[km];refine⟨H1,a,.refl _,λ_ _ q _=>q,r,p,o,c.Pr,λv H' W' fp d ww j nw tp rt nd own=>?_⟩;obtain⟨Z',i,z⟩:=c.back d c.zh ww j nw tp rt nd own (.inr u);exact kk v H' Z' (g.trans i) (k1.trans d) z)
theorem aa5(a:A)(F:Qdt)(o:eO k X.A)(hm:X.mg x=some QR)(r:Qds)(t:Qci)
  (h:QdK) (q:Qbq) (p:Pre a) (s:Qal)
  (m:AD x:=by decide) (he:Qad:=by exact aW rfl) (hpl:Qap:=by rfl) :
  cO X CL b Qbf δ (res a) δ1:=λH Z σ ts vs Q S kk=>
 cM (D8 F o s hm r t .nil qF Fb m he hpl) (h H Z σ ts vs _ S λus H1 Z1 z i k1 d=>by
  rw[km];have c:us.length=(arg a).length:=by simp_all
  have u:=d.drops (by simp[c]);refine⟨Z1,a,d.zh,d.tp,d.Wb c,q,p,d.Lh,λv H' W' fp g ww l nw tp rt nd own=>?_⟩;obtain⟨Z',j,y⟩:=u.back g Ql ww l nw tp rt nd own Qae;exact kk v H' Z' (i.trans j) (k1.trans g) y)
variable{D D':gF}{st:Stmt}{gO apx:Co}
theorem Meets.to{E:Ends}(M:Meets K CL b Z ts vs D E)(h1:∀δ,D'.nx δ->D.nx δ)(h2:∀t δ,D'.rt t δ->D.rt t δ)(c:∀δ,D'.bk δ->D.bk δ)(a:∀δ,D'.ct δ->D.ct δ):Meets K CL b Z ts vs D' E:=
 ⟨λ_ _ _ _ s S k=>M.nx _ _ _ _ s S (h1 _ k),λ_ _ _ _ _ _ s S k=>M.rt _ _ _ _ _ _ s S (h2 _ _ k),λ_ _ _ _ s S k=>M.bk _ _ _ _ s S (c _ k),λ_ _ _ _ s S k=>M.ct _ _ _ _ s S (a _ k)⟩
def ak(h:D.nx δ):eW X CL b [] δ D:=λH Z σ ts vs E S M=>OT afm (M.nx δ σ H Z Ql S h)
def cZ(h:Ss X CL b st δ {D with nx:=λδ1=>eW X CL b gO δ1 D}):eW X CL b (st::gO) δ D:=λH Z σ ts vs E S M=>
 OT (aas psS Z6) (h H Z σ ts vs _ S ⟨λδ' σ' H' Z' s a k=>k H' Z' σ' ts vs E a (M.mono s),M.rt,M.bk,M.ct⟩)
def aa6(h:D.bk δ):Ss X CL b (.Break pos) δ D:=λH Z σ ts vs E S M=>tO aat (M.bk δ σ H Z Ql S h)
def afD(h:D.ct δ):Ss X CL b (.Continue pos) δ D:=λH Z σ ts vs E S M=>tO O2 (M.ct δ σ H Z Ql S h)
def akQ(h:QaL)(k:D.rt t δ1):Ss X CL b (.Return (some e) pos) δ D:=λH Z σ ts vs E S M=>tO (aau dI) (h H Z σ ts vs _ S λv H1 Z1 a k1 c=>M.rt t v H1 Z1 δ1 σ a c k)
theorem apy(h:QbI)(h1:p=true->eW X CL b gO δ1 D)(h2:p=false->eW X CL b apx δ1 D):Ss X CL b (.If e gO apx pos) δ D:=λH Z σ ts vs E S M=>
 tO (S1 og Z6 Z6) (h H Z σ ts vs _ S λH1 Z1 a k1 c=>by
  cases p with
  | true=>exact Pp (h1 rfl H1 Z1 σ ts vs E c (M.mono a))
  | false=>exact Sj (h2 rfl H1 Z1 σ ts vs E c (M.mono a)))
def aa7(i:Nat){pos':Pos}(h:QaL)(k:D.nx (δ1.set i Qan))(d:Qbu:=by decide)(f:X.N.Nodup:=by assumption)(hi:X.N[i]? = some x:=by rfl)(c:Qck:=by first|exact .inl rfl|exact .inr rfl)
  (hs:Qc8:=by rfl) (hf:AM X x:=by first|exact .inl rfl|exact .inr rfl|assumption):Ss X CL b (.Assign [.Name x pos'] e pos) δ D:=λH Z σ ts vs E S M=>
 tO (aaw f hi c dI hs hf) (h H Z σ ts vs _ S λv H1 Z1 a k1 g=>M.nx _ _ H1 Z1 a (g.set d) k)
end
noncomputable def entry(N:At)(ds:BA):BB:=ds.map (λd=>some (T.sh d))++List.replicate (N.length-ds.length) none
theorem lR{K:Frag}{CL:BC}{H Z:Hp}:∀{ds:BA} {vs:BY} (n:Nat),az K CL Z ds vs->fU K CL H Z (ds.map (λd=>some (T.sh d))++List.replicate n none) (vs.map some++List.replicate n none) []
 | _,_,0,.nil=>.nil
 | _,_,n+1,.nil=>.skip (lR n .nil)
 | _,_,n,.cons r t=>.cons (.sh r) (lR n t)
variable{P:Qax}{w:World}{mg:Bi}{base:Heap}{x qual:Str}{st:Stmt}{f:Addr}{fd:QaC}{N ps:At}{A:Type}
theorem Eb{k:Nat}{arg:Qay}{Pre:Q4}{res:Qab}(F:QcA)(S:QbO)
  (u:∀(gE:Value) (g:Qat) (outer:Da) (s:Qb) (H:Hp) (E:XK) (b:Bx) (a:A),eO k (g.deeper Qb5)->Pre a →
   eW (se lO P w K mg base N qual QaB f gE g outer s H E).La CL b (d9 st) (entry N (arg a)) {nx:=λ_=>res a=.sh .non,rt:=λt _=>t=res a}) :
  fz P w K mg base lO (k+1) f fd ps QdU:=by
 refine F.ok S (λvs H Q E h=>?_) (λgE g outer s H vs Q E n h=>?_)
 .obtain⟨W,a,_,_,r,i,_⟩:=h;rw[← r.length];exact i
 .obtain⟨W,a,j,tp,r,i,p,tb,kk⟩:=h;refine⟨_,Z6,u gE g _ s H E ⟨H,W⟩ a n p H W _ [] [] _ ⟨⟨[],[],?_,.nil,sm,λa d=>by cases d⟩,.refl _,.refl _,j,λa o q z=>?_,tp,tb⟩ ⟨λδ' σ' H' Z' s' c e=>?_,λt v H' Z' δ' σ' s' c e=>?_,λ_ _ _ _ _ _ e=>e.elim,λ_ _ _ _ _ _ e=>e.elim⟩⟩
  .unfold entry L2.start;rw[← r.length];exact lR _ r
  .grind
  .exact kk .non H' Z' [] c.bh c.zz c.zh c.new c.tp (by rw[e];exact .sh .non) sm λa d=>by cases d
  .have y:=e;subst y;obtain⟨fp,gp,_,m,nd,own⟩:=c.rep;cases m with
   | @cons _ _ _ _ f1 f2 l B=>
    have h1:=(la.1 nd).2.1;exact kk v H' Z' f1 c.bh c.zz c.zh c.new c.tp l (la.1 h1).1 λa d=>own a (js _ (j1 _ d))
variable{prog:Qax}{A:Qat}{R:Result->Shared->Prop}{s:Qb}{elt iter:Expr}{ifs:Cc}{scope:Scope}
theorem Lr{target:Expr}{it acc:Value}(I:Nat->Shared->Prop)
  (turn:∀n s,I n s->wpAny Qak A (pyNext it) (λr d=>match r with
   | none=>R (.ok .next) d
   | some v=>wpAny Qak A (letOwnedTupleGo target it v) (λ_ b=>wpAny Qak A (assign target env v) (λ_ g=>
     wpAny Qak A (forIn ifs true λc r=>if r=true then do let ok ← isTrue c env (eval c env);pure (ForInStep.yield ok) else pure (ForInStep.yield r)) (λok a=>
      if ok=true then wpAny Qak A (eval elt env) (λx f=>
       wpAny Qak A (call (.builtin "list.append") [acc,x]) (λ_ e=>∃m,m<n/\I m e) QbC f) QbC a
      else ∃m,m<n/\I m a) QbC g) QbC b) QbC d) QbC s)
  (n:Nat) (h:I n s) :
  codeAny Qak A (.compLoop (.ListComp elt [⟨target,iter,ifs,0⟩] scope pos) 0 it acc env) R s:=by
 refine codeAny_loop rfl I (λn s q=>?_) n h;refine wpAny_noted ?_;rw[compTurn_list];refine i9 (GG (i9 (m3 (turn n s q) (λr d j=>?_) λ_ _ h'=>h'.elim)));cases r with
 | none=>exact kA j
 | some v=>
  refine i9 (m3 j (λ_ b k=>?_) λ_ _ h'=>h'.elim);refine i9 (m3 k (λ_ g p=>i9 (m3 p (λok a i=>?_) λ_ _ h'=>h'.elim)) λ_ _ h'=>h'.elim);cases ok with
  | false=>exact kA ⟨rfl,i⟩
  | true=>
   exact i9 (i9 (m3 i (λx f o=>i9 (m3 o (λ_ e l=>kA (kA ⟨rfl,l⟩)) λ_ _ h'=>h'.elim)) λ_ _ h'=>h'.elim))
abbrev _root_.Cs:=List (Str×NameKind)
noncomputable def eV(env:Env):Cs->List (Str×Addr)->List (Str×Addr)
 | [],cs=>cs
 | (n,k)::r,cs=>eV env r (if k == .free then(n,(env.cells.lookup n).getD 0)::cs else cs)
theorem mQ(h:∀x∈scope.names,x.2=.free->∃c,env.cells.lookup x.1=some c):closureFor scope env=pure (eV env scope.names []):=by
 have go:∀(l:List _) (cs:List _),(∀x∈l,x.2=.free->∃c,env.cells.lookup x.1=some c) →
   (forIn l cs λx r=>match x with|(name,kind)=>if (kind==NameKind.free)=true then do let a ← cellOf env name;pure (ForInStep.yield ((name,a)::r)) else pure (ForInStep.yield r):Sem _)=pure (eV env l cs):=by
  intro l
  induction l with
  | nil=>intro cs _;rfl
  | cons x r f=>
   intro cs d;obtain⟨n,k⟩:=x;rw[List.forIn_cons];by_cases j:k=.free
   .subst j;obtain⟨c,g⟩:=d _ fX rfl;have e:cellOf env n=pure c:=by unfold cellOf;rw[g]
    simp only[FO,ox,e,pure_bind];rw[f _ λy b=>d y (i8 _ b)];simp[eV,ox];rw[g];rfl
   .have i:(k==NameKind.free)=false:=by grind
    simp only[i,oa,n2,pure_bind];rw[f _ λy b=>d y (i8 _ b)];simp[eV,i,oa,n2]
 unfold closureFor;have:=go _ [] h;simp only[bind_pure]at this ⊢;exact this
theorem tS{env:Env}:∀{l:Cs} {cs:List (Str×Addr)} {y:Str} {c:Addr},(∀x∈l,x.2=.free->∃c,env.cells.lookup x.1=some c)->(∀y c,cs.lookup y=some c->env.cells.lookup y=some c) →
  (eV env l cs).lookup y=some c->env.cells.lookup y=some c
 | [],cs,y,c,_,h,e=>h y c e
 | (n,k)::r,cs,y,c,a,h,e=>by
  refine tS (λz hz=>a z (i8 _ hz)) (λz d hz=>?_) e;by_cases b:k=.free
  .subst b;obtain⟨g,f⟩:=a _ fX rfl;grind
  simp_all
theorem CZ{env:Env}{y:Str}:∀{l:Cs} {cs:List (Str×Addr)},(∃c,cs.lookup y=some c)->∃c,(eV env l cs).lookup y=some c
 | [],cs,h=>h
 | (n,k)::r,cs,h=>by
  refine CZ (l:=r) ?_;by_cases a:(k==NameKind.free)=true
  .rw[dX a,l5];by_cases b:(y==n)=true
   .rw[b];simp_all
   .have:(y==n)=false:=by simp_all
    rw[this];exact h
  .rw[dP a];exact h
theorem pW{env:Env}{y:Str}:∀{l:Cs} {cs:List (Str×Addr)},l.lookup y=some .free->∃c,(eV env l cs).lookup y=some c
 | [],_,h=>by simp at h
 | (n,k)::r,cs,h=>by
  rw[l5]at h;by_cases a:(y==n)=true
  .refine CZ (l:=r) ?_;simp_all
  .have:(y==n)=false:=by simp_all
   rw[this]at h;exact pW (l:=r) h
def cR(X:Cx)(scope:Scope)(Nc:At)(C:Addr)(s:Qb)(H:Hp)(fp:BS):Cx where
 prog:=X.prog
 w:=X.w
 K:=X.K
 mg:=X.mg
 base:=X.base
 A:=X.A
 N:=Nc
 jx:=s
 nq:=H
 env:=compEnvC scope Qbn C X.env
 outer:=X.stack
 stack:=X.stack
 ex:=fp
 fn:=λ_=>false
 calm:=X.calm
 pn:=[]
 xe:=λ_ _=>False
abbrev _root_.CO:=List Nat
structure fC(X:Cx)(scope:Scope)(x:Str)(Nc:At)(ix:CO):Prop where
 kind:scope.kind=.function
 Bt:∀y∈scope.names,y.2 ≠ .cell
 nd:Nc.Nodup
 names:∀y∈scope.names,y.2=.local->scope.names.lookup y.1=some .local
 own:scope.names.lookup x=some .local
 frees:∀y∈scope.names,y.2=.free->scope.names.lookup y.1=some .free/\(X.env.kindOf y.1=some .cell\/X.env.kindOf y.1=some .free)
 hd:Nc=x::ix.filterMap (X.N[·]?)
 rF:∀i∈ix,∃y,X.N[i]? = some y/\scope.names.lookup y=some .free
theorem jl{env:Env}:∀{names:Cs} {x:Str} {k:NameKind},names.lookup x=some k ->
  (names.map λ(n,k)=>if (k==NameKind.free&&env.scope.kind == .function&&env.kindOf n==some .cell) then(n,NameKind.cell) else(n,k)).lookup x=some (if (k==NameKind.free&&env.scope.kind == .function&&env.kindOf x==some .cell) then .cell else k)
 | [],_,_,h=>by simp at h
 | (n,b)::r,x,k,h=>by
  have c:=@jl env r x k;show List.lookup x (QeJ::_)=_;cases a:x==n with
  | true=>
   simp[l5,a]at h;cases h;have e:x=n:=by grind
   subst e;split<;>simp
  | false=>
   simp[l5,a]at h;split
   .simp only[l5,a];exact c h
   .simp only[l5,a];exact c h
theorem oJ{env:Env}:∀{names:Cs} {x:Str},names.lookup x=none ->
  (names.map λ(n,k)=>if (k==NameKind.free&&env.scope.kind == .function&&env.kindOf n==some .cell) then(n,NameKind.cell) else(n,k)).lookup x=none
 | [],_,_=>rfl
 | (n,b)::r,x,h=>by
  have c:=@oJ env r x;show List.lookup x (QeJ::_)=_;cases a:x==n with
  | true=>simp only[l5,a]at h;cases h
  | false=>
   simp only[l5,a]at h;split
   .simp only[l5,a];exact c h
   .simp only[l5,a];exact c h
variable{Nc:At}{ix:CO}{pins:BM}
noncomputable def yC(σ:L2.St)(ix:CO)(o:Option V):L2.St:=o::ix.map λi=>(σ[i]?).getD none
theorem X6{l:BM}{σ':L2.St}{s':Qb}{f:Heap}(I:QP)(i:∀b∈fp,oM X pins H b)
  (J:Inv (cR X scope Nc s.heap.objs.size s H fp) l σ' H' s') (hs:Heap.SameBut s.heap.objs.size s'.heap f):Inv X pins σ H' {s' with heap:=f}:=by
 have un:Un (ZX X.stack) fp H H' s.heap _:=J.base;have j:Un (ZX X.stack) fp H H' s.heap f:=by
  have ne:∀b o,s.heap.get? b=some o->b≠s.heap.objs.size:=λb o e=>k4 (ke e);refine⟨λb o e n a h=>(hs.2 b (ne b o e)).trans (un.keep b o e n a h),λb o e n a h=>?_,un.free,λb o e h=>?_,un.Dt,un.cQ,un.Du⟩
  .obtain⟨sl,q⟩:=un.slot b o e n a h;exact⟨sl,(hs.2 b (ne b o e)).trans q⟩
  .obtain⟨o',q⟩:=un.there b o e h;exact⟨o',(hs.2 b (ne b o e)).trans q⟩
 have m:H' s.heap.objs.size=none:=J.free;have f7:=λb u e=>by
  refine(J.f7 b u e).EW (λc v r q=>(hs.2 c ?_).trans q) Qcr λ_ _ q=>q;rintro rfl;grind
 obtain⟨p,g,d,t,k⟩:=s';obtain rfl:k=s.os:=J.os;exact I.call j f7 J.bare λb a=>⟨(i b a).2.2.2.1,(i b a).2.1,(i b a).2.2.2.2.1,(i b a).2.2.2.2.2⟩
def ID(X:Cx):Cc->TT
 | []=>λ_ H Q=>Q true H
 | [c]=>BD X c
 | _=>λ_ _ _=>False
def aa8(I:QP)(h:ID X ifs σ H Q)(a:X.xe=λ_ _=>False) :
  wpAny Qr X.A (forIn ifs true λc r=>if r=true then do let ok ← isTrue c X.env (eval c X.env);pure (ForInStep.yield ok) else pure (ForInStep.yield r)) (TP X pins σ Q) QbC s:=by
 match ifs,h with
 | [],h=>exact wpAny_tests_nil ⟨H,I,h⟩
 | [c],h=>
  have:=h pins s I;rw[a]at this;exact wpAny_tests_one this
def Ki(X:Cx)(CL:BC)(b:Bx)(ifs:Cc)(δ:BB)(p:Bool):Prop:=
 match ifs with
 | []=>p=true
 | [c]=>wZ X CL b c δ p δ
 | _=>False
theorem Ki.sem(h:Ki X CL b ifs δ p)(S:bB X.K CL b H Z δ σ [] [])
  (k:∀H' Z',aD Z Z'->aD H H'->bB X.K CL b H' Z' δ σ [] []->Q p H'):ID X ifs σ H Q:=by
 match ifs,h with
 | [],h=>
  have e:=h;subst e;exact k H Z Ql Ql S
 | [c],h=>exact(h) H Z σ [] [] Q S k
def w9:(T.lst ts).clean=T.cW ts:=rfl
theorem Fe{g:D->T}:∀{ds:BA},(∀d∈ds,(g d).clean=true)->T.cW (ds.map g)=true
 | [],_=>rfl
 | d::ds,h=>by
  rw[kx,T.cW,h d fX,Fe λe he=>h e (i8 _ he)];rfl
theorem aS.at:∀{tl:B1} {us:BY} {fp:BS} {j:Nat} {t:T},aS K CL H Z tl us fp->tl[j]? = some t->∃v f1 f2 b,us[j]? = some v/\fp=f1++(f2++b)/\bK K CL H Z t v f2 ∧
  ∀{H':Hp} {t':T} {v':V} {g:BS},(∀a∈f1++b,H' a=H a)->bK K CL H' Z t' v' g->aS K CL H' Z (tl.set j t') (us.set j v') (f1++(g++b))
 | _,_,_,_,_,.nil,e=>by simp at e
 | _,_,_,0,_,.cons (fp:=fp) (gp:=gp) r q,e=>by
  simp at e;subst e;exact⟨_,[],fp,gp,rfl,rfl,r,λ{H' t' v' g} k c=>aS.cons (fp:=g) c (aS.mono Ql (λa d=>k a (‹_›)) q)⟩
 | _,_,_,j+1,t,.cons (fp:=fp) r q,e=>by
  obtain⟨v,f1,f2,b,h1,h2,h,f⟩:=aS.at q (‹_›);refine⟨v,fp++f1,f2,b,‹_›,Wp,h,λk c=>?_⟩;rw[jw];exact .cons (r.mono Ql λa d=>k a (by simp[d])) (f (λa d=>k a Wp) c)
variable{α:Type}
theorem f9{l:Q3}{x:α}(h:l[i]? = some x):l.set i x=l:=by
 apply vv;intro j;rw[List.getElem?_set];split
 .rename_i e;subst e;split
  .exact h.symm
  grind
 .rfl
variable{gp:BS}
theorem bB.write{f1 f2 d g f:BS}(S:Qam)(nd:((f1++(f2++d))++gp).Nodup)(own:∀c∈(f1++(f2++d))++gp,Z c=none/\b.B c=none)(k:a∈f2)
  (m:∃o,H a=some o) (l:fU K CL (upd H a QaS) Z δ2 σ (f1++(g++d))) (j:aS K CL (upd H a QaS) Z tl us f) (pm:((f1++(g++d))++f).Nodup) (sub:∀c∈(f1++(g++d))++f,c∈(f1++(f2++d))++gp) :
  bB K CL b (upd H a QaS) Z δ2 σ tl us:=by
 have h:=own a (by simp[k]);refine⟨⟨_,_,l,j,pm,λc e=>own c (sub c e)⟩,λc o q=>?_,S.zz,λc o q=>?_,S.new,λc o q i=>?_,S.tab⟩
 .rw[aq (aP q h.2)];exact S.bh c o q
 .rw[aq (aP q h.1)];exact S.zh c o q
 .by_cases e:c=a
  .subst e;rw[aV]at q;cases q;cases i
  .rw[aq e]at q;exact S.tp c o q i
theorem bB.append(S:QbS)(hi:δ[i]? = some (some Qbi)) :
  ∃a us,σ[i]? = some (some Qaq)/\H a=some (.lst us)/\us.length=tl.length/\bB K CL b (upd H a (.lst (us++[v]))) Z (δ.set i (some QcF)) σ ts vs:=by
 obtain⟨fp,gp,e,r,nd,k⟩:=S.rep;obtain⟨v0,f1,f2,l,hv,o,rt,put,_⟩:=e.get hi;subst o;obtain⟨a,us,g,rfl,rfl,n,rs⟩:=rt.gR;cases r with
 | @cons _ _ _ _ j f s q=>
  have ne:∀c∈(f1++(g++l))++(j++f),c≠a:=λc d e=>by
   subst e;have m:((f1++((c::g)++l))++(j++f)).Perm (c::((f1++(g++l))++(j++f))):=by simp
   exact(nk.1 (m.nodup_iff.1 nd)).1 d
  refine⟨a,us,hv,n,rs.length.symm,?_⟩;have p:bK K CL _ Z _ Qaq _:=
   .lst aV (aS.app (rs.mono Ql λc d=>aq (ne c (by simp[d]))) (.cons (s.mono Ql λc d=>aq (ne c (by simp[d]))) .nil))
  have e2:=put Ql (λc d=>aq (ne c (by
   obtain h|h:=i3.1 d
   .simp[h]
   .simp[h]))) p
  rw[f9 hv]at e2;have m:((f1++((a::(g++(j++[])))++l))++f).Perm ((f1++((a::g)++l))++(j++f)):=by
   simp only[km,n4,jw];refine tc f1 (List.Perm.cons a (tc g ?_));rw[← jw,← jw];exact mN.append_right f
  exact S.write nd k (fX) ⟨_,n⟩ e2 (q.mono Ql λc d=>aq (ne c (by simp[d]))) (m.nodup_iff.2 nd) λc d=>m.mem_iff.1 d
section
variable{tl0:B1}{D:gF}{pp pa pb:Pos}
def akS(i:Nat)(h0:δ[i]? = some (some (.lst tl0)))(h:QaL)(h1:δ1[i]? = some (some Qbi))(n:tl.length<sizeLine)(k:D.nx (δ1.set i (some QcF)))
  (hi:X.N[i]? = some x:=by rfl) (hv:tj X.env.scope x:=by first|exact Or.inl rfl|exact Or.inr (Or.inl rfl)|exact Or.inr (Or.inr rfl)) (hd:AD x:=by decide) (kH:AE x:=by decide)
  (j:attributeBase QaH "append" X.env (eval QaH X.env)=eval QaH X.env:=by rfl)
  (s:AB X pb e:=by rfl)
  (c:Qel:=by rfl) (hs:Qah:=by exact aW rfl) (r:swapsWith Qdz none pos.line X.env=pure false:=by rfl) :
  Ss X CL b (.Expr Qdz pos) δ D:=λH Z σ ts vs E S M=>
 tO (D6 (Pj FA PySem.F.slot_list_append PySem.F.type_list_append Br (nS hi hv hd kH) QaE j s c hs rfl) r) (by
  obtain⟨v0,e0,g⟩:=S.look h0;refine⟨v0,e0,?_,?_⟩
  .obtain⟨_,_,rfl,m,_⟩:=g.gR;exact .inl ⟨rfl,_,m⟩
  .refine h H Z σ ts vs _ S λv H1 Z1 f k1 q=>?_;obtain⟨a,us,d,o,l,p⟩:=q.append h1;rw[e0]at d;cases d;exact⟨a,us,v,rfl,rfl,o,l▸n,M.nx _ σ _ Z1 f p k⟩)
end
def Po:Option (Option T)->Option T
 | some (some t)=>some (.sh t.fB)
 | _=>none
noncomputable def ue:Option (Option T)->Option T
 | some (some (T.sh d))=>some (.sh d)
 | _=>none
def Ff(δ:BB)(ix:CO):BB:=ix.map λi=>Po δ[i]?
def Bu(δ:BB)(ix:CO):BB:=ix.map λi=>ue δ[i]?
theorem zR(S:Qam):∀(ix:CO) (H':Hp),fU K CL H' H (Ff δ ix) (ix.map λi=>(σ[i]?).getD none) []
 | [],_=>.nil
 | i::r,H'=>by
  have a:=zR S r H';show fU K CL H' H (Po _::Ff δ r) (((σ[i]?).getD none)::r.map _) [];cases e:δ[i]? with
  | none=>exact .skip a
  | some o=>
   cases o with
   | none=>exact .skip a
   | some t=>
    obtain⟨v,hv,c⟩:=S.look e;rw[hv];exact .cons (.sh c) a
theorem Fg(S:Qam):∀(ix:CO) (H':Hp),fU K CL H' Z (Bu δ ix) (ix.map λi=>(σ[i]?).getD none) []
 | [],_=>.nil
 | i::r,H'=>by
  have a:=Fg S r H';show fU K CL H' Z (ue _::Bu δ r) (((σ[i]?).getD none)::r.map _) [];cases e:δ[i]? with
  | none=>exact .skip a
  | some o=>
   cases o with
   | none=>exact .skip a
   | some t=>
    cases t with
    | sh d=>
     obtain⟨v,hv,c⟩:=S.V7 e;rw[hv];exact .cons (.sh c) a
    | tup _=>exact .skip a
    | lst _=>exact .skip a
    | ins _ _=>exact .skip a
    | rZ _=>exact .skip a
    | dct _=>exact .skip a
    | pin _ _=>exact .skip a
    | CY _ _ _=>exact .skip a
section
variable{ds:BA}
structure Comes(X:Cx)(CL:BC)(b:Bx)(δ1:BB)(σ:L2.St)(ts:B1)(vs:BY)(Z H:Hp)(ds:BA)(J:It)(H1:Hp):Prop where
 ex:∃Z1 us,aD Z Z1/\aD H H1/\bB X.K CL b H1 Z1 δ1 σ ts vs/\az X.K CL Z1 ds us/\(∀i H2,aD Z1 H2->i<ds.length->J.go i H2) ∧
  (∀i H2 x H',aD Z1 H2->i<ds.length->J.o1 i H2 x H'->H'=H2/\us[i]? = some x)/\(∀H2,aD Z1 H2->J.stop ds.length H2)
def X7(X:Cx)(CL:BC)(b:Bx)(tg e:Expr)(δ:BB)(ds:BA)(δ1:BB):Prop:=
 ∃a,PI X tg e a/\∀(H Z:Hp) (σ:L2.St) (ts:B1) (vs:BY) (R:It->Hp->Prop),bB X.K CL b H Z δ σ ts vs->(∀J H1,Comes X CL b δ1 σ ts vs Z H ds J H1->R J H1)->a σ H R
theorem dF{tg:Expr}(h:cO X CL b iter δ (.sh (.lst ds)) δ1):X7 X CL b tg iter δ ds δ1:=by
 refine⟨_,VQ dI,λH Z σ ts vs R S k=>h H Z σ ts vs _ S λv H1 Z1 g k1 e=>?_⟩;obtain⟨fp,gp,_,r,_,_⟩:=e.rep;cases r with
 | cons r _=>
  replace r:=r.Iu;obtain⟨rfl,r⟩:=r;obtain⟨a,us,rfl,c,d⟩:=r.gR;refine⟨a,rfl,⟨us,e.zh.seq c⟩,k _ _ ⟨Z1,us,g,k1,e.pop,d,λi H2 s hi=>?_,λi H2 y H' s hi f=>⟨f.1,f.2 us (s.seq c)⟩,λH2 s=>⟨us,s.seq c,by rw[d.length];grind⟩⟩⟩;have j:=d.length▸hi;exact⟨us,us[i],s.seq c,Wm⟩
theorem Fi{tg:Expr}(h:cO X CL b iter δ (.sh (.tup ds)) δ1):X7 X CL b tg iter δ ds δ1:=by
 refine⟨_,aki dI,λH Z σ ts vs R S k=>h H Z σ ts vs _ S λv H1 Z1 g k1 e=>?_⟩;obtain⟨fp,gp,_,r,_,_⟩:=e.rep;cases r with
 | cons r _=>
  replace r:=r.Iu;obtain⟨rfl,r⟩:=r;obtain⟨a,us,rfl,c,d⟩:=r.Sl;refine⟨a,rfl,⟨us,aD.o7 e.zh c⟩,k _ _ ⟨Z1,us,g,k1,e.pop,d,λi H2 s hi=>?_,λi H2 y H' s hi f=>⟨f.1,f.2 us (aD.o7 s c)⟩,λH2 s=>⟨us,aD.o7 s c,by rw[d.length];grind⟩⟩⟩;have j:=d.length▸hi;exact⟨us,us[i],aD.o7 s c,Wm⟩
noncomputable def fD(lo:Int)(n:Nat):BA:=(List.range n).map λ(i:Nat)=>D.int (lo+i)
def Py(lo:Int)(n:Nat):az K CL Z (fD lo n) ((List.range n).map λ(i:Nat)=>V.int (lo+i)):=by
 unfold fD;generalize List.range n=l
 induction l with
 | nil=>exact .nil
 | cons i r a=>exact .cons (.int _) a
theorem sA{tg:Expr}{pr pc:Pos}{n:Int}(hm:Qcl)(h:dM X CL b iter δ (.int n) δ1)(c:-(2 ^ 62)<=n/\n<2 ^ 62)(f:Gl X "range")(e:starEach [iter] X.env=[(false,eval iter X.env)]:=by rfl)(l:AC X iter []:=by exact aW rfl) :
  X7 X CL b tg (.Call Qc9 [iter] [] pc) δ (fD 0 n.toNat) δ1:=by
 refine⟨_,J1 f hm (bZ dI d7 l) e,λH Z σ ts vs R S k=>h H Z σ ts vs _ S λv H1 Z1 d k1 j r=>⟨n,by rw[r.sc rfl],c.1,c.2,k _ _ ⟨Z1,_,d,k1,j,Py 0 _,λi H2 s hi=>?_,λi H2 y H' s hi a=>?_,λH2 s=>?_⟩⟩⟩
 .show i<n.toNat;have:(fD 0 n.toNat).length=n.toNat:=by simp[fD]
  lia
 .have g:i<n.toNat:=by simpa [fD] using hi
  refine⟨a.1,?_⟩;rw[ll,oD g,a.2];rfl
 .show n.toNat<=(fD 0 _).length;simp[fD]
theorem X9{tg:Expr}{pr pc:Pos}{m n:Int}(hm:Qcl)(h1:dM X CL b e1 δ (.int m) δ1)(h2:dM X CL b e2 δ1 (.int n) δ2)(j:-(2 ^ 62)<=m/\m<2 ^ 62 /\ -(2 ^ 62)<=n/\n<2 ^ 62)(l:Gl X "range")
  (h:AR X e1 e2:=by rfl) (t:starEach [e2] X.env=[(false,eval e2 X.env)]:=by rfl) (c:Qeo:=by rfl) (a:AC X e2 []:=by rfl) :
  X7 X CL b tg (.Call Qc9 [e1,e2] [] pc) δ (fD m (n-m).toNat) δ2:=by
 refine⟨_,XG l hm (bZ dI (bZ dI d7 a) c) h t,λH Z σ ts vs R S k=>h1 H Z σ ts vs _ S λv H1 Z1 f k1 q r=>h2 H1 Z1 σ ts vs _ q λv2 H2 Z2 e k2 p g=>⟨m,n,by rw[r.sc rfl,g.sc rfl],j,k _ _ ⟨Z2,_,f.trans e,k1.trans k2,p,Py m _,λi H2 s hi=>?_,λi H2 y H' s hi d=>?_,λH2 s=>?_⟩⟩⟩
 .show i<(n-m).toNat;have:(fD m (n-m).toNat).length=(n-m).toNat:=by simp[fD]
  lia
 .have o:i<(n-m).toNat:=by simpa [fD] using hi
  refine⟨d.1,?_⟩;rw[ll,oD o,d.2];rfl
 .show(n-m).toNat<=(fD m _).length;simp[fD]
theorem akU{D:gF}{gO:Co}(i:Nat){pos':Pos}(P:Nat->BB->Prop)(h:X7 X CL b QbA iter δ ds δ1)(h0:P 0 δ1)(B:∀j δ,P j δ->i<δ.length)
  (hs:∀j d δ,ds[j]? = some d->P j δ->eW X CL b gO (δ.set i QbM) {nx:=P QA,rt:=D.rt,bk:=D.nx,ct:=P QA}) (hd:∀δ,P ds.length δ->D.nx δ)
  (z:Qd3) (C:QaK) (F:X.N.Nodup) (hi:X.N[i]? = some x) (q:Qck) (hf:AM X x) (u:AN X iter:=by intro _;rfl) :
  Ss X CL b (.For QbA iter gO [] pos) δ D:=λH Z σ ts vs E S M=>by
 obtain⟨L,pi,hw⟩:=h;refine tO (aay z C pi (tM F hi q hf) Z6 u) (hw H Z σ ts vs _ S λJ H1 zz=>?_);obtain⟨Z1,us,f,k1,I,o,go,n,st⟩:=zz;refine⟨λj m σ H2=>m=ds.length-j/\j<=ds.length/\∃Z2 δ2,aD Z1 Z2/\bB X.K CL b H2 Z2 δ2 σ ts vs/\P j δ2,⟨_,rfl,kr _,Z1,δ1,.refl _,I,h0⟩,?_⟩;rintro j m σ H2 ⟨rfl,O,Z2,δ2,s,c,p2⟩;by_cases g:j<ds.length
 .refine .inr ⟨go j H2 (s.trans c.zh) g,_,λσ' H' h=>⟨ _,Wc,rfl,g,h⟩,λy H' p=>?_⟩;obtain⟨e,r⟩:=n j H2 y H' (s.trans c.zh) g p;subst e;obtain⟨d,l,rd⟩:=o.X3 r;have G:=(c.push (rd.mono s)).set (B j δ2 p2);exact hs j d δ2 l p2 _ Z2 _ ts vs _ G ⟨λδ' σ' H' Z' s' a k=>⟨Z',δ',s.trans s',a,k⟩,λt v H' Z' δ' σ' s' a k=>M.rt t v H' Z' δ' σ' (f.trans (s.trans s')) a k,λδ' σ' H' Z' s' a k=>M.nx δ' σ' H' Z' (f.trans (s.trans s')) a k,λδ' σ' H' Z' s' a k=>⟨Z',δ',s.trans s',a,k⟩⟩
 .have e:j=ds.length:=by lia
  subst e;exact .inl ⟨st H2 (s.trans c.zh),M.nx δ2 σ H2 Z2 (f.trans s) c (hd δ2 p2)⟩
def Block(X:Cx)(CL:BC)(scope:Scope)(Nc:At)(ifs:Cc)(elt:Expr)(δc:BB)(ds:BA)(p:D->Bool)(g:D->T):Prop:=
 ∀C s0 b f0 a d,d∈ds->Ki (cR X scope Nc C s0 b f0) CL a ifs (some (.sh d)::δc) (p d)/\(p d=true->cO (cR X scope Nc C s0 b f0) CL a elt (some (.sh d)::δc) (g d) (some (.sh d)::δc))
variable{δc:BB}{p:D->Bool}{g:D->T}
end
def Fj(sc:Qc5)(I:Qba):closureFor scope X.env=pure Qbn:=
 mQ λy a e=>I.ok.has y.1 (sc.frees y a e).2
variable{n:Nat}
def Kc(h:Nat.ble n 1000=true):n<=sizeLine:=l0 (cL (jj h))
structure Vn(X:Cx)(i:Nat)(x:Str):Prop where
 hi:X.N[i]? = some x
 hv:tj X.env.scope x
 hd:(x==("__debug__":Str))=false
 kH:(x==("__classdict__":Str))=false
structure Ln(X:Cx)(i:Nat)(x:Str):Prop extends Vn X i x where
 loc:Loc X.env.scope x
 hf:X.fn x=true\/X.env.scope.names.lookup x=some .local
structure Gx(X:Cx):Prop where
 nd:X.N.Nodup
 calm:X.calm=true
 xe:PassesOwn Qr X.A X.env X.xe
structure Fc(X:Cx)(CL:BC)(x:Str)(k n:Nat){A:Type}(arg:Qay)(Pre:Q4)(res:Qab):Prop where
 ex:∃f fd ps,fz X.prog X.w X.K X.mg X.base lO k f fd ps (Px X.K CL n arg Pre res)/\X.mg x=some QR/\keepIn X.K QR=true/\Binds X.K fd ps []
 room:eO k X.A
section
variable{d:L3.D}{pp:Pos}{D:gF}{gO:Co}{ds:BA}
def v_(n:Vn X i x)(h:δ[i]? = some QbM:=by rfl):cO X CL b Qau δ (.sh d) δ:=akJ i n.hi n.hv n.hd n.kH h
def vM(n:Vn X i x)(h:δ[i]? = some Qan:=by rfl):cO X CL b Qau δ t (δ.set i none):=afA i n.hi n.hv n.hd n.kH h
def vB(n:Vn X i x)(h:δ[i]? = some Qan:=by rfl):dM X CL b Qau δ t.fB δ:=akK i n.hi n.hv n.hd n.kH h
def gX(h:dM X CL b e δ (.int k) δ1):cO X CL b (.UnaryOp .USub e pos) δ (.sh (.int (-k))) δ1:=λH Z σ ts vs Q S kk=>
 cM (ao7 akp dI) (h H Z σ ts vs _ S λv H1 Z1 a k1 c r=>⟨k,r.sc rfl,kk _ H1 Z1 a k1 (c.push (.int _))⟩)
def vL(n:Vn X i x)(h:δ[i]? = some (some (.lst QaP)):=by rfl):dM X CL b Qau δ (.lst ds) δ:=by
 have:=vB (CL:=CL) (b:=b) (pos:=pos) n h
 rwa [T.fB,kJ]at this
def c_{k:Nat}{A:Type}{arg:Qay}{Pre:Q4}{res:Qab}(a:A)(F:Qdh)(i:Qal)(h:QdZ)(d:Pre a)(j:QcE)(g:Qbq:=by rfl)
  (c:AD x:=by decide) (he:Qad:=by exact aW rfl) (hpl:Qap:=by rfl) :
  cO X CL b Qbf δ (res a) δ1:=by
 obtain⟨f,fd,ps,l,m,k,b⟩:=F.ex;exact afC a l F.room m k b h g d j i c he hpl
def cF{k:Nat}{A:Type}{arg:Qay}{Pre:Q4}{res:Qab}(a:A)(F:Qdh)(i:Qal)(h:QdK)(d:Pre a)(g:Qbq:=by rfl)
  (c:AD x:=by decide) (he:Qad:=by exact aW rfl) (hpl:Qap:=by rfl) :
  cO X CL b Qbf δ (res a) δ1:=by
 obtain⟨f,fd,ps,j,m,k,b⟩:=F.ex;exact aa5 a j F.room m k b h g d i c he hpl
def aO{pos':Pos}(g:Gx X)(n:Ln X i x)(h:QaL)(k:eW X CL b gO (δ1.set i Qan) D)(a:Qbu:=by exact jj rfl)(hs:Qc8:=by rfl) :
  eW X CL b (.Assign [.Name x pos'] e pos::gO) δ D:=cZ (aa7 i h k a g.nd n.hi n.loc hs n.hf)
def bu(h:QaL)(k:D.rt t δ1):eW X CL b (.Return (some e) pos::gO) δ D:=cZ (akQ h k)
def fQ{a c:Co}(h:QbI)(h1:p=true->eW X CL b a δ1 {D with nx:=λδ2=>eW X CL b gO δ2 D})(h2:p=false->eW X CL b c δ1 {D with nx:=λδ2=>eW X CL b gO δ2 D}):eW X CL b (.If e a c pos::gO) δ D:=cZ (apy h h1 h2)
theorem eW.to{D':gF}(h:eW X CL b gO δ D')(h1:∀δ,D'.nx δ->D.nx δ)(h2:∀t δ,D'.rt t δ->D.rt t δ)(c:∀δ,D'.bk δ->D.bk δ)(a:∀δ,D'.ct δ->D.ct δ):eW X CL b gO δ D:=λH Z σ ts vs E S M=>h H Z σ ts vs E S (M.to h1 h2 c a)
def zS{a c:Co}(J:BB->Prop)(h:QbI)(h1:p=true->eW X CL b a δ1 {D with nx:=J})(h2:p=false->eW X CL b c δ1 {D with nx:=J})(k:∀δ2,J δ2->eW X CL b gO δ2 D):eW X CL b (.If e a c pos::gO) δ D:=
 fQ h (λd=>eW.to (h1 d) k (λ_ _ q=>q) Qcr Qcr) (λd=>eW.to (h2 d) k (λ_ _ q=>q) Qcr Qcr)
def iG{body:Co}{pos':Pos}(g:Gx X)(n:Ln X i x)(P:Nat->BB->Prop)(h:X7 X CL b QbA e δ ds δ1)(h0:P 0 δ1)(c:∀j δ,P j δ->i<δ.length)
  (hs:∀j d δ,ds[j]? = some d->P j δ->eW X CL b body (δ.set i QbM) {nx:=P QA,rt:=D.rt,bk:=λδ2=>eW X CL b gO δ2 D,ct:=P QA}) (hd:∀δ,P ds.length δ->eW X CL b gO δ D) (a:AN X e:=by intro _;rfl) :
  eW X CL b (.For QbA e body [] pos::gO) δ D:=
 cZ (akU i P h h0 c hs hd g.xe g.calm g.nd n.hi n.loc n.hf a)
def sC{o:Option Expr}{l:Nat}(h:∃c,swapsWith e o l env=pure c):swapsWith e o l env=pure true\/swapsWith e o l env=pure false:=by
 obtain⟨c,h⟩:=h;cases c
 .exact .inr h
 .exact .inl h
def aa9{C:Addr}(h1:Nc[i]? = some x)(h2:QdW)(hd:AD x:=by decide)(kH:AE x:=by decide):Vn Qa8 i x:=
 ⟨h1,.inl (E5 h2),hd,kH⟩
def akV{C:Addr}(h1:Nc[i]? = some x)(h2:scope.names.lookup x=some .free)(hd:AD x:=by decide)(kH:AE x:=by decide):Vn Qa8 i x:=by
 refine⟨h1,?_,hd,kH⟩;have q:=jl (env:=X.env) h2;show(relabel _ _).names.lookup x=some _\/(relabel _ _).names.lookup x=some _\/(relabel _ _).names.lookup x=some _;rw[show(relabel _ _).names.lookup x=_ from q];split
 .exact .inr Qae
 .exact .inr QaG
def afF{C:Addr}(h2:QeB):Gl Qa8 x:=by
 have q:=jl (env:=X.env) h2;show(relabel _ _).names.lookup x=some _;rw[show(relabel _ _).names.lookup x=_ from q];rfl
def afG{C:Addr}(g:Gx X)(h:Nc.Nodup):Gx Qa8:=⟨h,g.calm,.never⟩
def jy{C:Addr}{k:Nat}{A:Type}{arg:Qay}{Pre:Q4}{res:Qab}(F:Qdh):Fc Qa8 CL x k n arg Pre res:=⟨F.ex,F.room⟩
end
def Yb:bootBuiltins "int" = some (.type "int"):=by decide +kernel
def aX:bootBuiltins "list" = some (.type "list"):=by decide +kernel
def C1:bootBuiltins "tuple" = some (.type "tuple"):=by decide +kernel
noncomputable def RM(sc:Scope)(l:Cs):Bool:=l.all λp=>sc.names.lookup p.1==some p.2
def b9{sc:Scope}{l:Cs}(h:RM sc l=true)(i:Nat){k:NameKind}(hi:l[i]? = some (x,k)):sc.names.lookup x=some k:=by
 unfold RM at h;rw[vr]at h;exact sy.1 (h _ (l3 hi))
inductive z6(X:Cx):CO->At->Prop where
 | nil:z6 X [] []
 | cons {i:Nat} {y:Str} {ix:CO} {ys:At} (n:Vn X i y) (k:X.env.kindOf y=some .cell\/X.env.kindOf y=some .free) (r:z6 X ix ys):z6 X (i::ix) (y::ys)
noncomputable def Z0(scope:Scope)(x:Str)(a:At):Bool:=
 scope.kind == .function&&scope.names.lookup x==some .local&&a.all (λy=>scope.names.lookup y==some .free)&&decide ((x::a).Nodup) &&
  scope.names.all λy=>y.2 != .cell&&(y.2 != .local || scope.names.lookup y.1==some .local)&&(y.2 != .free || (a.contains y.1&&scope.names.lookup y.1==some .free))
theorem bI{d:At}(c:z6 X ix d)(ok:Z0 scope x d=true):fC X scope x (x::d) ix:=by
 unfold Z0 at ok;simp only[lx,vr,vu,sy]at ok;obtain⟨⟨⟨⟨h1,h2⟩,h⟩,g⟩,b⟩:=ok;have j:∀y∈d,X.env.kindOf y=some .cell\/X.env.kindOf y=some .free:=by
  clear h g b
  induction c with
  | nil=>intro y a;cases a
  | cons n k r f=>
   intro y a;obtain e|a:=fO.1 a
   .subst e;exact k
   simp_all
 refine⟨h1,λy a e=>?_,g,λy a e=>?_,h2,λy a e=>?_,?_,λi hi=>?_⟩
 .have:=(b y a).1.1;rw[e]at this;simp at this
 .have:=(b y a).1.2;rw[e]at this;simpa using this
 .have:=(b y a).2;simp_all
 .congr 1;clear h g b j
  induction c with
  | nil=>rfl
  | cons n k r f=>rw[nc,n.hi,← f]
 .clear g b j
  induction c with
  | nil=>cases hi
  | @cons l y ix ys n k r f=>
   obtain e|hi:=fO.1 hi
   .subst e;exact⟨y,n.hi,h y fX⟩
   .exact f (λz hz=>h z (i8 _ hz)) hi
noncomputable def D.yc:D->Int
 | .int i=>i
 | _=>0
noncomputable def D.toS:D->Str
 | .str x => x
 | _=>Str.empty
theorem gP{bs:AT}(h0:0<=k)(h1:k<bs.length):vf (bs.map D.int) k=some (.int (bs.getD k.toNat 0)):=by
 obtain⟨j,rfl⟩:∃j:Nat,k=j:=⟨k.toNat,Wc⟩;refine dQ ?_;simp_all
theorem bz:∀(bs:AT),D.bP (bs.map D.int)=true
 | []=>rfl
 | i::r=>by rw[kx,D.bP,bz r];rfl
theorem Pz{lo:Int}{d:D}(h:(fD lo n)[j]? = some d):d=.int (lo+j)/\j<n:=by
 have a:=by
  have:=(lL.1 h).1;simpa [fD] using this
 refine⟨?_,a⟩;unfold fD at h;rw[ll,oD a]at h;simp_all
def qH(l:Q3):l.filter (λ_=>true)=l:=by simp
theorem PB{K:Frag}{CL:BC}{Z:Hp}:∀(ns:AT),az K CL Z (ns.map D.int) QbL
 | []=>.nil
 | n::r=>.cons (.int n) (PB r)
mutual
def D.toPy:D->PyData
 | .non=>.none
 | .bl b=>.bool b
 | .int i=>.int i
 | .str x => .str x
 | .tup ds=>.tuple (D.vz ds)
 | .lst ds=>.list (D.vz ds)
 | .ins _ _=>.none
 | .rZ _=>.none
 | .dct _=>.none
 | .any=>.none
 | .val _=>.none
 | .CY _ _ _=>.none
def D.vz:BA->List PyData
 | []=>[]
 | d::ds=>d.toPy::D.vz ds
end
inductive qD:Nat->D->Prop where
 | non (n:Nat):qD n .non
 | bl (n:Nat) (b:Bool):qD n (.bl b)
 | int (n:Nat) (i:Int):qD n Qaw
 | str (n:Nat) (x:Str) (h:PyData.strOk x=true):qD n Qa0
 | tup {n:Nat} {ds:BA} (h:∀d∈ds,qD n d):qD (n+1) (.tup ds)
 | lst {n:Nat} {ds:BA} (h:∀d∈ds,qD n d):qD (n+1) (.lst ds)
noncomputable def PC(a b:D):Bool:=PyData.eqv a.toPy b.toPy
theorem qD.LP{n:Nat}:∀{ds:BA},(∀d∈ds,d.toPy.canLay0=true/\d.toPy.depth<=n)->PyData.canLayAll0 (D.vz ds)=true/\PyData.depthAll (D.vz ds)<=n
 | [],_=>⟨ rfl,kr _ ⟩
 | d::ds,h=>by
  have h1:=h d fX;have h2:=qD.LP λe he=>h e (i8 _ he);rw[D.vz,PyData.canLayAll0,h1.1,h2.1];exact⟨rfl,Nat.max_le.2 ⟨h1.2,h2.2⟩⟩
theorem qD.lay{d:D}(h:qD n d):d.toPy.canLay0=true/\d.toPy.depth<=n:=by
 induction h with
 | non n=>exact⟨ rfl,kr _ ⟩
 | bl n b=>exact⟨ rfl,kr _ ⟩
 | int n i=>exact⟨ rfl,kr _ ⟩
 | str n x c=>exact⟨ ‹_›,kr _ ⟩
 | @tup n ds _ a=>
  have:=qD.LP a;rw[D.toPy,PyData.canLay0,PyData.depth];simp_all
 | @lst n ds _ a=>
  have:=qD.LP a;rw[D.toPy,PyData.canLay0,PyData.depth];simp_all
def PD{d:D}(h:qD n d):PC d d=true:=SeqAt.eqv_refl _ h.lay.1
def Ls(I:Qba){d:D}{u:Value}(hd:qD n d)(q:bQ X.K CL H d v)(r:RelV v u):∃as,Reads s.heap u d.toPy as:=by
 refine bQ.rec
  (motive_2:=λds vs _=>∀(n:Nat) (us:List _),(∀d∈ds,qD n d)->Vals vs us->∃as,ReadsAll s.heap us (D.vz ds) as) (motive_3:=λ_ _ _=>True) (motive_4:=λ_ _ _=>True) (motive_5:=λ_ _ _=>True)
  (λ_ _ _ r=>?non) (λb _ _ _ r=>?bl) (λi _ _ _ r=>?int) (λx _ _ _ r=>?str) (λ_ _ _ hd _=>by cases hd) (λ_ _ _ hd _=>by cases hd) (λl _ a n u hd r=>?tup) (λl _ a n u hd r=>?lst) (λ_ _ _ _ _ hd _=>by cases hd) (λ_ _ _ _ _ hd _=>by cases hd) (λ_ _ _ _ _ hd _=>by cases hd) (λ_ _ _ _ _ _ _ hd _=>by cases hd)
  (λ_ _ _ r=>?nil) (λ_ _ a j n us h r=>?cons) trivial Qar trivial Qar trivial Qar q n u hd r
 case non=>cases r;exact⟨[],.none⟩
 case bl=>cases r;exact⟨[],.bool b⟩
 case int=>obtain⟨t,rfl⟩:=r;exact⟨[],.int i t⟩
 case str=>obtain⟨t,rfl⟩:=r;exact⟨[],.str x t⟩
 case tup=>
  cases hd with
  | tup hd=>
   cases r;obtain⟨its,f,⟨o,e,c,k,m⟩,_⟩:=I.tuple l;obtain⟨as,g⟩:=a _ _ hd f;exact⟨as,.tuple e c m (‹_›)⟩
 case lst=>
  cases hd with
  | lst hd=>
   cases r;obtain⟨its,f,⟨o,k,e,c,_,m⟩,_⟩:=I.list l;obtain⟨as,g⟩:=a _ _ hd f;exact⟨_,.list e c m (‹_›)⟩
 case nil=>cases r;exact⟨[],.nil⟩
 case cons=>
  cases r with
  | cons r rs=>
   obtain⟨as,g⟩:=a n _ (h _ fX) r;obtain⟨bs,p⟩:=j n _ (λe he=>h e (i8 _ he)) rs;exact⟨ _,.cons g p⟩
variable{δ3:BB}{p2 pp:Pos}{gO:Co}{DD:gF}{d1 d2:D}{ds:BA}
theorem akX(k:X.A.units+64<cLine):zL X (compareOp .Eq) (λx y H Q=>∃a c,bQ X.K CL H a x/\bQ X.K CL H c y/\qD 60 a/\qD 60 c/\Q (.bl (PC a c)) H):=by
 intro pins s σ H x y v u Q I f e h;obtain⟨a,c,g,rc,b,d,q⟩:=h;obtain⟨as,j⟩:=Ls I b g f;obtain⟨bs,i⟩:=Ls I d rc e;exact SeqAt.rcAt_reads j i b.lay.1 d.lay.1 (by have:=b.lay.2;lia) _ X.w X.xe _ ⟨.bl _,H,I,rfl,q⟩
theorem akY(k:X.A.units+64<cLine):zL X (compareOp .NotEq) (λx y H Q=>∃a c,bQ X.K CL H a x/\bQ X.K CL H c y/\qD 60 a/\qD 60 c/\Q (.bl (!PC a c)) H):=by
 intro pins s σ H x y v u Q I f e h;obtain⟨a,c,g,rc,b,d,q⟩:=h;obtain⟨as,j⟩:=Ls I b g f;obtain⟨bs,i⟩:=Ls I d rc e;exact SeqAt.rcNeAt_reads j i b.lay.1 d.lay.1 (by have:=b.lay.2;lia) _ X.w X.xe _ ⟨.bl _,H,I,rfl,q⟩
def Pm{op:CmpOp}{f:Bool->Bool}(n:zL X (compareOp op) (λx y H Q=>∃a c,bQ X.K CL H a x/\bQ X.K CL H c y/\qD 60 a/\qD 60 c/\Q (.bl (f (PC a c))) H))(h1:Qdo)(h2:Qdk)(k1:qD 60 d1)(k2:qD 60 d2)
  (hm:behindInMarks op e2=false):wZ X CL b Qed δ (f (PC d1 d2)) δ2/\cO X CL b Qed δ (.sh (.bl (f (PC d1 d2)))) δ2:=by
 constructor
 .intro H Z σ ts vs Q S k;refine Iz (tN n dI dI hm) (h1 H Z σ ts vs _ S λv1 H1 Z1 h e m j=>h2 H1 Z1 σ ts vs _ m λv2 H2 Z2 g d l i=>?_);exact⟨d1,d2,j.mono d,i,k1,k2,_,rfl,k H2 Z2 (h.trans g) (e.trans d) l⟩
 .intro H Z σ ts vs Q S k;refine cM (wX n dI dI hm) (h1 H Z σ ts vs _ S λv1 H1 Z1 h e m j=>h2 H1 Z1 σ ts vs _ m λv2 H2 Z2 g d l i=>?_);exact⟨d1,d2,j.mono d,i,k1,k2,k _ H2 Z2 (h.trans g) (e.trans d) (l.push (.bl _))⟩
def akZ(a:X.A.units+64<cLine)(h1:Qdo)(h2:Qdk)(k1:qD 60 d1)(k2:qD 60 d2):wZ X CL b QcS δ (PC d1 d2) δ2/\cO X CL b QcS δ (.sh (.bl (PC d1 d2))) δ2:=
 Pm (f:=λb=>b) (akX a) h1 h2 k1 k2 (qW _)
def yE(a:X.A.units+64<cLine)(h1:Qdo)(h2:Qdk)(k1:qD 60 d1)(k2:qD 60 d2):wZ X CL b QcO δ (!PC d1 d2) δ2/\cO X CL b QcO δ (.sh (.bl (!PC d1 d2))) δ2:=
 Pm (akY a) h1 h2 k1 k2 (qW _)
def cutD(xs:Q3)(lo hi:CU):List α:=(xs.drop (HT.Il xs.length 0 lo)).take (HT.Il xs.length xs.length hi-HT.Il xs.length 0 lo)
theorem az.drop{K:Frag}{Z:Hp}:∀{ds:BA} {vs:BY} (n:Nat),az K CL Z ds vs->az K CL Z (ds.drop n) (vs.drop n)
 | _,_,0,r=>r
 | _,_,_+1,.nil=>.nil
 | _,_,n+1,.cons _ t=>az.drop n t
theorem az.take{K:Frag}{Z:Hp}:∀{ds:BA} {vs:BY} (n:Nat),az K CL Z ds vs->az K CL Z (ds.take n) (vs.take n)
 | _,_,0,_=>.nil
 | _,_,_+1,.nil=>.nil
 | _,_,n+1,.cons r t=>.cons r (az.take n t)
theorem az.cut{ds:BA}(r:az K CL Z ds vs)(lo hi:CU):az K CL Z (cutD ds lo hi) (Ee vs lo hi):=by
 unfold cutD Ee;rw[r.length];exact(r.drop _).take _
theorem gY:∀{ds:BA},D.bP ds=true->∀d∈ds,d.tQ=true
 | [],_,_,h=>by cases h
 | d::ds,k,e,h=>by
  rw[D.bP,lx]at k;obtain h|h:=fO.1 h
  .subst h;exact k.1
  .exact gY k.2 e h
theorem iK:∀{ds:BA},(∀d∈ds,d.tQ=true)->D.bP ds=true
 | [],_=>rfl
 | d::ds,h=>by rw[D.bP,h d fX,iK λe he=>h e (i8 _ he)];rfl
def Wd{xs:Q3}{lo hi:CU}{x:α}(h:x∈cutD xs lo hi):x∈xs:=List.mem_of_mem_drop (rf h)
def wj(X:Cx)(CL:BC)(b:Bx)(e:Option Expr)(δ:BB)(k:CU)(δ':BB):Prop:=
 ∃t,PO X e t/\∀(H Z:Hp) (σ:L2.St) (ts:B1) (vs:BY) (Q:CU->Hp->Prop),bB X.K CL b H Z δ σ ts vs->(∀H' Z',aD Z Z'->aD H H'->bB X.K CL b H' Z' δ' σ ts vs->Q k H')->t σ H Q
def zT:wj X CL b none δ none δ:=⟨_,V2,λH Z σ ts vs Q S k=>k H Z Ql Ql S⟩
def xg(h:dM X CL b e δ (.int k) δ1):wj X CL b (some e) δ (some k) δ1:=⟨_,V3 dI,λH Z σ ts vs Q S kk=>h H Z σ ts vs _ S λv H1 Z1 a k1 c r=>⟨k,r.sc rfl,kk H1 Z1 a k1 c⟩⟩
def zU{lo hi:Option Expr}{l h:CU}(h1:QbT)(g:QbE)(h2:wj X CL b lo δ1 l δ2)(y:wj X CL b hi δ2 h δ3):cO X CL b (.Subscript e (.Slice lo hi none p2) pos) δ (.lst ((cutD ds l h).map T.sh)) δ3:=λH Z σ ts vs Q S k=>by
 obtain⟨t2,f,s⟩:=h2;obtain⟨t3,a,q⟩:=y;refine cM (Pb V5 dI f a) (h1 H Z σ ts vs _ S λv H1 Z1 o k1 B r=>s H1 Z1 σ ts vs _ B λH2 Z2 n k2 A=>q H2 Z2 σ ts vs _ A λC Z3 m i j=>?_);have u:=r.mono (k2.trans i);obtain⟨_,_,rfl,w,t⟩:=u.gR;refine⟨_,_,rfl,w,λp x=>?_⟩;have rc:=az.tQ j.tp (iK λd hd=>gY g d (Wd hd)) (t.cut l h);obtain⟨c,z⟩:=(bB.oH rc j).j4 (g0:=[]) (by simp[rc.length]) x;exact k _ _ _ (o.trans (n.trans m)) (k1.trans (k2.trans (i.trans c))) z
def Bv(hm:X.mg "tuple" = none)(h:QbT)(hi:QbE)(o:Gl X "tuple")(hs:Qah:=by exact aW rfl):cO X CL b (.Call (.Name "tuple" pp) [e] [] pos) δ (.sh (.tup ds)) δ1:=λH Z σ ts vs Q S k=>
 cM (kB yb o hm C1 QaE (he:=hs)) (h H Z σ ts vs _ S λv H1 Z1 j k1 g r=>by
  obtain⟨_,_,rfl,m,d⟩:=r.gR;refine⟨_,_,rfl,.inl ⟨m,λl n=>?_⟩⟩;obtain⟨a,c,p⟩:=(bB.oH (az.tQ g.tp hi d) g).Lq (by simp[d.length]) n;obtain⟨Z3,i,f⟩:=p.Li;rw[T.fB,kJ]at f;exact k _ _ Z3 (j.trans (a.trans i)) Qb3 f)
def jH{tl0:B1}{pa pb:Pos}(n:Vn X i x)(h0:δ[i]? = some (some (.lst tl0)))(h:QaL)(h1:δ1[i]? = some (some Qbi))(d:tl.length<=1000000)(k:eW X CL b gO (δ1.set i (some QcF)) DD)
  (c:attributeBase QaH "append" X.env (eval QaH X.env)=eval QaH X.env:=by rfl)
  (g:AB X pb e:=by rfl)
  (a:Qel:=by rfl) (hs:Qah:=by exact aW rfl) (f:swapsWith Qdz none pos.line X.env=pure false:=by rfl) :
  eW X CL b (.Expr Qdz pos::gO) δ DD:=
 cZ (akS i h0 h h1 (q7 d Wl) k n.hi n.hv n.hd n.kH c g a hs f)
def jz(a:ds.length=n)(hm:X.mg "len" = none)(h:QbT)(c:Gl X "len")(hs:Qah:=by exact aW rfl):cO X CL b (.Call (.Name "len" pp) [e] [] pos) δ (.sh (.int n)) δ1:=by
 subst a;exact Ea hm h c hs
def ck(h:cO X CL b e δ (.lst QaP) δ1):dM X CL b e δ (.lst ds) δ1:=by
 have:=Tb h
 rwa [T.fB,kJ]at this
def afH{a:BA}(h:cO X CL b e δ (.lst QaP) δ1)(c:ds=a):dM X CL b e δ (.lst a) δ1:=c▸ck h
theorem gf{f:α->D}{l:Q3}(z:α)(h0:0<=k)(h1:k<l.length):vf (l.map f) k=some (f (l.getD k.toNat z)):=by
 obtain⟨j,rfl⟩:∃j:Nat,k=j:=⟨k.toNat,Wc⟩;refine dQ ?_;simp_all
variable{β:Type}
theorem Fl{f:α->β}{l:Q3}{lo hi:CU}:cutD (l.map f) lo hi=(cutD l lo hi).map f:=by
 unfold cutD;simp_all
noncomputable def Lv(l:Bool)(ds:BA):D:=match l with
 | true=>.lst ds
 | false=>.tup ds
theorem eB{α:Type}{f:α->D}(h:∀a,(f a).tQ=true):∀(l:Q3),D.bP (l.map f)=true
 | []=>rfl
 | a::l=>by rw[kx,D.bP,h a,eB h l];rfl
variable{d:D}
def afI{u:Tok}(hm:X.mg x=some (.int k u))(a:Qal)(hd:AD x:=by decide):cO X CL b Qau δ (.sh (.int k)) δ:=λH Z σ ts vs Q S kk=>
 cM (K9 (v:=.int k) a hm ⟨u,rfl⟩ hd) (kk _ H Z Ql Ql (S.push (.int k)))
def eG(hm:∃u,X.mg x=some (.int k u))(a:Qal)(hd:AD x:=by decide):cO X CL b Qau δ (.sh (.int k)) δ:=by
 obtain⟨u,hm⟩:=hm;exact afI hm a hd
def vE(n:Vn X i x)(h:δ[i]? = some Qan)(e:t.fB=d):dM X CL b Qau δ d δ:=e▸vB n h
theorem zV(x:Str):∀l:At,uu Qa0 (l.map V.str)=decide (x∈l)
 | []=>by simp[uu]
 | y::l=>by
  have b:=zV x l;unfold uu at b ⊢;have e:∀a c,ot (.str a) (.str c)=(a==c):=λ_ _=>rfl;grind
theorem az.strs{K:Frag}{Z:Hp}:∀{l:At} {vs:BY},az K CL Z (l.map D.str) vs->vs=l.map V.str
 | [],_,r=>by
  have a:=r;cases a;rfl
 | y::l,_,r=>by
  have a:=r;cases a with
  | cons c b=>rw[c.sc rfl,az.strs b];rfl
theorem kK:∀l:At,(l.map V.str).all x9=true
 | []=>rfl
 | y::l=>by rw[kx,F1,kK l];rfl
def afJ(hm:X.mg "int" = none)(h:dM X CL b e δ (.bl p) δ1)(c:Gl X "int")(hs:Qah:=by exact aW rfl):cO X CL b (.Call (.Name "int" pp) [e] [] pos) δ (.sh (.int (if p then 1 else 0))) δ1:=λH Z σ ts vs Q S k=>
 cM (kB XM c hm Yb QaE (he:=hs)) (h H Z σ ts vs _ S λv H1 Z1 a k1 d r=>.inr ⟨p,by rw[r.sc rfl],k _ H1 Z1 a k1 (d.push (.int _))⟩)
noncomputable def Fo:Expr->Option Str
 | .Constant (.str x) _ _=>some x
 | _=>none
def Bw:Cc->Option At
 | []=>some []
 | e::es=>(Fo e).bind λx=>(Bw es).map (x::·)
theorem PF(h:Fo e=some x):∃j p,e=.Constant Qa0 j p:=by
 unfold Fo at h;split at h
 .cases h;grind
 .cases h
theorem qI:∀{es:Cc} {l:At},Bw es=some l->IB X CL b es δ ((l.map D.str).map T.sh) δ
 | [],l,h=>by
  have e:=(l1 h).symm;subst e;exact aQ
 | e::es,l,h=>by
  rw[Bw]at h;obtain⟨x,a,h⟩:=Option.bind_eq_some_iff.1 h;obtain⟨d,c,rfl⟩:=wb.1 h;obtain⟨j,p,rfl⟩:=PF a;exact ay eS (qI c)
def L1{a:Stmt}(J:BB->Prop)(k:∀δ2,J δ2->eW X CL b gO δ2 DD)(h:(∀δ2,J δ2->eW X CL b gO δ2 DD)->eW X CL b (a::gO) δ DD):eW X CL b (a::gO) δ DD:=h k
theorem ZA(h0:0<=k)(h1:k<n):Dy n k=some k.toNat:=by
 unfold Dy;simp_all
def qJ(l:AT):T.cW ((l.map D.int).map T.sh)=true:=by
 rw[kq]
 induction l with
 | nil=>rfl
 | cons i r a=>rw[kx,T.cW,a];rfl
noncomputable def Itv(K:Frag)(a:Addr)(n:Nat):It:=
 ⟨λi H=>i<n/\∃xs,nT K H a xs/\xs.length=n,λi H x H'=>H'=H/\∀xs,nT K H a xs->xs[n-1-i]? = some x,λi _=>i=n⟩
variable{tg:Expr}
theorem abf(a it:Addr)(n:Nat):Turn P w K tg (Itv K a n) [it] it (λi h=>PySem.Heap.IsRevIter h it a ((n:Int)-1-(i:Int))) where
 mem:=by simp
 obj:=λi h st b g=>by
  have e:b=it:=by simpa using g
  subst e;obtain⟨o,e,c,d⟩:=st;exact⟨o,e,λv z=>by rw[d]at z;cases z⟩
 keep:=λi h h' st k=>st.at λo e=>k it Wm o e
 item:=by
  intro X m hw q B i pins s σ H E I hf st l;subst m hw q;obtain⟨hi,xs,A,O⟩:=l;obtain⟨its,F,p,hz⟩:=I.list A;have y:n-1-i<xs.length:=by lia
  obtain⟨u,L,G⟩:=F.get (l9 y);obtain⟨f0,f1,f2,t,f4,r⟩:=hf it Wm;have e1:(n:Int)-1-(i:Int)=((n-1-i:Nat):Int):=by lia
  have f:PySem.Heap.IsRevIter s.heap it a ((n-1-i:Nat):Int):=e1▸st;refine PySem.wpAny_pyNext_rev_item f p.isList (x:=u) (by simpa using L) λh' C D=>?_;have N:L2.Inv X pins σ H {s with heap:=h'}:=I.turned (t':=s.toks) (λb o g e=>(D.2 b g).trans e) f0 f1 t f4 r;have e2:((n-1-i:Nat):Int)-1=(n:Int)-1-((i+1:Nat):Int):=by lia
  have j:PySem.Heap.IsRevIter h' it a ((n:Int)-1-((i+1:Nat):Int)):=e2▸C;obtain⟨o,e,c,d⟩:=id C;exact⟨u,rfl,VP (s:={s with heap:=h'}) e c d Wl ⟨_,H,N,G,⟨rfl,λys J=>by rw[I.EY J A];exact l9 y⟩,j,λb g=>(hf b g).1⟩⟩
 done:=by
  intro X m hw q B i pins s σ H E I hf st l;subst m hw q;obtain⟨f0,f1,f2,t,f4,r⟩:=hf it Wm;have e1:(n:Int)-1-(i:Int)=-1:=by have:i=n:=l;lia
  have f:PySem.Heap.IsRevIter s.heap it a (-1):=e1▸st;exact PySem.wpAny_pyNext_rev_end (I.ok.hd B) f λh' M=>⟨rfl,I.turned (t':=s.toks) (λb o g e=>M b o g e) f0 f1 t f4 r⟩
 self:=λ_ _ _ _ _ st h=>PySem.wpAny_pyIter_revIter st h
def atG(K:Frag)(ta:TA):TI:=λσ H R=>ta σ H λvs H1=>∃a xs,vs=[.ref a]/\nT K H1 a xs/\R (Itv K a xs.length) H1
theorem ak2{a:Expr}{ta:TA}{p:Pos}(k:Gl X "reversed")(hm:X.mg "reversed" = none)(n:PA X [a] ta)(hs:AC X a []):PI X tg (.Call (.Name "reversed" p) [a] [] pos) (atG X.K ta):=by
 intro pins s σ H R I h;refine Call_ (qV I k hm boot_reversed (vT (f6 (n pos pins s σ H _ I h) λus s1 zz=>?_) hs rfl));obtain⟨vs,H1,c,g,i⟩:=zz;obtain⟨l,xs,e,j,q⟩:=i;subst e;cases g with
 | cons r f=>
  cases f;cases r;obtain⟨its,d,p,hz⟩:=c.list j;refine PySem.call_reversed_list p.isList ?_;have u:=d.length;have e0:(its.toArray.size-1)=xs.length-1-(0:Int):=by grind
  have t:L2.Inv X pins σ H1 {s1 with heap:=s1.heap.push (PySem.revObj l (its.toArray.size-1))}:=c.kept λb o e=>kv _ e;have st:PySem.Heap.IsRevIter (s1.heap.push (PySem.revObj l (its.toArray.size-1))) s1.heap.objs.size l (xs.length-1-(0:Int)):=e0▸⟨_,mi _ rfl,rfl,rfl⟩;refine PySem.wpAny_pyIter_revIter st ?_;refine⟨ _,_,_,_,H1,rfl,t,abf l _ _,st,λb m=>?_,q⟩;have e:=by simpa using m
  subst e;exact c.Iq (i5 _) (c.f7.fresh (i5 _))
variable{pr pc:Pos}{ds:BA}
theorem ak3(hm:X.mg "reversed" = none)(h:QdR)(t:Gl X "reversed")(hs:Qah:=by exact aW rfl):X7 X CL b tg (.Call (.Name "reversed" pr) [e] [] pc) δ ds.reverse δ1:=by
 refine⟨_,ak2 t hm QaE hs,λH Z σ ts vs R S k=>h H Z σ ts vs _ S λv H1 Z1 m k1 g=>?_⟩;obtain⟨fp,gp,_,r,_,_⟩:=g.rep;cases r with
 | cons r _=>
  replace r:=r.Iu;obtain⟨rfl,r⟩:=r;obtain⟨a,us,rfl,c,j⟩:=r.gR;have hlen:=j.length;have f:=by
   have go:∀{ds:BA} {us:BY} {es:BA} {ws:BY},az X.K CL Z1 ds us->az X.K CL Z1 es ws->az X.K CL Z1 (ds.reverse++es) (us.reverse++ws):=by
    intro ds us es ws r
    induction ds generalizing us es ws with
    | nil=>cases r;simp_all
    | cons d ds p=>
     cases r with
     | cons o n=>
      intro q;rw[mM,mM,jw,jw];exact p n (.cons o q)
   simpa using go j .nil
  refine⟨a,us,rfl,g.zh.seq c,k _ _ ⟨Z1,_,m,k1,g.pop,f,λi H2 s hi=>?_,λi H2 y H' s hi l=>?_,λH2 s=>?_⟩⟩
  .rw[ti]at hi;exact⟨Wc,us,s.seq c,rfl⟩
  .rw[ti]at hi;refine⟨l.1,?_⟩;rw[List.getElem?_reverse Wc];exact l.2 us (s.seq c)
  .rw[ti];exact hlen
theorem ng.get:∀{fs:D2} {gs:Bz} {f:Str} {d:D},ng K CL Z fs gs->fs.lookup f=some d->∃v,gs.lookup f=some v/\bQ K CL Z d v
 | _,_,_,_,.nil,e=>by simp at e
 | _,_,f,d,.cons (x:=x) r t,e=>by
  rw[l5]at e ⊢;cases h:f==x with
  | true=>rw[h]at e;grind
  | false=>rw[h]at e;exact ng.get t e
noncomputable def yF(f:Str)(t:T):BN->BN
 | []=>[(f,t)]
 | (g,x)::r=>if g=f then(g,t)::r else(g,x)::yF f t r
theorem dz.length{fs:BN}{gs:Bz}(h:dz K CL H Z fs gs fp):fs.length=gs.length:=
 dz.ind (P:=λd v _=>d.length=v.length) rfl Qeh h
theorem dz.put{f:Str}{g:BS}(q:bK K CL H Z t v g):∀{fs:BN} {gs:Bz} {fp:BS},dz K CL H Z fs gs fp →
  ∃b a,dz K CL H Z (yF f t fs) (r9 f v gs) b/\a.Sublist fp/\b.Perm (g++a)
 | _,_,_,.nil=>⟨ _,[],.cons q .nil,n7 _,List.Perm.refl _⟩
 | _,_,_,.cons (x:=x) (fp:=fp) (gp:=gp) r rs=>by
  rw[yF,r9];by_cases h:x=f
  .rw[dX h,dX h];exact⟨ _,gp,.cons q rs,vy _ _,List.Perm.refl _⟩
  .rw[dP h,dP h];obtain⟨p,c,h1,h2,d⟩:=dz.put q rs;refine⟨ _,_,.cons r h1,pw (n7 _) h2,(tc fp d).trans ?_⟩;rw[← jw,← jw];exact mN.append_right c
theorem bB.Sx{e f:BS}(hm:lP o=false)(S:Qam)(own:∀c∈fp++gp,Z c=none/\b.B c=none)(j:a∈fp++gp)
  (k:fU K CL QbF Z δ2 σ e) (h:aS K CL QbF Z tl us f) (pm:(e++f).Nodup) (sub:∀c∈e++f,c∈fp++gp) :
  bB K CL b QbF Z δ2 σ tl us:=by
 have g:=own a j;refine⟨⟨_,_,k,h,pm,λc d=>own c (sub c d)⟩,λc u q=>?_,S.zz,λc u q=>?_,S.new,λc u q i=>?_,S.tab⟩
 .rw[aq (aP q g.2)];exact S.bh c u q
 .rw[aq (aP q g.1)];exact S.zh c u q
 .by_cases d:c=a
  .subst d;rw[aV]at q;grind
  .rw[aq d]at q;exact S.tp c u q i
variable{f:Str}{d:D}{fs:D2}
def cH(l:jh X.K (CL c))(n:aC X.K (CL c) f)(h:dM X CL b e δ (.ins c fs) δ1)(j:fs.lookup f=some d)(m:AS X e f:=by rfl) :
  dM X CL b Qdr δ d δ1:=λH Z σ ts vs Q S k=>
 cM (Sb dI m) (h H Z σ ts vs _ S λv H' Z' z s p r=>by
  obtain⟨a,dx,gs,rfl,o,i⟩:=r.DB;obtain⟨w,hw,g⟩:=i.get j;exact⟨a,CL c,dx,gs,w,rfl,o,l,n,hw,k w H' Z' z s p g⟩)
def fW(m:jh X.K (CL c))(n:aC X.K (CL c) f)(h:cO X CL b e δ (.sh QaF) δ1)(l:fs.lookup f=some d)(o:AS X e f:=by rfl) :
  cO X CL b Qdr δ (.sh d) δ1:=λH Z σ ts vs Q S k=>
 cM (Sb dI o) (h H Z σ ts vs _ S λv H' Z' z s i=>by
  obtain⟨fp,gp,_,r,_,_⟩:=i.rep;cases r with
  | cons r _=>
   replace r:=r.Iu;obtain⟨rfl,r⟩:=r;obtain⟨a,dx,gs,rfl,p,j⟩:=r.DB;obtain⟨w,hw,g⟩:=j.get l;exact⟨a,CL c,dx,gs,w,rfl,i.zh _ _ p,m,n,hw,k w H' Z' z s (i.pop.push g)⟩)
def ub(K:Frag)(CL:BC){A:Type}(c:Str)(n:Nat)(arg:Qay)(Pre:Q4)(res:A->BN):Sp:=λvs H Q _=>
 ∃(W b:Hp) (a:A) (x dx:Addr) (us:BY),vs=.ref x::us/\b x=none/\b dx=none/\dx≠x/\H=upd (upd b dx (.own x)) x (.ins (CL c) dx []) ∧
  aD W b/\(∀c o,b c=some o->lP o=true->W c=some o)/\az K CL W (arg a) us/\(arg a).length+1=n/\Pre a/\tP CL W ∧
  ∀H' W' fp,aD b H'->aD W W'->aD W' H'->(∀c o,W' c=some o->W c=none->b c=none)->(∀c o,H' c=some o->lP o=true->W' c=some o) →
   bK K CL H' W' (.ins c (res a)) (.ref x) fp->fp.Nodup->(∀c∈fp,W' c=none/\b c=none)->Q .non H'
section
variable{o:Expr}{apos:Pos}{A:Type}{k:Nat}{f:Addr}{m:Str}{arg:Qay}{Pre:Q4}
def afK{res:A->BN}(a:A)(M:Mk X.K (CL c) f)(F:fz X.prog X.w X.K X.mg X.base lO k f fd ps (ub X.K CL c n arg Pre res))(s:eO (k+1) X.A)(hm:X.mg x=some (.ref (CL c)))(y:Qci)
  (h:QdZ) (u:(arg a).length+1=n) (t:Pre a) (B:T.fV (res a)=true) (v:Qal)
  (o:AD x:=by decide) (he:Qad:=by exact aW rfl) (hpl:Qap:=by rfl) :
  cO X CL b Qbf δ (.ins c (res a)) δ1:=λH Z σ ts vs Q S kk=>
 cM (Ld M F s v hm y .nil qF Fb o he hpl) (h H Z σ ts vs _ S λus H1 Z1 j k1 g r x dx p d ne=>by
  rw[km];refine⟨H1,H1,a,x,dx,us,rfl,p,d,ne,rfl,.refl _,λ_ _ q _=>q,r,u,t,g.Pr,λH' W' fp i ww m nw tp rt nd own=>⟨rfl,?_⟩⟩;obtain⟨Z',l,z⟩:=g.back i g.zh ww m nw tp rt nd own (.inr (‹_›));exact kk _ H' Z' (j.trans l) (k1.trans i) z)
theorem abg{res:A->BN}(a:A)(M:Mk X.K (CL c) f)(F:fz X.prog X.w X.K X.mg X.base lO k f fd ps (ub X.K CL c n arg Pre res))(r:eO (k+1) X.A)(hm:X.mg x=some (.ref (CL c)))(v:Qci)
  (h:QdK) (t:(arg a).length+1=n) (s:Pre a) (u:Qal)
  (p:AD x:=by decide) (he:Qad:=by exact aW rfl) (hpl:Qap:=by rfl) :
  cO X CL b Qbf δ (.ins c (res a)) δ1:=λH Z σ ts vs Q S kk=>
 cM (Ld M F r u hm v .nil qF Fb p he hpl) (h H Z σ ts vs _ S λus H1 Z1 B l k1 g x dx q i ne=>by
  rw[km];have d:us.length=(arg a).length:=by grind
  have y:=g.drops (by simp[d]);refine⟨Z1,H1,a,x,dx,us,rfl,q,i,ne,rfl,g.zh,g.tp,g.Wb d,t,s,g.Lh,λH' W' fp j ww o nw tp rt nd own=>⟨rfl,?_⟩⟩;obtain⟨Z',m,z⟩:=y.back j Ql ww o nw tp rt nd own Qae;exact kk _ H' Z' (l.trans m) (k1.trans j) z)
def afL{res:Qab}{fs:D2}{ds:BA}{pl:Sem Bool}(a:A)(N:jh X.K (CL c))(hm:Meth X.K (CL c) m f)(F:Qdt)(D:eO k X.A)(M:Qci)
  (G:Qd0) (hf:Qcn) (h:X4 X CL b Qaa δ1 ds δ2) (U:arg a=.ins c fs::ds) (J:Qbq) (E:Pre a) (L:QcE)
  (he:Qad:=by exact aW rfl) (hpl:Qap:=by rfl)
  (C:eval Qca X.env=(do
   let I ← eval o X.env
   standAt apos.atName
   let (f,first) ← holding [I] QbY
   callWith pos f first (backTo pos QbX) Qa6):=by rfl) :
  cO X CL b Qca δ (res a) δ2:=λH Z σ ts vs Q S kk=>
 cM (Lc dI N hm F D M .nil qF Fb he hpl C) (G H Z σ ts vs _ S λv H1 Z1 t k1 P z=>by
  obtain⟨O,dx,gs,rfl,l,i⟩:=z.DB;have d:=by
   have:∀{fs:List _} {gs:List _},ng X.K CL H1 fs gs->fs.lookup m=none->gs.lookup m=none:=by
    intro fs gs r
    induction fs generalizing gs with
    | nil=>intro _;cases r;rfl
    | cons p fs B=>
     cases r with
     | cons q r=>
      intro h;rw[l5]at h ⊢;split at h
      .cases h
      .exact B r h
   exact this i hf
  refine⟨O,dx,gs,rfl,l,d,h H1 Z1 σ ts vs _ P λus H2 Z2 s k2 g y=>?_⟩;rw[km];refine⟨H2,a,.refl _,λ_ _ q _=>q,U ▸ .cons (.ins (k2 _ _ l) (i.mono k2)) y,J,E,g.Pr,λv H' W' fp j ww x nw tp rt nd own=>?_⟩;obtain⟨Z',u,R⟩:=g.back j g.zh ww x nw tp rt nd own (.inr L);exact kk v H' Z' (t.trans (s.trans u)) (k1.trans (k2.trans j)) R)
def abh{res:Qab}{fs:D2}{pl:Sem Bool}(a:A)(B:jh X.K (CL c))(hm:Meth X.K (CL c) m f)(F:Qdt)(s:eO k X.A)(z:Qci)
  (u:Qd0) (hf:∀{H:Hp} {gs:Bz},ng X.K CL H fs gs->gs.lookup m=none) (E:arg a=[.ins c fs]) (x:Qbq) (t:Pre a) (y:QcE)
  (r:eval Qcb X.env=(do
   let I ← eval o X.env
   standAt apos.atName
   let (f,first) ← holding [I] QbY
   callWith pos f first (backTo pos Qc1) Qa6):=by rfl) :
  cO X CL b Qcb δ (res a) δ1:=λH Z σ ts vs Q S kk=>
 cM (O8 dI B hm F s z .nil qF r) (u H Z σ ts vs _ S λv H1 Z1 i k1 d p=>by
  obtain⟨C,dx,gs,rfl,h,e⟩:=p.DB;refine⟨C,dx,gs,rfl,h,hf e,?_⟩;refine⟨H1,a,.refl _,λ_ _ q _=>q,E ▸ .cons (.ins h e) .nil,x,t,d.Pr,λv H' W' fp g ww l nw tp rt nd own=>?_⟩;obtain⟨Z',j,D⟩:=d.back g d.zh ww l nw tp rt nd own (.inr y);exact kk v H' Z' (i.trans j) (k1.trans g) D)
end
def Lw{f:Addr}{k:Nat}{A:Type}{arg:Qay}{Pre:Q4}{res:A->BN}(F:QcA)(S:QbO)
  (J:∀(gE:Value) (l:Qat) (outer:Da) (s:Qb) (H:Hp) (E:XK) (b:Bx) (a:A) (y:Addr),eO k (l.deeper Qb5)->Pre a →
   eW (se lO P w K mg base N qual QaB f gE l outer s H E).La CL b (d9 st) (some (.pin y (.ins c []))::((arg a).map (λd=>some (T.sh d))++List.replicate (N.length-((arg a).length+1)) none))
    {nx:=λδ=>δ[0]? = some (some (.pin y (.ins c (res a)))),rt:=λ_ _=>False}) :
  fz P w K mg base lO (k+1) f fd ps (ub K CL c ps.length arg Pre res):=by
 refine F.ok S (λvs H Q E h=>?_) (λgE l outer s H vs Q E G h=>?_)
 .obtain⟨W,j,a,y,dx,us,rfl,_,_,_,_,_,_,r,B,_⟩:=h;rw[lr,← r.length];exact B
 .obtain⟨W,j,a,y,dx,us,rfl,m,n,ne,rfl,u,tp,r,B,I,tb,kk⟩:=h;have old:∀{d:Addr} {o:HO},j d=some o->upd (upd j dx (.own y)) y (.ins (CL c) dx []) d=some o:=λ{d o} q=>by
   rw[aq (aP q m),aq (aP q n)];exact q
  refine⟨_,Z6,J gE l outer s _ E ⟨j,W⟩ a y G I _ W _ [] [] _ ⟨⟨[y]++[],[],?_,.nil,Wm,λd hd=>?_⟩,λd o q=>old q,.refl _,λd o q=>old (u d o q),λd o q z=>?_,λd o q i=>?_,tb⟩ ⟨λδ' σ' H' Z' s' g e=>?_,λt v H' Z' δ' σ' s' g e=>e.elim,λ_ _ _ _ _ _ e=>e.elim,λ_ _ _ _ _ _ e=>e.elim⟩⟩
  .unfold L2.start;rw[kx,lr,n4,← r.length];exact .cons (.pin (.ins aV .nil)) (lR _ r)
  .have:d=y:=by simpa using hd
   subst this;exact⟨Sq u m,m⟩
  .have D:W d=some o:=q;have p:W d=none:=z;rw[D]at p;cases p
  .by_cases h1:d=y
   .subst h1;rw[aV]at q;cases q;cases i
   .rw[aq h1]at q;by_cases h2:d=dx
    .subst h2;rw[aV]at q;cases q;cases i
    .rw[aq h2]at q;exact tp d o q i
  .obtain⟨fp,gp,L,_,nd,own⟩:=g.rep;obtain⟨v,f1,f2,M,hv,C,rt,_,_⟩:=L.get e;subst C;replace rt:=rt.Iv;obtain⟨rfl,rt⟩:=rt;refine kk H' Z' f2 g.bh g.zz g.zh g.new g.tp rt ?_ λd hd=>own d (by simp[hd]);have h1:=(la.1 nd).1;exact(la.1 (la.1 h1).2.1).1
variable{body:Co}{ds Yc:BA}
theorem Lx(g:Gx X)(P:Nat->BB->Prop)(m:Nat)(h0:P m δ)
  (hs:∀m δ,P m δ->∃p δ1,wZ X CL b e δ p δ1 ∧
   (p=true->eW X CL b body δ1 {nx:=λδ2=>∃a,a<m/\P a δ2,rt:=DD.rt,bk:=λδ2=>eW X CL b gO δ2 DD,ct:=λδ2=>∃a,a<m/\P a δ2})/\(p=false->eW X CL b gO δ1 DD)) :
  eW X CL b (.While e body [] pos::gO) δ DD:=cZ λH Z σ ts vs E S M=>
 tO (aax g.xe og Z6) (by
  refine⟨λm σ H=>∃Z2 δ2,aD Z Z2/\bB X.K CL b H Z2 δ2 σ ts vs/\P m δ2,⟨m,Z,δ,.refl _,S,h0⟩,?_⟩;rintro m σ H ⟨Z2,δ2,f,k,p2⟩;obtain⟨p,δ3,j,h1,h2⟩:=hs m δ2 p2;refine j H Z2 σ ts vs _ k λi Z3 d n h=>?_;cases p with
  | true=>
   refine⟨ _,λσ' H' q=>q,?_⟩;refine h1 rfl i Z3 σ ts vs _ h ⟨λδ' σ' H' Z' s' c ⟨a,l,q⟩=>⟨a,l,Z',δ',f.trans (d.trans s'),c,q⟩,λt v H' Z' δ' σ' s' c q=>M.rt t v H' Z' δ' σ' (f.trans (d.trans s')) c q,
    λδ' σ' H' Z' s' c q=>M.nx δ' σ' H' Z' (f.trans (d.trans s')) c q,λδ' σ' H' Z' s' c ⟨a,l,q⟩=>⟨a,l,Z',δ',f.trans (d.trans s'),c,q⟩⟩
  | false=>
   exact M.nx δ3 σ i Z3 (f.trans d) h (h2 rfl))
def apD(K:Frag):R2:=λx y H Q=>∃l b xs zs,x=.ref l/\y=.ref b/\nT K H l xs/\nT K H b zs/\xs.length+zs.length<=sizeLine/\∀p,H p=none->Q (.ref p) (upd H p (.lst (xs++zs)))
theorem Wf:zL X (binaryOp .Add) (apD X.K):=by
 intro pins s σ H x y v u Q I k j h;obtain⟨l,b,xs,zs,rfl,rfl,p,t,hz,q⟩:=h;cases k;cases j;obtain⟨its,r,pl,_⟩:=I.list p;obtain⟨i,f,d,_⟩:=I.list t;have e1:=r.length;have e2:=f.length;obtain⟨⟨c1,dd,A,sl⟩,g,o,n,hd⟩:=pl.isList;obtain⟨⟨C,e,z,c⟩,a,B,m,hd2⟩:=d.isList;cases o;cases B;cases hd;cases hd2;refine concat_meets ⟨_,g,rfl⟩ ⟨_,a,rfl⟩ noFill_list_add seq_list_add PySem.F.slot_list_add PySem.F.entry_list_add (PySem.F.args_list_add_2 _ _)
  (list_addW l b _ _ n m dd e sl c WA) ⟨g,a,?_⟩
 have w:its.toArray++i.toArray=(its++i).toArray:=by simp
 rw[w];exact⟨.ref _,_,I.O3 (r.append f) Wp,rfl,q _ I.fresh⟩
theorem az.app{ds Yc:BA}{a:BY}(h:az K CL Z ds vs)(b:az K CL Z Yc a):az K CL Z (ds++Yc) (vs++a):=
 az.ind (P:=λds vs=>az K CL Z (ds++Yc) (vs++a)) b (λr _ i=>.cons r i) h
def zW(h1:dM X CL b e1 δ (.lst ds) δ1)(h2:dM X CL b e2 δ1 (.lst Yc) δ2)(i1:QbE)(i2:D.bP Yc=true)(hz:ds.length+Yc.length<=sizeLine) :
  cO X CL b QcV δ (.lst ((ds++Yc).map T.sh)) δ2:=λH Z σ ts vs Q S k=>
 cM (O7 Wf dI dI) (h1 H Z σ ts vs _ S λv1 H1 Z1 j k1 q m=>h2 H1 Z1 σ ts vs _ q λv2 H2 Z2 i k2 h l=>by
  have e:=m.mono k2;obtain⟨_,_,rfl,g,d⟩:=e.gR;obtain⟨_,_,rfl,f,a⟩:=l.gR;refine⟨_,_,_,_,rfl,rfl,g,f,by rw[← d.length,← a.length];exact hz,λp n=>?_⟩;have rc:=az.app (az.tQ h.tp i1 d) (az.tQ h.tp i2 a);obtain⟨c,o⟩:=(bB.oH rc h).j4 (g0:=[]) (by simp[d.length,a.length]) n;exact k _ _ _ (j.trans i) (k1.trans (k2.trans c)) o)
def boot_min:bootBuiltins "min" = some (.builtin "min"):=by decide +kernel
def boot_max:bootBuiltins "max" = some (.builtin "max"):=by decide +kernel
def boot_str:bootBuiltins "str" = some (.type "str"):=by decide +kernel
def afM{i j:Int}(g:Gx X)(hm:X.mg "min" = none)(e:Gl X "min")(h:X4 X CL b [e1,e2] δ [.int i,.int j] δ1)(hs:Qeo:=by exact aW rfl)(hpl:(backTo pos (starEach [e2] X.env)).any (·.1)=false:=by rfl) :
  cO X CL b (.Call (.Name "min" pp) [e1,e2] [] pos) δ (.sh (.int (if j<i then j else i))) δ1:=λH Z σ ts vs Q S k=>
 cM (sf (XJ g.calm) e hm boot_min Fb (he:=hs) (hpl:=hpl)) (h H Z σ ts vs _ S λus H1 Z1 a k1 f r=>by
  cases r with
  | cons d r=>
   cases r with
   | cons c r=>
    cases r;rw[d.sc rfl,c.sc rfl];exact⟨i,j,rfl,k _ H1 Z1 a k1 (f.push (.int _))⟩)
def afN{i j:Int}(g:Gx X)(hm:X.mg "max" = none)(e:Gl X "max")(h:X4 X CL b [e1,e2] δ [.int i,.int j] δ1)(hs:Qeo:=by exact aW rfl)(hpl:(backTo pos (starEach [e2] X.env)).any (·.1)=false:=by rfl) :
  cO X CL b (.Call (.Name "max" pp) [e1,e2] [] pos) δ (.sh (.int (if j > i then j else i))) δ1:=λH Z σ ts vs Q S k=>
 cM (sf (XI g.calm) e hm boot_max Fb (he:=hs) (hpl:=hpl)) (h H Z σ ts vs _ S λus H1 Z1 a k1 f r=>by
  cases r with
  | cons d r=>
   cases r with
   | cons c r=>
    cases r;rw[d.sc rfl,c.sc rfl];exact⟨i,j,rfl,k _ H1 Z1 a k1 (f.push (.int _))⟩)
def Wg{i:Int}(hm:X.mg "str" = none)(c:Gl X "str")(h:dM X CL b e δ (.int i) δ1)(hi:i.natAbs.log2<1920)(hs:Qah:=by exact aW rfl) :
  cO X CL b (.Call (.Name "str" pp) [e] [] pos) δ (.sh (.str (toString i))) δ1:=λH Z σ ts vs Q S k=>
 cM (kB zM c hm boot_str QaE (he:=hs)) (h H Z σ ts vs _ S λv H1 Z1 a k1 d r=>r.sc rfl▸⟨i,rfl,hi,k _ H1 Z1 a k1 (d.push (.str _))⟩)
structure Fm(X:Cx)(CL:BC)(x:Str)(k n:Nat){A:Type}(arg:Qay)(Pre:Q4)(res:A->BN):Prop where
 ex:∃f fd ps,Mk X.K (CL x) f/\fz X.prog X.w X.K X.mg X.base lO k f fd ps (ub X.K CL x n arg Pre res)/\X.mg x=some (.ref (CL x))/\Binds X.K fd ps []
 room:eO (k+1) X.A
structure Fq(X:Cx)(CL:BC)(c m:Str)(k n:Nat){A:Type}(arg:Qay)(Pre:Q4)(res:Qab):Prop where
 ex:∃f fd ps,Meth X.K (CL c) m f/\fz X.prog X.w X.K X.mg X.base lO k f fd ps (Px X.K CL n arg Pre res)/\Binds X.K fd ps []
 room:eO k X.A
 cls:jh X.K (CL c)
noncomputable def Sy(N:At)(y:Addr)(c:Str)(ds:BA):BB:=some (.pin y (.ins c []))::(ds.map (λd=>some (T.sh d))++List.replicate (N.length-(ds.length+1)) none)
section
variable{m:Str}{D:gF}
def mk_{k:Nat}{A:Type}{arg:Qay}{Pre:Q4}{res:A->BN}(a:A)(F:Fm X CL x k n arg Pre res)(i:Qal)(h:QdZ)(d:Pre a)(j:T.fV (res a)=true)(g:(arg a).length+1=n:=by rfl)
  (c:AD x:=by decide) (he:Qad:=by exact aW rfl) (hpl:Qap:=by rfl) :
  cO X CL b Qbf δ (.ins x (res a)) δ1:=by
 obtain⟨f,fd,ps,M,l,m,b⟩:=F.ex;exact afK a M l F.room m b h g d j i c he hpl
def Oy{k:Nat}{A:Type}{arg:Qay}{Pre:Q4}{res:A->BN}(a:A)(F:Fm X CL x k n arg Pre res)(i:Qal)(h:QdK)(d:Pre a)(g:(arg a).length+1=n:=by rfl)
  (c:AD x:=by decide) (he:Qad:=by exact aW rfl) (hpl:Qap:=by rfl) :
  cO X CL b Qbf δ (.ins x (res a)) δ1:=by
 obtain⟨f,fd,ps,M,j,m,b⟩:=F.ex;exact abg a M j F.room m b h g d i c he hpl
end
def Ly{d:α}{fs:List (Str×α)}:((f,d)::fs).lookup f=some d:=by simp
def iL{g:Str}{d:α}{fs:List (Str×α)}(h:(f==g)=false):((g,d)::fs).lookup f=fs.lookup f:=by
 rw[l5,h]
variable{d:L3.D}
theorem zX(x:Int):∀l:AT,uu (.int x) (l.map V.int)=decide (x∈l)
 | []=>rfl
 | y::l=>by
  have a:=zX x l;unfold uu at a ⊢;rw[kx,pv,a];by_cases h:y=x
  .subst h;simp[ot]
  .have h':¬ x=y:=λe=>h e.symm;simp[ot,h,h']
theorem az.ints{K:Frag}{Z:Hp}:∀{l:AT} {vs:BY},az K CL Z (l.map D.int) vs->vs=l.map V.int
 | [],_,r=>by
  have a:=r;cases a;rfl
 | y::l,_,r=>by
  have a:=r;cases a with
  | cons c b=>rw[c.sc rfl,az.ints b];rfl
theorem kL:∀l:AT,(l.map V.int).all x9=true
 | []=>rfl
 | y::l=>by rw[kx,F1,kL l];rfl
abbrev _root_.EM:=Option BA
noncomputable def zY(d:L3.D):EM:=match d with
 | .lst ds=>some ds
 | .tup ds=>some ds
 | _=>none
theorem bQ.zY{ds:BA}(r:Qct)(h:L3.zY d=some ds):∃p us,v=.ref p/\(nT K Z p us\/zK K Z p us)/\az K CL Z ds us:=by
 cases r with
 | tup b a=>cases h;exact⟨_,_,rfl,.inr b,a⟩
 | lst b a=>cases h;exact⟨_,_,rfl,.inl b,a⟩
 | non=>cases h
 | bl=>cases h
 | int=>cases h
 | str=>cases h
 | any=>cases h
 | val=>cases h
 | rZ=>cases h
 | dct=>cases h
 | ins=>cases h
 | CY=>cases h
variable{l:AT}
def Ec{i:Int}(h1:Qa7)(h2:dM X CL b e2 δ1 d δ2)(hd:L3.zY d=some Qbt)(hm:behindInMarks .In e2=false) :
  wZ X CL b Qea δ (decide (i∈l)) δ2/\cO X CL b Qea δ (.sh (.bl (decide (i∈l)))) δ2:=by
 constructor
 .intro H Z σ ts vs Q S k;refine Iz (tN wY dI dI hm) (h1 H Z σ ts vs _ S λv1 H1 Z1 f k1 n a=>h2 H1 Z1 σ ts vs _ n λv2 H2 Z2 c k2 m h=>?_);obtain⟨p,us,rfl,j,g⟩:=bQ.zY h hd;have e:=g.ints;subst e;refine⟨_,_,rfl,j,by rw[a.sc rfl];rfl,kL l,_,rfl,?_⟩;rw[a.sc rfl,zX];exact k H2 Z2 (f.trans c) Qao m
 .intro H Z σ ts vs Q S k;refine cM (wX wY dI dI hm) (h1 H Z σ ts vs _ S λv1 H1 Z1 f k1 n a=>h2 H1 Z1 σ ts vs _ n λv2 H2 Z2 c k2 m h=>?_);obtain⟨p,us,rfl,j,g⟩:=bQ.zY h hd;have e:=g.ints;subst e;refine⟨_,_,rfl,j,by rw[a.sc rfl];rfl,kL l,?_⟩;rw[a.sc rfl,zX];exact k _ H2 Z2 (f.trans c) Qao (m.push (.bl _))
def Lz{i:Int}(h1:Qa7)(h2:dM X CL b e2 δ1 d δ2)(hd:L3.zY d=some Qbt)(hm:behindInMarks .NotIn e2=false) :
  wZ X CL b QdV δ (!decide (i∈l)) δ2/\cO X CL b QdV δ (.sh (.bl (!decide (i∈l)))) δ2:=by
 constructor
 .intro H Z σ ts vs Q S k;refine Iz (tN oN dI dI hm) (h1 H Z σ ts vs _ S λv1 H1 Z1 f k1 n a=>h2 H1 Z1 σ ts vs _ n λv2 H2 Z2 c k2 m h=>?_);obtain⟨p,us,rfl,j,g⟩:=bQ.zY h hd;have e:=g.ints;subst e;refine⟨_,_,rfl,j,by rw[a.sc rfl];rfl,kL l,_,rfl,?_⟩;rw[a.sc rfl,zX];exact k H2 Z2 (f.trans c) Qao m
 .intro H Z σ ts vs Q S k;refine cM (wX oN dI dI hm) (h1 H Z σ ts vs _ S λv1 H1 Z1 f k1 n a=>h2 H1 Z1 σ ts vs _ n λv2 H2 Z2 c k2 m h=>?_);obtain⟨p,us,rfl,j,g⟩:=bQ.zY h hd;have e:=g.ints;subst e;refine⟨_,_,rfl,j,by rw[a.sc rfl];rfl,kL l,?_⟩;rw[a.sc rfl,zX];exact k _ H2 Z2 (f.trans c) Qao (m.push (.bl _))
def Wh{l:At}(h1:dM X CL b e1 δ (.str x) δ1)(h2:dM X CL b e2 δ1 d δ2)(hd:L3.zY d=some (l.map .str))(hm:behindInMarks .In e2=false) :
  wZ X CL b Qea δ (decide (x∈l)) δ2/\cO X CL b Qea δ (.sh (.bl (decide (x∈l)))) δ2:=by
 constructor
 .intro H Z σ ts vs Q S k;refine Iz (tN wY dI dI hm) (h1 H Z σ ts vs _ S λv1 H1 Z1 f k1 m a=>h2 H1 Z1 σ ts vs _ m λv2 H2 Z2 c k2 j h=>?_);obtain⟨p,us,rfl,i,g⟩:=bQ.zY h hd;have e:=g.strs;subst e;refine⟨_,_,rfl,i,by rw[a.sc rfl];rfl,kK l,_,rfl,?_⟩;rw[a.sc rfl,zV];exact k H2 Z2 (f.trans c) Qao j
 .intro H Z σ ts vs Q S k;refine cM (wX wY dI dI hm) (h1 H Z σ ts vs _ S λv1 H1 Z1 f k1 m a=>h2 H1 Z1 σ ts vs _ m λv2 H2 Z2 c k2 j h=>?_);obtain⟨p,us,rfl,i,g⟩:=bQ.zY h hd;have e:=g.strs;subst e;refine⟨_,_,rfl,i,by rw[a.sc rfl];rfl,kK l,?_⟩;rw[a.sc rfl,zV];exact k _ H2 Z2 (f.trans c) Qao (j.push (.bl _))
def afO{l:At}(h1:dM X CL b e1 δ (.str x) δ1)(h2:dM X CL b e2 δ1 d δ2)(hd:L3.zY d=some (l.map .str))(hm:behindInMarks .NotIn e2=false) :
  wZ X CL b QdV δ (!decide (x∈l)) δ2/\cO X CL b QdV δ (.sh (.bl (!decide (x∈l)))) δ2:=by
 constructor
 .intro H Z σ ts vs Q S k;refine Iz (tN oN dI dI hm) (h1 H Z σ ts vs _ S λv1 H1 Z1 f k1 m a=>h2 H1 Z1 σ ts vs _ m λv2 H2 Z2 c k2 j h=>?_);obtain⟨p,us,rfl,i,g⟩:=bQ.zY h hd;have e:=g.strs;subst e;refine⟨_,_,rfl,i,by rw[a.sc rfl];rfl,kK l,_,rfl,?_⟩;rw[a.sc rfl,zV];exact k H2 Z2 (f.trans c) Qao j
 .intro H Z σ ts vs Q S k;refine cM (wX oN dI dI hm) (h1 H Z σ ts vs _ S λv1 H1 Z1 f k1 m a=>h2 H1 Z1 σ ts vs _ m λv2 H2 Z2 c k2 j h=>?_);obtain⟨p,us,rfl,i,g⟩:=bQ.zY h hd;have e:=g.strs;subst e;refine⟨_,_,rfl,i,by rw[a.sc rfl];rfl,kK l,?_⟩;rw[a.sc rfl,zV];exact k _ H2 Z2 (f.trans c) Qao (j.push (.bl _))
variable{ds:BA}
def fL:IB X CL b [] δ (([]:BA).map T.sh) δ:=aQ
def aG(h1:Qej)(h2:IB X CL b es δ1 QaP δ2)(hs:Qad:=by exact aW rfl):IB X CL b Qaa δ ((d::ds).map T.sh) δ2:=ay h1 h2 hs
theorem fE(h:IB X CL b es δ (ds.map T.sh) δ1)(a:QbB):cO X CL b (.List es pos) δ (.lst QaP) δ1:=cj h Wp
def vA(l:At):D.bP (l.map L3.D.str)=true:=eB Qcq _
def ef(h:cO X CL b e δ (.lst QaP) δ1):cO X CL b e δ (.sh (.lst ds)) δ1:=by
 have:=Sv h
 rwa [T.fB,kJ]at this
def jA(h:QaL)(q:t.fB=d):cO X CL b e δ (.sh d) δ1:=q▸Sv h
def Wi(h:DD.bk δ):eW X CL b (.Break pos::gO) δ DD:=cZ (aa6 h)
def ak7(h:DD.ct δ):eW X CL b (.Continue pos::gO) δ DD:=cZ (afD h)
def C2{d2:L3.D}(h:dM X CL b e δ d δ1)(q:d=d2):dM X CL b e δ d2 δ1:=q▸h
def aU{t2:T}(h:QaL)(q:t=t2):cO X CL b e δ t2 δ1:=q▸h
structure LC(Z H Z' H':Hp):Prop where
 z:aD Z Z'
 h:aD H H'
 zh:aD Z' H'
 new:∀a o,Z' a=some o->Z a=none->H a=none
 tp:∀a o,H' a=some o->lP o=true->Z' a=some o
theorem LC.refl(zh:aD Z H)(tp:∀a o,H a=some o->lP o=true->Z a=some o):LC Z H Z H:=⟨.refl _,.refl _,zh,λa o q z=>WA,tp⟩
theorem LC.tup{p:Addr}(zh:aD Z H)(tp:∀a o,H a=some o->lP o=true->Z a=some o)(b:H p=none):LC Z H (upd Z p Qbe) (upd H p Qbe):=by
 have c:=zh.free b;refine⟨aD.upd c,aD.upd b,λa o q=>?_,λa o q z=>?_,λa o q i=>?_⟩
 .by_cases e:a=p
  .subst e;rw[aV]at q ⊢;exact q
  .rw[aq e]at q ⊢;exact zh a o q
 .by_cases e:a=p
  .subst e;exact b
  .rw[aq e,z]at q;cases q
 .by_cases e:a=p
  .subst e;rw[aV]at q ⊢;exact q
  .rw[aq e]at q ⊢;exact tp a o q i
theorem bB.grow(S:Qam)(g:LC Z H Z' H'):bB K CL b H' Z' δ σ ts vs:=by
 obtain⟨fp,gp,e,r,nd,k⟩:=S.rep;have old:=λa c=>(i3.1 c).elim (e.there a) (r.there a);have keep:∀a∈fp++gp,H' a=H a:=λa c=>by
  obtain⟨o,q⟩:=old a c;rw[q];exact g.h a o q
 refine⟨⟨fp,gp,e.mono g.z (λa c=>keep a (j1 _ c)),r.mono g.z (λa c=>keep a (js _ c)),nd,λa c=>⟨?_,(k a c).2⟩⟩,S.bh.trans g.h,S.zz.trans g.z,g.zh,λa o q z=>?_,g.tp,S.tab⟩
 .cases q:Z' a with
  | none=>rfl
  | some o=>
   obtain⟨u,d⟩:=old a c;rw[g.new a o q (k a c).1]at d;cases d
 .cases e2:Z a with
  | none=>exact S.bh.free (g.new a o q e2)
  | some u=>
   have:=g.z a u e2;rw[q]at this;cases this;exact S.new a o e2 z
noncomputable def Wj(δ:BB):CO->BA->BB
 | i::is,d::ds=>Wj (δ.set i QbM) is ds
 | _,_=>δ
noncomputable def Fp(σ:L2.St):CO->BY->L2.St
 | i::is,v::vs=>Fp (σ.set i Qav) is vs
 | _,_=>σ
theorem bB.sets{ps:BA}{ys:BY}:∀{is:CO} {δ:BB} {σ:L2.St},bB K CL b H Z δ σ ts vs->az K CL Z ps ys->(∀i∈is,i<δ.length)->bB K CL b H Z (Wj δ is ps) (Fp σ is ys) ts vs:=by
 intro is
 induction is generalizing ps ys with
 | nil=>
  intro δ σ S r _;cases ps<;>cases ys<;>exact S
 | cons i is d=>
  intro δ σ S r a;cases r with
  | nil=>exact S
  | cons r c=>exact d ((S.push r).set (a i fX)) c (λj e=>by rw[n3];exact a j (i8 _ e))
section
variable{ds:BA}
structure Sz(X:Cx)(CL:BC)(b:Bx)(δ1:BB)(σ:L2.St)(ts:B1)(vs:BY)(Z H:Hp)(ds:BA)(J:It)(H1:Hp):Prop where
 ex:∃Z1,aD Z Z1/\aD H H1/\bB X.K CL b H1 Z1 δ1 σ ts vs/\(∀i H2,aD Z1 H2->i<ds.length->J.go i H2) ∧
  (∀i Z2 H2 x H',aD Z1 Z2->aD Z2 H2->(∀a o,H2 a=some o->lP o=true->Z2 a=some o)->i<ds.length->J.o1 i H2 x H'->∃Z3 d,ds[i]? = some d/\LC Z2 H2 Z3 H'/\bQ X.K CL Z3 d x)/\(∀H2,aD Z1 H2->J.stop ds.length H2)
def tw(X:Cx)(CL:BC)(b:Bx)(tg e:Expr)(δ:BB)(ds:BA)(δ1:BB):Prop:=
 ∃a,PI X tg e a/\∀(H Z:Hp) (σ:L2.St) (ts:B1) (vs:BY) (R:It->Hp->Prop),bB X.K CL b H Z δ σ ts vs->(∀J H1,Sz X CL b δ1 σ ts vs Z H ds J H1->R J H1)->a σ H R
def RY(h:X7 X CL b tg iter δ ds δ1):tw X CL b tg iter δ ds δ1:=by
 obtain⟨f,pi,hw⟩:=h;refine⟨f,pi,λH Z σ ts vs R S k=>hw H Z σ ts vs R S λJ H1 zz=>?_⟩;obtain⟨Z1,us,a,k1,m,g,go,c,st⟩:=zz;refine k J H1 ⟨Z1,a,k1,m,go,λi Z2 H2 x H' s1 s2 tp hi j=>?_,st⟩;obtain⟨e,l⟩:=c i H2 x H' (s1.trans s2) hi j;subst e;obtain⟨d,hd,rd⟩:=g.X3 l;exact⟨Z2,d,hd,.refl s2 tp,rd.mono s1⟩
def GI(X:Cx)(CL:BC)(tg:Expr)(is:CO)(parts:D->EM):Prop:=
 ∃t:TG,PG X tg t/\∀(Z H:Hp) (d:D) (ps:BA) (x:V) (σ:L2.St) (Q:L2.St->Hp->Prop),aD Z H->bQ X.K CL Z d x->parts d=some ps->(∀ys,az X.K CL Z ps ys->Q (Fp σ is ys) H)->t x σ H Q
def part1(d:D):EM:=some [d]
noncomputable def part2:D->EM
 | .tup [a,c]=>some [a,c]
 | _=>none
theorem Ye{d:D}{ps:BA}(h:part2 d=some ps):∃d1 d2,d=.tup [d1,d2]/\ps=[d1,d2]:=by
 unfold part2 at h;split at h
 .grind
 .cases h
theorem SD{d:D}{ps:BA}{x:V}{Q:L2.St->Hp->Prop}(zh:aD Z H)(r:bQ K CL Z d x)(e:part2 d=some ps)(k:∀ys,az K CL Z ps ys->Q (Fp σ [i,j] ys) H):PM K 2 (Nd (JZ i) (Nd (JZ j) Pt)) x σ H Q:=by
 obtain⟨d1,d2,rfl,rfl⟩:=Ye e;obtain⟨_,_,rfl,f,a⟩:=r.Sl;cases a with
 | cons c a=>
  cases a with
  | cons b a=>
   cases a;exact⟨_,_,rfl,aD.o7 zh f,rfl,_,_,rfl,_,_,rfl,rfl,k _ (.cons c (.cons b .nil))⟩
def abi{px:Pos}(a:X.N.Nodup)(n:Ln X i x):GI X CL (.Name x px) [i] part1:=
 ⟨ _,tM a n.hi n.loc n.hf,λZ H d ps x σ Q zh r e k=>by
  cases e;exact k [x] (.cons r .nil)⟩
def Wk{k:Nat}{y:Str}{px py pt:Pos}(a:X.N.Nodup)(f:QaK)(n:Ln X i x)(m:Ln X j y)(hs:(assignEach [.Name x px,.Name y py] X.env).map (·.2)=assign (.Name x px) X.env::(assignEach [.Name y py] X.env).map (·.2):=by rfl)(g:(assignEach [.Name y py] X.env).map (·.2)=assign (.Name y py) X.env::(assignEach [] X.env).map (·.2):=by rfl)
  (c:(assignEach [.Name x px,.Name y py] X.env).length=2:=by rfl) (b:(assignEach [.Name x px,.Name y py] X.env).findIdx? (·.1)=none:=by rfl):GI X CL (.Tuple [.Name x px,.Name y py] k pt) [i,j] part2:=
 ⟨ _,akc f (O4 (tM a n.hi n.loc n.hf) (O4 (tM a m.hi m.loc m.hf) afn g) hs) c b,λZ H d ps x σ Q zh r e k=>SD zh r e k⟩
theorem afP{D:gF}(is:CO)(parts:L3.D->EM)(P:Nat->BB->Prop)(h:Qdg)(n:GI X CL tg is parts)(h0:P 0 δ1)(F:∀j δ,P j δ->∀i∈is,i<δ.length)
  (hs:∀j d δ,ds[j]? = some d->P j δ->∃ps,parts d=some ps/\eW X CL b gO (Wj δ is ps) {nx:=P QA,rt:=D.rt,bk:=D.nx,ct:=P QA}) (hd:∀δ,P ds.length δ->D.nx δ)
  (C:Qd3) (G:QaK) (B:AN X iter:=by intro _;rfl) :
  Ss X CL b (.For tg iter gO [] pos) δ D:=λH Z σ ts vs E S M=>by
 obtain⟨O,pi,hw⟩:=h;obtain⟨t,pg,n⟩:=n;refine tO (aay C G pi pg Z6 B) (hw H Z σ ts vs _ S λJ H1 zz=>?_);obtain⟨Z1,f,k1,N,go,u,st⟩:=zz;refine⟨λj m σ H2=>m=ds.length-j/\j<=ds.length/\∃Z2 δ2,aD Z1 Z2/\bB X.K CL b H2 Z2 δ2 σ ts vs/\P j δ2,⟨_,rfl,kr _,Z1,δ1,.refl _,N,h0⟩,?_⟩;rintro j m σ H2 ⟨rfl,R,Z2,δ2,s,c,p2⟩;by_cases l:j<ds.length
 .refine .inr ⟨go j H2 (s.trans c.zh) l,_,λσ' H' h=>⟨ _,Wc,rfl,l,h⟩,λy H' x=>?_⟩;obtain⟨Z3,d,p,q,rd⟩:=u j Z2 H2 y H' s c.zh c.tp l x;obtain⟨ps,o,I⟩:=hs j d δ2 p p2;have r:=c.grow q;refine n Z3 H' d ps y σ _ r.zh rd o λys g=>?_;have L:=r.sets g (F j δ2 p2);have s3:=s.trans q.z;exact I _ Z3 _ ts vs _ L ⟨λδ' σ' H' Z' s' a k=>⟨Z',δ',s3.trans s',a,k⟩,λt v H' Z' δ' σ' s' a k=>M.rt t v H' Z' δ' σ' (f.trans (s3.trans s')) a k,λδ' σ' H' Z' s' a k=>M.nx δ' σ' H' Z' (f.trans (s3.trans s')) a k,λδ' σ' H' Z' s' a k=>⟨Z',δ',s3.trans s',a,k⟩⟩
 .have e:j=ds.length:=by lia
  subst e;exact .inl ⟨st H2 (s.trans c.zh),M.nx δ2 σ H2 Z2 (f.trans s) c (hd δ2 p2)⟩
def ak8{D:gF}{is:CO}{parts:L3.D->EM}(g:Gx X)(a:GI X CL tg is parts)(P:Nat->BB->Prop)(h:Qdg)(h0:P 0 δ1)(e:∀j δ,P j δ->∀i∈is,i<δ.length)
  (hs:∀j d δ,ds[j]? = some d->P j δ->∃ps,parts d=some ps/\eW X CL b body (Wj δ is ps) {nx:=P QA,rt:=D.rt,bk:=λδ2=>eW X CL b gO δ2 D,ct:=P QA}) (hd:∀δ,P ds.length δ->eW X CL b gO δ D) (c:AN X iter:=by intro _;rfl) :
  eW X CL b (.For tg iter body [] pos::gO) δ D:=
 cZ (afP is _ P h a h0 e hs hd g.xe g.calm c)
end
structure tT(X:Cx)(scope:Scope)(xs:At)(Nc:At)(ix:CO):Prop where
 kind:scope.kind=.function
 Bt:∀y∈scope.names,y.2 ≠ .cell
 nd:Nc.Nodup
 names:∀y∈scope.names,y.2=.local->scope.names.lookup y.1=some .local
 own:∀x∈xs,scope.names.lookup x=some .local
 frees:∀y∈scope.names,y.2=.free->scope.names.lookup y.1=some .free/\(X.env.kindOf y.1=some .cell\/X.env.kindOf y.1=some .free)
 hd:Nc=xs++ix.filterMap (X.N[·]?)
 rF:∀i∈ix,∃y,X.N[i]? = some y/\scope.names.lookup y=some .free
noncomputable def Yg(σ:L2.St)(ix:CO)(os:List (Option V)):L2.St:=os++ix.map λi=>(σ[i]?).getD none
variable{xs:At}
theorem PN(sc:QcB)(I:QP)(x:∀b∈fp,oM X pins H b/\b<s.heap.objs.size){h':Heap}{m:Bi}{tk:Nat}
  (Z:h'.Ns s.heap.objs.size m) (d:∀b o,s.heap.get? b=some o->h'.get? b=some o) :
  Inv (cR X scope Nc s.heap.objs.size s H fp) [] (Yg σ ix (List.replicate xs.length none)) H {s with heap:=h',toks:=tk}:=by
 have frees:∀y∈scope.names,y.2=.free->∃c,X.env.cells.lookup y.1=some c:=λy J e=>I.ok.has y.1 (sc.frees y J e).2;have sub:∀{y:Str} {c:Addr},(eV X.env scope.names []).lookup y=some c->X.env.cells.lookup y=some c:=λ{y c} e=>tS frees (λ_ _ z=>by cases z) e;have hlen:(Yg σ ix (List.replicate xs.length none)).length=Nc.length:=by
  have all:∀l:CO,(∀i∈l,∃y,X.N[i]? = some y/\scope.names.lookup y=some .free)->(l.filterMap (X.N[·]?)).length=l.length:=by
   intro l
   induction l with
   | nil=>intro _;rfl
   | cons i r G=>
    intro h;obtain⟨y,e,_⟩:=h i fX;rw[nc,e];show _+1=_+1;rw[G λj C=>h j (i8 _ C)]
  unfold Yg;rw[sc.hd,kn,kn,e7,sT,all ix sc.rF]
 have C0:s.heap.get? s.heap.objs.size=none:=Heap.get?_none_of_le (i5 _);refine⟨⟨I.ok.mod,sc.kind,I.ok.glob,I.ok.blt,i5 _,λy z c h1 h2=>I.ok.inj y z c (sub h1) (sub h2),λy J=>?_,λy c hf _=>(by cases (show false=true from hf)),I.ok.hd,I.ok.frames,.inl rfl,λb g=>⟨k4 (x b g).2,λy c e=>(x b g).1.2.2.2.2.1 y c (sub e)⟩,I.bs,kM I.ok.pj I.sz,λb o e g=>?_,λb g hf=>?_,I.stack,I.K8⟩,
  rfl,I.bare,Un.kept d,⟨m,Z,λi y v h1 h2 h3=>?_⟩,λy c e=>?_,I.f7.fresh (i5 _),λy c e=>I.vh y c (sub e),λp W=>absurd (show p∈([]:BM) from W) Wm,I.f7.kept d,hlen⟩
 .
  have B:(relabel scope X.env).names.lookup y=some .cell\/(relabel scope X.env).names.lookup y=some .free:=J;cases e:scope.names.lookup y with
  | none=>
   have:=oJ (env:=X.env) e;obtain q|q:=B<;>(rw[show(relabel scope X.env).names.lookup y=none from this]at q;cases q)
  | some k=>
   have q:=jl (env:=X.env) e;have d:k=.free:=by
    by_cases d:k=.free
    .exact d
    .have g:(k==NameKind.free)=false:=by simpa using d
     rw[dP (by rw[g];simp)]at q;have V:k ≠ .cell:=λz=>by
      subst z;exact sc.Bt _ (rb e) rfl
     obtain z|z:=B
     .rw[show(relabel scope X.env).names.lookup y=some k from q]at z;exact absurd (l1 z) V
     .rw[show(relabel scope X.env).names.lookup y=some k from q]at z;exact absurd (l1 z) d
   subst d;exact pW e
 .
  rcases(x b g).1.2.2.2.1 with z|z
  .exact I.ok.Bq b o e z
  .exact absurd (mu (ke e) (kM I.ok.pj z)) (vx _)
 .obtain z|z:=fO.1 (I.K7 b hf)
  .exact(x b g).1.2.1 z
  .exact(x b g).1.2.2.1 z
 .
  unfold Yg at h2;by_cases hi:i<xs.length
  .rw[Nw (by rw[sT];exact hi),NG,dX hi]at h2;cases h2
  .obtain⟨n,rfl⟩:∃n,i=xs.length+n:=⟨i-xs.length,Wc⟩;rw[FF (by rw[sT];lia),sT,Nat.add_sub_cancel_left,ll]at h2;cases F:ix[n]? with
   | none=>rw[F]at h2;cases h2
   | some j=>
    rw[F]at h2;have t:(σ[j]?).getD none=some v:=l1 h2;have C:σ[j]? = some Qav:=by
     cases q:σ[j]? with
     | none=>rw[q]at t;cases t
     | some o=>rw[q]at t;exact congrArg some t
    obtain⟨f,A,w⟩:=sc.rF j (l3 F);have M:Nc[xs.length+n]? = some f:=by
     have all:∀(l:CO) (i:Nat),(∀j∈l,∃y,X.N[j]? = some y/\scope.names.lookup y=some .free)->l[i]? = some j->(l.filterMap (X.N[·]?))[i]? = some f:=by
      intro l
      induction l with
      | nil=>intro i _ h;simp at h
      | cons a r G=>
       intro i h hi;obtain⟨ya,O,_⟩:=h a fX;rw[nc,O];cases i with
       | zero=>
        simp at hi;subst hi;rw[A]at O;cases O;rfl
       | succ i=>exact G i (λj C=>h j (List.mem_cons_of_mem _ C)) (by simpa using hi)
     rw[sc.hd,FF Wc,Nat.add_sub_cancel_left];exact all ix n sc.rF F
    have ey:f=y:=by
     have E:Nc[xs.length+n]? = some y:=h1;rw[M]at E;exact l1 E
    subst ey;have S:=(sc.frees (f,.free) (rb w) rfl).2;have P:tj X.env.scope f:=S.elim (λz=>.inr (.inl z)) (λz=>.inr (.inr z));obtain⟨m0,Y,L⟩:=I.loc;obtain⟨u,U,lk⟩:=L j f v A C P;refine⟨u,U,?_⟩;obtain⟨kk,_⟩|⟨_,c,hc,T⟩:=lk
    .obtain z|z:=S
     .rw[kk]at z;cases z
     .rw[kk]at z;cases z
    .obtain⟨R,D⟩:=pW (env:=X.env) (cs:=[]) w;have:R=c:=by
      have:=sub D;rw[hc]at this;exact(l1 this).symm
     subst this;obtain⟨o,K,hd⟩:=T;refine .inr ⟨?_,R,D,o,d _ _ K,hd⟩;have q:=jl (env:=X.env) w;show(relabel scope X.env).names.lookup f=some .cell\/(relabel scope X.env).names.lookup f=some .free;rw[show(relabel scope X.env).names.lookup f=_ from q];split
     .exact .inl rfl
     .exact .inr rfl
 .obtain⟨v,o,K,hd⟩:=I.cell y c (sub e);exact⟨v,o,d _ _ K,hd⟩
def MW(X:Cx)(tg elt:Expr)(ifs:Cc)(n:Nat)(σ:L2.St)(ix:CO)(D:Addr)(N:Hp->Prop)(e:V)(os:List (Option V))(g:Hp):Prop:=
 ∃t:TG,PG X tg t/\t e (Yg σ ix os) g λa f=>∃b,b.length=n/\a=Yg σ ix b/\ID X ifs a f λok d=>
  if ok=true then Iw X elt a d λy c=>∃acc,c D=some (.lst acc)/\acc.length<sizeLine/\N (upd c D (.lst (acc++[y]))) else N d
variable{it:Addr}{E:B2}
def yG{J:It}{tn:Nat->Heap->Prop}{G:Addr->Hp->Prop}{RR:QeD}
  (sc:QcB) (hc:QaK) (I:QP) (l:Turn X.prog X.w X.K tg J fp it tn) (st:tn 0 s.heap) (hf:∀b∈fp,oM X pins H b)
  (loop:∀D,H D=none->∃W:Nat->Nat->Hp->Prop,(∃m,W 0 m (upd H D (.lst [])))/\∀i m H2,W i m H2->(J.stop i H2/\G D H2) ∨
   (J.go i H2/\∃N:Hp->Prop,(∀H',N H'->∃m',m'<m/\W (i+1) m' H')/\∀L H3,J.o1 i H2 L H3->∀C s0 H0 f0 os,os.length=xs.length->MW Qee tg elt ifs xs.length σ ix D N L os H3))
  (ax:∀D C s' H',(∃m,s'.heap.Ns C m)->(∃o,s'.heap.get? C=some o/\∀v,o.data ≠ .cell v)->H' C=none->(C≠X.env.locals/\C∉X.fs/\X.jx.heap.objs.size<=C/\(∀y c,X.env.cells.lookup y=some c->c≠C)/\∀q∈X.pn++pins,q.1≠C)->(∀h',Heap.SameBut C s'.heap h'->Inv X pins σ H' {s' with heap:=h'})->G D H'->RR (.ref D) C (.ok .next) s') :
  wpAny Qr X.A (newList []) (λacc O=>wpAny Qr X.A Qen (λPR M=>
   codeAny Qr X.A (.compStart Qcv 0 Qbw acc {PR with scope:=relabel scope X.env}) (RR acc PR.locals) M) E O) E s:=by
 refine wpAny_newObj_type ?_;have F:Inv X pins σ (upd H s.heap.objs.size (.lst [])) {s with heap:=s.heap.push {cls:=.type "list",dict:=none,data:=.seq ([]:B0).toArray}}:=
  I.laid (t':=s.toks) (λb u e=>kv _ e) (i5 _) ⟨by show 0<=sizeLine;exact kr _,[],0,.nil,mi _ rfl⟩
 have hD:H s.heap.objs.size=none:=I.f7.fresh (i5 _);obtain⟨W,⟨m0,w0⟩,turn⟩:=loop _ hD;have j:∀b∈fp,oM X pins (upd H s.heap.objs.size (.lst [])) b/\b<(s.heap.push {cls:=.type "list",dict:=none,data:=.seq ([]:B0).toArray}).objs.size:=λb a=>by
  obtain⟨f0,f1⟩:=hf b a;obtain⟨o,ho,_⟩:=l.obj 0 _ st b a;have nR:=ke ho;refine⟨⟨by rw[aq (k4 nR)];exact f0,f1⟩,?_⟩;rw[Heap.size_push];exact Nat.lt_succ_of_lt nR
 have R:tn 0 (s.heap.push {cls:=.type "list",dict:=none,data:=.seq ([]:B0).toArray}):=l.keep 0 _ _ st λb _ o e=>kv _ e;generalize ae:({s with heap:=s.heap.push {cls:=.type "list",dict:=none,data:=.seq ([]:B0).toArray}}:Shared)=s3 at F ⊢;have ar:s3.heap=s.heap.push {cls:=.type "list",dict:=none,data:=.seq ([]:B0).toArray}:=by rw[← ae]
 rw[← ar]at j R;refine wpAny_newFunctionEnv sc.Bt (by intro y hy;simp at hy) (λh a0 aT=>?_) sc.kind;have old:∀b o,s3.heap.get? b=some o->h.get? b=some o:=λb o e=>(aT.2 b (k4 (ke e))).trans (kv _ e);have J0:=PN (tk:=s3.toks+([]:DA).length) sc F j a0 old;have P:tn 0 h:=l.keep 0 _ _ R λb _ o e=>old b o e;have V:∀s4:Shared,s4={s3 with heap:=h,toks:=s3.toks+([]:DA).length}->codeAny Qr X.A (.compLoop Qcv 0 Qbw QcU (compEnvC scope Qbn s3.heap.objs.size X.env)) (RR QcU s3.heap.objs.size) s4:=by
  rintro s4 rfl;have f:∀{H':Hp},(∀b∈fp,H' b=none)->∀b∈fp,oM QcI [] H' b:=λ{H'} hn b a=>by
   obtain⟨⟨f0,f1,f2,f3,f4,f5⟩,nR⟩:=j b a;refine⟨hn b a,k4 nR,λz=>?_,.inl a,λy c e=>f4 y c (tS (λy hy e=>I.ok.has y.1 (sc.frees y hy e).2) (λ_ _ z=>by cases z) e),λp hp=>absurd (show p∈([]:BM) from hp) Wm⟩;obtain q|q:=fO.1 (F.K7 b z)
   .exact f1 q
   .exact f2 q
  refine Lr (λn s'=>∃i o H',o.length=xs.length/\Inv QcI [] (Yg σ ix o) H' s'/\tn i s'.heap/\(∀b∈fp,H' b=none)/\W i n H') ?_ m0 ⟨0,_,_,sT,J0,P,λb a=>(j b a).1.1,w0⟩;rintro n s5 ⟨i,o5,H5,ab,I5,VR,U,w5⟩;obtain⟨stop,g⟩|⟨go,N,hN,step⟩:=turn i n H5 w5
  .refine f6 (l.done QcI rfl rfl rfl hc i [] s5 _ H5 _ I5 (f U) VR stop) λr s6 zz=>?_;obtain⟨hr,I6⟩:=zz;subst hr;obtain⟨m6,T,_⟩:=I6.loc;obtain⟨oc,bc,bg,ag,aw,_⟩:=id T;have k:=F.Iq (i5 s3.heap.objs.size) (H':=λ_=>none) rfl;refine ax _ _ s6 H5 ⟨m6,T⟩ ⟨oc,ag,λv z=>by rw[aw]at z;cases z⟩ I6.free ⟨k.2.1,k.2.2.1,?_,k.2.2.2.2.1,k.2.2.2.2.2⟩ (λh' Yh=>X6 F (λb a=>(j b a).1) I6 Yh) g;exact F.sz
  .refine f6 (l.item QcI rfl rfl rfl hc i [] s5 _ H5 _ I5 (f U) VR go) λr s6 zz=>?_;obtain⟨u,hr,h6⟩:=zz;subst hr;refine f6 h6 λ_ s7 zz=>?_;obtain⟨L,H7,I7,r7,y7,B,aI⟩:=zz;have ba:=I7.pinned (f aI) (l.obj _ _ B);obtain⟨t,hg,ht⟩:=step L _ y7 s3.heap.objs.size s3 (upd H s.heap.objs.size (.lst [])) fp o5 ab;refine f6 (hg _ s7 _ H7 L u _ ba r7 ht) λ_ s8 zz=>?_;obtain⟨bb,H8,I8,S,aa,e8,h8⟩:=zz;subst e8;refine f6 (aa8 I8 h8 rfl) λok s9 zz=>?_;obtain⟨H9,I9,Z⟩:=zz;have again:∀{x:Hp} {sa:Qb},Inv QcI ([]++EZ fp s7.heap) (Yg σ ix S) x sa->N x->∃m,m<n/\∃i o H',o.length=xs.length/\Inv QcI [] (Yg σ ix o) H' sa/\tn i sa.heap/\(∀b∈fp,H' b=none)/\W i m H':=λ{x sa} Y na=>by
    obtain⟨m',hm,wa⟩:=hN x na;refine⟨m',hm,i+1,S,x,aa,Y.vm,l.keep _ _ _ B λb a o e=>(Y.pin (b,o) (js _ (js _ (lN a e)))).1,λb a=>?_,wa⟩;obtain⟨o,e,d⟩:=l.obj _ _ B b a;exact(Y.pin (b,o) (js _ (js _ (lN a e)))).2.1
   cases ok with
   | false=>
    rw[dP mx]at Z ⊢;exact again I9 Z
   | true=>
    rw[dX rfl]at Z ⊢;refine f6 (Z _ s9 I9) λv sa zz=>?_;obtain⟨y,x,Y,ra,acc,DE,hlen,na⟩:=zz;refine f6 (Br (X:=cR X scope Nc s3.heap.objs.size s3 (upd H s.heap.objs.size (.lst [])) fp) _ sa _ x QcU [y] QcU [v] (λ_ Hb=>Hb=upd x s.heap.objs.size (.lst (acc++[y]))) Y rfl (.cons ra .nil) ⟨_,acc,y,rfl,rfl,DE,hlen,rfl⟩) λ_ sb zz=>?_;obtain⟨_,Hb,Ib,_,eb⟩:=zz;subst eb;exact again Ib na
 exact codeAny_compStart_list (V _ rfl) (l.self _ 0 _ _ _ P (V _ rfl))
noncomputable def Yi(ps:BA):BB:=ps.map λp=>some (.sh p)
theorem Kd:∀{ys:BY} {os:List (Option V)} {pre r:L2.St},os.length=ys.length->Fp (pre++(os++r)) (List.range' pre.length ys.length) ys=pre++(ys.map some++r)
 | [],os,pre,r,h=>by
  have:=ND.1 h;subst this;rfl
 | y::ys,os,pre,r,h=>by
  match os,h with
  | o::os,h=>
   show Fp _ _ ys=_;have:=Kd (pre:=pre++[some y]) (r:=r) (by simpa using h);simp_all
def afR:∀{ps:BA} {ys:BY} {δc:BB} {a:L2.St},az K CL Z ps ys->fU K CL H Z δc a []->fU K CL H Z (Yi ps++δc) (ys.map some++a) []:=λ{ps ys δc a} h e=>
 az.ind (P:=λps ys=>fU K CL H Z (Yi ps++δc) (ys.map some++a) []) e (λr _ i=>.cons (.sh r) i) h
section
variable{W1:Hp}{δc:BB}{J:It}{ds:BA}{p:D->Bool}{g:D->T}{parts:D->EM}
def By(X:Cx)(CL:BC)(scope:Scope)(Nc:At)(n:Nat)(tg:Expr)(parts:D->EM)(ifs:Cc)(elt:Expr)(δc:BB)(ds:BA)(p:D->Bool)(g:D->T):Prop:=
 ∀C s0 a f0 b,GI (cR X scope Nc C s0 a f0) CL tg (List.range' 0 n) parts/\∀d,d∈ds->∃ps,parts d=some ps/\ps.length=n/\Ki (cR X scope Nc C s0 a f0) CL b ifs (Yi ps++δc) (p d)/\(p d=true->cO (cR X scope Nc C s0 a f0) CL b elt (Yi ps++δc) (g d) (Yi ps++δc))
structure GW(K:Frag)(CL:BC)(H W1:Hp)(D:Addr)(l:B1)(k:Nat)(H2 Z2:Hp)(RN:BY)(fp:BS):Prop where
 a1:aD H H2
 a2:aD W1 Z2
 a3:aD Z2 H2
 a4:Z2 D=none
 a5:∀a o,Z2 a=some o->W1 a=none->H a=none
 a6:∀a o,H2 a=some o->lP o=true->Z2 a=some o
 a7:H2 D=some (.lst RN)
 a8:aS K CL H2 Z2 l RN fp
 a9:fp.Nodup
 b1:D∉fp
 b2:∀a∈fp,Z2 a=none/\H a=none
 b3:RN.length<=k
theorem yH(S:bB X.K CL b H Z δ σ ts vs)(zw:aD Z W1)(wh:aD W1 H)(tp:∀a o,H a=some o->lP o=true->W1 a=some o)
  (a0:∀H',fU X.K CL H' W1 δc (ix.map λi=>(σ[i]?).getD none) []) (inner:By X CL scope Nc n tg parts ifs elt δc ds p g)
  (Ed:∀i H2,aD W1 H2->i<ds.length->J.go i H2)
  (hy:∀i Z2 H2 x H',aD W1 Z2->aD Z2 H2->(∀a o,H2 a=some o->lP o=true->Z2 a=some o)->i<ds.length->J.o1 i H2 x H'->∃Z3 d,ds[i]? = some d/\LC Z2 H2 Z3 H'/\bQ X.K CL Z3 d x)
  (pM:∀H2,aD W1 H2->J.stop ds.length H2) (hlen:QbB) (c:W1=Z\/∀d∈ds,(g d).clean=true) :
  ∀D,H D=none->∃W:Nat->Nat->Hp->Prop,(∃m,W 0 m (upd H D (.lst [])))/\∀i m H2,W i m H2->(J.stop i H2/\∃Z2,aD Z Z2/\aD H H2/\bB X.K CL b H2 Z2 δ σ (.lst ((ds.filter p).map g)::ts) (.ref D::vs)) ∨
   (J.go i H2/\∃N:Hp->Prop,(∀H',N H'->∃m',m'<m/\W (i+1) m' H')/\∀V k,J.o1 i H2 V k->∀C s0 H0 f0 os,os.length=n->MW Qee tg elt ifs n σ ix D N V os k):=by
 intro D hD;have wD:W1 D=none:=wh.free hD;refine⟨λi m H2=>m=ds.length-i/\i<=ds.length/\∃Z2 RN fp,GW X.K CL H W1 D (((ds.take i).filter p).map g) i H2 Z2 RN fp,⟨ds.length,rfl,kr _,W1,[],[],aD.upd hD,.refl _,wh.trans (aD.upd hD),wD,λa o q z=>?_,λa o q i=>?_,aV,.nil,sm,Wm,Wm,Wm⟩,?_⟩
 .rw[q]at z;cases z
 .by_cases f:a=D
  .subst f;rw[aV]at q;cases q;cases i
  .rw[aq f]at q;exact tp a o q i
 .rintro i m H2 ⟨rfl,hi,Z2,RN,fp,hh,R,zh,zD,nw,I,E,T,nd,nD,own,bb⟩;by_cases nR:i<ds.length
  .refine .inr ⟨Ed i H2 (R.trans zh) nR,λH'=>∃Z2 RN fp,GW X.K CL H W1 D (((ds.take (i+1)).filter p).map g) (i+1) H' Z2 RN fp,λH' h=>⟨ds.length-(i+1),Wc,rfl,nR,h⟩,λV k y C s0 H0 f0 os aI=>?_⟩;obtain⟨Z3,d,hd,w,rd⟩:=hy i Z2 H2 V k R zh I nR y;have O:∀a,Z2 a=none->(∃o,H2 a=some o)->Z3 a=none:=λa e ⟨o,e2⟩=>by
    cases q:Z3 a with
    | none=>rfl
    | some u=>rw[w.new a u q e]at e2;cases e2
   have aa:∀a o,Z3 a=some o->W1 a=none->H a=none:=λa o q z=>by
    cases e:Z2 a with
    | none=>exact hh.free (w.new a o q e)
    | some u=>
     have:=w.z a u e;rw[q]at this;cases this;exact nw a o e z
   have l:aS X.K CL k Z3 (((ds.take i).filter p).map g) RN fp:=T.mono w.z λa f=>by
    obtain⟨o,e⟩:=T.there a f;rw[e];exact w.h a o e
   have B:∀a∈fp,Z3 a=none/\H a=none:=λa f=>⟨O a (own a f).1 (T.there a f),(own a f).2⟩;have G:Z3 D=none:=O D zD ⟨_,E⟩;have j:k D=some (.lst RN):=w.h D _ E;have s:=hh.trans w.h;have A:=R.trans w.z;have U:=w.zh;have ar:=w.tp;clear own nw T zD E hh R zh I w O;have IE:d∈ds:=l3 hd;have xh:ds.take (i+1)=ds.take i++[d]:=by rw[ri,hd];rfl
   obtain⟨ka,SG⟩:=inner C s0 H0 f0 ⟨k,Z3⟩;obtain⟨ps,ax,hpl,it,ie⟩:=SG d IE;obtain⟨t,pg,ht⟩:=ka;refine⟨t,pg,ht Z3 k d ps V _ _ U rd ax λys Y=>?_⟩;have M:ys.length=n:=by rw[← Y.length];exact hpl
   have es:Fp (Yg σ ix os) (List.range' 0 n) ys=Yg σ ix (ys.map some):=by
    have:=Kd (ys:=ys) (os:=os) (pre:=[]) (r:=ix.map λi=>(σ[i]?).getD none) (by rw[aI,M]);rw[M]at this;exact this
   refine⟨ys.map some,by rw[e7];exact M,es,?_⟩;rw[es];have S0:bB X.K CL ⟨k,Z3⟩ k Z3 (Yi ps++δc) (Yg σ ix (ys.map some)) [] []:=
    ⟨⟨[],[],afR Y ((a0 k).mono A λa f=>by cases f),.nil,sm,λa f=>by cases f⟩,.refl _,.refl _,U,λa o q z=>(by have z':Z3 a=none:=z;rw[show Z3 a=some o from q]at z';cases z'),ar,(S.Lh.mono zw).mono A⟩
   refine it.sem S0 λH4 Z4 P L S4=>?_;have ba:∀a∈fp,H4 a=k a:=λa f=>by
    obtain⟨o,e⟩:=l.there a f;rw[e];exact L a o e
   have ag:∀a,Z3 a=none->(∃o,k a=some o)->Z4 a=none:=λa e ⟨o,e2⟩=>by
    cases q:Z4 a with
    | none=>rfl
    | some u=>
     have:=S4.new a u q e;rw[show k a=none from this]at e2;cases e2
   cases hp:p d with
   | false=>
    refine Sj ⟨Z4,RN,fp,s.trans L,A.trans P,S4.zh,ag D G ⟨_,j⟩,λa o q z=>?_,S4.tp,L D _ j,?_,nd,nD,λa f=>⟨ag a (B a f).1 (l.there a f),(B a f).2⟩,Wc⟩
    .cases e:Z3 a with
     | none=>exact s.free (S4.new a o q e)
     | some u=>
      have:=P a u e;rw[q]at this;cases this;exact aa a o e z
    .rw[xh,n8,Fu (by simp[hp]),vi,km];exact l.mono P ba
   | true=>
    refine Pp ((ie hp) H4 Z4 (Yg σ ix (ys.map some)) [] [] _ S4 λyv H5 Z5 z5 k5 S5=>⟨RN,k5 D _ (L D _ j),Wc,?_⟩);obtain⟨f1,g1,e1,r1,ab,ae⟩:=S5.rep;cases r1 with
    | @cons _ _ _ _ fy fn ry rn=>
     cases rn;rw[km]at ab ae;have aw:fy.Nodup:=(la.1 ab).2.1;have F:∀a∈fy,Z5 a=none/\k a=none:=λa f=>ae a (js _ f);have SJ:∀a,Z3 a=none->(∃o,k a=some o)->Z5 a=none:=λa e ⟨o,e2⟩=>by
      cases q:Z5 a with
      | none=>rfl
      | some u=>
       have:=S5.new a u q e;rw[show k a=none from this]at e2;cases e2
     have yD:∀a∈fy,a≠D:=λa f e=>by
      subst e;rw[(F a f).2]at j;cases j
     have bc:H5 D=some (.lst RN):=k5 D _ (L D _ j);have sD:aD H (upd H5 D (.lst (RN++[yv]))):=λa o q=>by
      rw[aq (aP q hD)];exact k5 a o (L a o (s a o q))
     refine⟨Z5,RN++[yv],fp++fy,sD,A.trans (P.trans z5),λa o q=>?_,SJ D G ⟨_,j⟩,λa o q z=>?_,λa o q im=>?_,aV,?_,?_,?_,λa f=>?_,?_⟩
     .rw[aq (aP q (SJ D G ⟨_,j⟩))];exact S5.zh a o q
     .cases e:Z3 a with
      | none=>exact s.free (S5.new a o q e)
      | some u=>
       have:=z5 a u (P a u e);rw[q]at this;cases this;exact aa a o e z
     .by_cases f:a=D
      .subst f;rw[aV]at q;cases q;cases im
      .rw[aq f]at q;exact S5.tp a o q im
     .rw[xh,n8,wd hp,vi,kc];refine aS.app (l.mono (P.trans z5) λa f=>?_) (by
       have:=aS.cons (fp:=fy) (gp:=[]) (ry.mono Ql λa f=>aq (yD a f)) (aS.nil (H:=upd H5 D (.lst (RN++[yv]))) (Z:=Z5))
       rwa [km]at this)
      have:a≠D:=λe=>nD (e▸f);rw[aq this];obtain⟨o,e⟩:=l.there a f;rw[e];exact k5 a o (L a o e)
     .refine la.2 ⟨nd,aw,λa f a' aT e=>?_⟩;subst e;obtain⟨o,e⟩:=l.there a f;rw[(F a aT).2]at e;cases e
     .intro h;obtain h|h:=i3.1 h
      .exact nD h
      .exact yD D h rfl
     .obtain h|h:=i3.1 f
      .exact⟨SJ a (B a h).1 (l.there a h),(B a h).2⟩
      .exact⟨(F a h).1,s.free (F a h).2⟩
     .rw[kn,sE];lia
  .have e:i=ds.length:=by lia
   subst e;refine .inl ⟨pM H2 (R.trans zh),?_⟩;rw[mf]at T;obtain⟨Z',z',S'⟩:=S.back (H':=H2) (W:=W1) (W':=Z2) (t:=.lst ((ds.filter p).map g)) (v:=.ref D) (fp:=D::fp) hh zw R zh nw I (.lst E T) (nk.2 ⟨nD,nd⟩) (λa f=>by
    obtain h|h:=fO.1 f
    .subst h;exact⟨zD,hD⟩
    .exact own a h) (c.imp id λc=>by
     rw[w9];exact Fe λd hd=>c d (k3.1 hd).1)
   exact⟨Z',z',hh,S'⟩
end
variable{δc:BB}{ds:BA}{p:D->Bool}{g:D->T}{parts:D->EM}
def Ke{J:It}{tn:Nat->Heap->Prop}{H1:Hp}{RR:QeD}
  (sc:QcB) (G:QaK) (C:Sz X CL b δ1 σ ts vs Z H ds J H1) (I:L2.Inv X pins σ H1 s) (M:Turn X.prog X.w X.K tg J fp it tn) (st:tn 0 s.heap) (hf:∀b∈fp,oM X pins H1 b)
  (L:(δc=Ff δ1 ix/\∀d∈ds,(g d).clean=true)\/δc=Bu δ1 ix) (inner:Qdv) (hlen:QbB)
  (k:∀D C s' H' Z',(∃m,s'.heap.Ns C m)->(∃o,s'.heap.get? C=some o/\∀v,o.data ≠ .cell v)->H' C=none->(C≠X.env.locals/\C∉X.fs/\X.jx.heap.objs.size<=C/\(∀y c,X.env.cells.lookup y=some c->c≠C)/\∀q∈X.pn++pins,q.1≠C)->(∀h',Heap.SameBut C s'.heap h'->L2.Inv X pins σ H' {s' with heap:=h'})->aD Z Z'->aD H H'->bB X.K CL b H' Z' δ1 σ (.lst ((ds.filter p).map g)::ts) (.ref D::vs)->RR (.ref D) C (.ok .next) s') :
  wpAny Qr X.A (newList []) (λacc h=>wpAny Qr X.A Qen (λt f=>
   codeAny Qr X.A (.compStart Qcv 0 Qbw acc {t with scope:=relabel scope X.env}) (RR acc t.locals) f) E h) E s:=by
 obtain⟨Z1,x,k1,a,go,l,j⟩:=C.ex;have lp:∀D,H1 D=none->∃W:Nat->Nat->Hp->Prop,(∃m,W 0 m (upd H1 D (.lst [])))/\∀i m H2,W i m H2->(J.stop i H2/\∃Z2,aD Z1 Z2/\aD H1 H2/\bB X.K CL b H2 Z2 δ1 σ (.lst ((ds.filter p).map g)::ts) (.ref D::vs)) ∨
   (J.go i H2/\∃N:Hp->Prop,(∀H',N H'->∃r,r<m/\W (i+1) r H')/\∀n u,J.o1 i H2 n u->∀C s0 P f0 os,os.length=xs.length->MW (cR X scope Nc C s0 P f0) tg elt ifs xs.length σ ix D N n os u):=by
  obtain⟨e,cl⟩|e:=L
  .subst e;exact yH a a.zh Ql (λ_ _ q _=>q) (zR a ix) inner (λi H2 s=>go i H2 (a.zh.trans s)) (λi Z2 H2 y H' s=>l i Z2 H2 y H' (a.zh.trans s)) (λH2 s=>j H2 (a.zh.trans s)) hlen (.inr cl)
  .subst e;exact yH a Ql a.zh a.tp (Fg a ix) inner go l j hlen Qae
 exact yG sc G I M st hf lp λD C s' H' m io B ch ci ⟨Z',z,F,O⟩=>k D C s' H' Z' m io B ch ci (x.trans z) (k1.trans F) O
def vC(sc:QcB)(I:Qba):closureFor scope X.env=pure Qbn:=
 mQ λy a e=>I.ok.has y.1 (sc.frees y a e).2
def Ft(sc:QcB)(j:QaK)(h:Qdg)(l:(δc=Ff δ1 ix/\∀d∈ds,(g d).clean=true)\/δc=Bu δ1 ix)(inner:Qdv)(hlen:QbB)
  (hs:AN X iter:=by intro _;rfl):cO X CL b Qcv δ (.lst ((ds.filter p).map g)) δ1:=λH Z σ ts vs Q S k pins s I=>by
 obtain⟨t,pi,hw⟩:=h;refine FC rfl hs (vC sc I) sc.kind sc.names ?_;refine f6 (pi pins s σ H _ I (hw H Z σ ts vs _ S λJ H1 C=>C)) λv s1 h1=>f6 h1 λf s2 zz=>?_;obtain⟨it,fp,tn,J,H1,e,r,o,st,hf,C⟩:=zz;subst e;refine Ke sc j C r o st hf l inner hlen λD w s' H' Z' m io u ch ci a c q=>?_;obtain⟨m,i⟩:=m;exact⟨m,i,λh' n=>⟨.ref D,H',ci h' n,rfl,k _ H' Z' a c q⟩⟩
variable{y:Str}
def afT{D:gF}{py K:Pos}(i:Nat)(sc:QcB)(hc:QaK)(h:Qdg)(n:(δc=Ff δ1 ix/\∀d∈ds,(g d).clean=true)\/δc=Bu δ1 ix)(inner:Qdv)(hlen:QbB)
  (k:D.nx (δ1.set i (some (.lst ((ds.filter p).map g))))) (Y:Qbu) (hN:X.N.Nodup) (hi:X.N[i]? = some y) (V:Loc X.env.scope y) (l:AM X y)
  (DC:swapsWith Qcv (some (.Name y py)) K.line X.env=pure true)
  (hs:AN X iter:=by intro _;rfl):Ss X CL b (.Assign [.Name y py] Qcv K) δ D:=λH Z σ ts vs E S M pins s I=>by
 obtain⟨wi,pi,hw⟩:=h;rw[exec_Assign_Name_used _ _ _ _ DC];refine i9 (GG (i9 ?_));show wpAny _ X.A (do let _ ← comprehension Qcv scope X.env _ (newList []) false (eval iter X.env) (some (assign (.Name y py) X.env))) _ _ s;refine i9 (m3 (FC (use:=some (assign (.Name y py) X.env)) (Q:=λ_ s'=>SP X pins E .next s') rfl hs (vC sc I) sc.kind sc.names ?_) (λ_ s' c=>kA (kA c)) λ_ _ e=>e);refine f6 (pi pins s σ H _ I (hw H Z σ ts vs (λJ H1=>Sz X CL b δ1 σ ts vs Z H ds J H1) S λJ H1 C=>C)) λv s1 h1=>f6 h1 λU s2 zz=>?_;obtain⟨it,fp,tn,J,H1,e,I1,Tn,st,hf,C⟩:=zz;subst e;refine Ke (RR:=λacc C=>compPost Qr X.A X.xe (some (assign (.Name y py) X.env)) (λ_ s'=>SP X pins E .next s') acc C) sc hc C I1 Tn st hf n inner hlen λD' f s' H' Z' m io T ch ci P k' S'=>?_;obtain⟨m,W⟩:=m;obtain⟨o,F,R⟩:=io;have L:L2.Inv X pins σ H' s':=ci s'.heap (.refl ..);have I2:L2.Inv X (pins++[(f,o)]) σ H' s':=L.wW λq c=>by
  obtain z|z:=i3.1 c
  .exact L.pin q (js _ z)
  .have e:q=(f,o):=by simpa using z
   subst e;exact⟨F,T,ch.1,ch.2.1,R⟩
 show wpAny _ X.A (assign (.Name y py) X.env (.ref D')) _ _ s';have hg:PG X (.Name y py) (JZ i):=tM hN hi V l;refine f6 (hg _ s' σ H' (.ref D') (.ref D') (λa O=>a=σ.set i (some (.ref D'))/\O=H') I2 rfl ⟨rfl,rfl⟩) λ_ B zz=>?_;obtain⟨a,O,u,e8,t⟩:=zz;subst e8;subst t;obtain⟨r,j,_⟩:=u.pin (f,o) (js _ (js _ Wm));refine⟨m,W.at' λo' G=>by rw[F]at G;cases G;exact r,λh' Yh=>?_⟩;have I9:L2.Inv X pins (σ.set i (some (.ref D'))) _ B:=u.wW λq c=>u.pin q (js _ (j1 _ c));have x:=I9.turned (it:=f) (h':=h') (t':=B.toks) (λb o n e=>(Yh.2 b n).trans e) j ch.1.symm.symm (.inr ch.2.2.1) ch.2.2.2.1 ch.2.2.2.2;exact⟨_,_,x,M.nx _ _ _ Z' P (S'.set Y) k⟩
variable{pos':Pos}
def alf{D:gF}(c:Gx X)(n:Ln X i x)(sc:QcB)(h:Qdg)
  (f:(δc=Ff δ1 ix/\∀d∈ds,(g d).clean=true)\/δc=Bu δ1 ix) (inner:Qdv) (hlen:QbB) (k:eW X CL b gO (δ1.set i (some (.lst ((ds.filter p).map g)))) D) (e:Qbu)
  (a:swapsWith Qeq (some QbA) pos.line X.env=pure true\/swapsWith Qeq (some QbA) pos.line X.env=pure false) (hs:AN X iter:=by intro _;rfl) :
  eW X CL b (.Assign [.Name x pos'] Qeq pos::gO) δ D:=by
 obtain a|a:=a
 .exact cZ (afT i sc c.calm h f inner hlen k e c.nd n.hi n.loc n.hf a hs)
 .exact cZ (aa7 i (Ft sc c.calm h f inner hlen hs) k e c.nd n.hi n.loc a n.hf)
noncomputable def OC(scope:Scope)(xs a:At):Bool:=
 scope.kind == .function&&xs.all (λy=>scope.names.lookup y==some .local)&&a.all (λy=>scope.names.lookup y==some .free)&&decide ((xs++a).Nodup) &&
  scope.names.all λy=>y.2 != .cell&&(y.2 != .local || scope.names.lookup y.1==some .local)&&(y.2 != .free || (a.contains y.1&&scope.names.lookup y.1==some .free))
theorem afU{d:At}(c:z6 X ix d)(ok:OC scope xs d=true):tT X scope xs (xs++d) ix:=by
 unfold OC at ok;simp only[lx,vr,vu,sy]at ok;obtain⟨⟨⟨⟨h1,h2⟩,h⟩,g⟩,b⟩:=ok;have j:∀y∈d,X.env.kindOf y=some .cell\/X.env.kindOf y=some .free:=by
  clear h g b
  induction c with
  | nil=>intro y a;cases a
  | cons n k r f=>
   intro y a;obtain e|a:=fO.1 a
   .subst e;exact k
   simp_all
 refine⟨h1,λy a e=>?_,g,λy a e=>?_,h2,λy a e=>?_,?_,λi hi=>?_⟩
 .have:=(b y a).1.1;rw[e]at this;simp at this
 .have:=(b y a).1.2;rw[e]at this;simpa using this
 .have:=(b y a).2;simp_all
 .congr 1;clear h g b j
  induction c with
  | nil=>rfl
  | cons n k r f=>rw[nc,n.hi,← f]
 .clear g b j
  induction c with
  | nil=>cases hi
  | @cons l y ix ys n k r f=>
   obtain e|hi:=fO.1 hi
   .subst e;exact⟨y,n.hi,h y fX⟩
   .exact f (λz hz=>h z (i8 _ hz)) hi
variable{C:Addr}
def SK(h1:Nc[i]? = some x)(h2:QdW)(hd:AD x:=by decide)(kH:AE x:=by decide):Ln Qa8 i x:=
 ⟨aa9 h1 h2 hd kH,.inl (E5 h2),.inr (E5 h2)⟩
def Ite(K:Frag)(a:Addr):It:=
 ⟨λi H=>∃xs x,nT K H a xs/\xs[i]? = some x,λi H x H'=>∃T y,H T=none/\x=.ref T/\(∀xs,nT K H a xs->xs[i]? = some y)/\H'=upd H T (.tup [.int i,y]),λi H=>∃xs,nT K H a xs/\xs.length<=i⟩
variable{elts:Cc}{kk:Nat}{pt:Pos}
theorem Yk(a e it:Addr)(T:e≠it):Turn P w K (.Tuple elts kk pt) (Ite K a) [e,it] e (λi h=>(∃old,PySem.IsEnum h e it i old)/\h.IsListIter it a i) where
 mem:=by simp
 obj:=λi h st b g=>by
  obtain⟨⟨old,he⟩,hit⟩:=st;obtain z|z:=fO.1 g
  .subst z;exact⟨_,he,λv z=>by
    have U:Data.fields _=Data.cell v:=z;cases U⟩
  .have z:b=it:=by simpa using z
   subst z;obtain⟨o,e,c,d⟩:=hit;exact⟨o,e,λv z=>by rw[d]at z;cases z⟩
 keep:=λi h h' st k=>by
  obtain⟨⟨old,he⟩,hit⟩:=st;exact⟨⟨old,k e Wm _ he⟩,hit.at λo q=>k it Wm o q⟩
 item:=by
  intro X O hw R f i pins s σ H E I hf st J;subst O hw R;obtain⟨xs,x,A,D⟩:=J;obtain⟨its,C,p,hz⟩:=I.list A;obtain⟨u,Y,V⟩:=C.get D;obtain⟨⟨old,he⟩,hit⟩:=st;have t:=hf e Wm;have fi:=hf it Wm;have l:H s.heap.objs.size=none:=I.f7.fresh (i5 _);have B:=I.Iq (i5 s.heap.objs.size) l;refine PySem.wpAny_pyNext_enum_item he hit p.isList (x:=u) (by simpa using Y) T λh' G S hT hsz Z=>⟨_,rfl,?_⟩;refine PySem.wpAny_letOwnedTupleGo_enum G λh2 L y=>?_;replace y:Heap.SameBut e h' h2:=y;have eT:e<s.heap.objs.size:=ke he;have keep:∀b o,b≠e->b≠it->s.heap.get? b=some o->h2.get? b=some o:=λb o h1 h3 q=>(y.2 b h1).trans (Z b o h1 h3 q);have N:h2.get? s.heap.objs.size=some {cls:=.type "tuple",data:=.seq #[.int i s.toks,u]}:=(y.2 _ (Nat.ne_of_gt eT)).trans hT;have j:∀b o,H b=some o->b≠e/\b≠it/\b≠s.heap.objs.size:=λb o q=>⟨λz=>(by rw[z,t.1]at q;cases q),λz=>(by rw[z,fi.1]at q;cases q),λz=>(by rw[z,l]at q;cases q)⟩;have I':L2.Inv X pins σ (upd H s.heap.objs.size (.tup [.int i,x])) {s with heap:=h2,toks:=s.toks+1}:=by
   refine I.step (g':=s.gens) (d':=s.drawn) (ch:=[e,it,s.heap.objs.size]) (λb g=>?_) (λb o _ _ f q _=>?_) (λb o _ _ f q _=>⟨o.slots,?_⟩) (λb o f q n=>?_) (λb o f q=>⟨o,?_⟩) (λb ys q=>?_) (λb o u q=>?_) (λb ps q=>⟨#[],?_⟩) (λm hm=>?_) (λb o q=>?_) I.bare
   .obtain z|g:=fO.1 g
    .subst z;exact⟨t.2.2.2.1,t.2.1,t.2.2.2.2.1,t.2.2.2.2.2⟩
    .obtain z|g:=fO.1 g
     .subst z;exact⟨fi.2.2.2.1,fi.2.1,fi.2.2.2.2.1,fi.2.2.2.2.2⟩
     .have z:b=s.heap.objs.size:=by simpa using g
      subst z;exact⟨B.2.2.2.1,B.2.1,B.2.2.2.2.1,B.2.2.2.2.2⟩
   .exact keep b o (λz=>f (by simp[z])) (λz=>f (by simp[z])) q
   .exact keep b o (λz=>f (by simp[z])) (λz=>f (by simp[z])) q
   .rw[aq (λz=>f (by simp[z]))];exact n
   .exact keep b o (λz=>f (by simp[z])) (λz=>f (by simp[z])) q
   .rw[aq (j b _ q).2.2];exact q
   .rw[aq (j b _ q).2.2];exact q
   .rw[aq (j b _ q).2.2,q];simp
   .obtain⟨o,es,ep,G,r⟩:=hm;exact⟨o,es,ep,keep _ o (mB t.2.1) (mB fi.2.1) G,r⟩
   .by_cases g:b=s.heap.objs.size
    .subst g;rw[aV]at q;cases q;exact⟨l0 (cL QaV),[.int i s.toks,u],.cons ⟨s.toks,rfl⟩ (.cons V .nil),⟨_,N,rfl,_,rfl⟩⟩
    .rw[aq g]at q;refine(I.f7 b o q).EW (λc v f z=>keep c v ?_ ?_ z) (λc z=>by rw[aq (j c _ z).2.2];exact z) (λc ys z=>by rw[aq (j c _ z).2.2];exact z) λc ys z=>by rw[aq (j c _ z).2.2];exact z
     .obtain z|z:=f
      .rw[z];exact(j b _ q).1
      .exact(j c _ z).1
     .obtain z|z:=f
      .rw[z];exact(j b _ q).2.1
      .exact(j c _ z).2.1
  have ei:((i+1:Nat):Int)=(i:Int)+1:=by lia
  refine⟨.ref s.heap.objs.size,_,I',rfl,⟨_,x,l,rfl,λys W=>by rw[I.EY W A];exact D,rfl⟩,⟨⟨u,by rw[ei];exact L⟩,S.at λo q=>(y.2 it (mB T)).trans q⟩,λb g=>?_⟩;have M:=hf b g;obtain⟨o,F,_⟩:∃o,s.heap.get? b=some o/\True:=by
   obtain z|z:=fO.1 g
   .subst z;exact⟨_,he,trivial⟩
   .have z:b=it:=by simpa using z
    subst z;obtain⟨o,q,_⟩:=hit;exact⟨o,q,trivial⟩
  rw[aq (k4 (ke F))];exact M.1
 done:=by
  intro X O hw R f i pins s σ H E I hf st J;subst O hw R;obtain⟨xs,A,D⟩:=J;obtain⟨its,C,p,hz⟩:=I.list A;obtain⟨⟨old,he⟩,hit⟩:=st;obtain⟨f0,f1,f2,f3,f4,f5⟩:=hf it Wm;have hl:=C.length;exact PySem.wpAny_pyNext_enum_end (I.ok.hd f) he hit p.isList WE λh' eb=>⟨rfl,I.turned (t':=s.toks) (λb o g e=>eb b o g e) f0 f1 f3 f4 f5⟩
 self:=λ_ _ _ _ _ st h=>by
  obtain⟨⟨old,he⟩,_⟩:=st;exact PySem.wpAny_pyIter_enum he h
def apG(K:Frag)(ta:TA):TI:=λσ H R=>ta σ H λvs H1=>∃a xs,vs=[.ref a]/\nT K H1 a xs/\R (Ite K a) H1
theorem afV{a:Expr}{ta:TA}{p:Pos}(k:Gl X "enumerate")(hm:X.mg "enumerate" = none)(n:PA X [a] ta)(hs:AC X a []):PI X (.Tuple elts kk pt) (.Call (.Name "enumerate" p) [a] [] pos) (apG X.K ta):=by
 intro pins s σ H R I h;refine Call_ (qV I k hm boot_enumerate (vT (f6 (n pos pins s σ H _ I h) λus s1 zz=>?_) hs rfl));obtain⟨vs,H1,c,f,g⟩:=zz;obtain⟨l,xs,e,i,q⟩:=g;subst e;cases f with
 | cons r d=>
  cases d;cases r;obtain⟨its,t,p,hz⟩:=c.list i;refine PySem.call_enumerate_list p.isList λh' he hit hsz j=>?_;have o:=c.kept (t':=s1.toks) j;refine PySem.wpAny_pyIter_enum he ?_;refine⟨ _,_,_,_,H1,rfl,o,Yk l _ _ (Nat.succ_ne_self _),⟨⟨_,he⟩,hit⟩,λb m=>?_,q⟩;obtain z|z:=fO.1 m
  .subst z;exact c.Iq (nZ _) (c.f7.fresh (nZ _))
  .have z:=by simpa using z
   subst z;exact c.Iq (i5 _) (c.f7.fresh (i5 _))
noncomputable def Fv(ds:BA):BA:=(List.range ds.length).map λ(i:Nat)=>.tup [.int i,ds.getD i .non]
def Kf(ds:BA):(Fv ds).length=ds.length:=by simp[Fv]
def Yl{ds:BA}{d:D}(h:ds[i]? = some d):(Fv ds)[i]? = some (.tup [.int i,d]):=by
 have hi:=(lL.1 h).1;unfold Fv;rw[ll,oD hi];show some (D.tup _)=_;rw[lj,h];rfl
variable{ds:BA}
theorem afW(hm:X.mg "enumerate" = none)(h:QdR)(p:Gl X "enumerate")(hs:Qah:=by exact aW rfl):tw X CL b (.Tuple elts kk pt) (.Call (.Name "enumerate" pr) [e] [] pc) δ (Fv ds) δ1:=by
 refine⟨_,afV p hm QaE hs,λH Z σ ts vs R S k=>h H Z σ ts vs _ S λv H1 Z1 l k1 f=>?_⟩;obtain⟨fp,gp,_,r,_,_⟩:=f.rep;cases r with
 | cons r _=>
  replace r:=r.Iu;obtain⟨rfl,r⟩:=r;obtain⟨a,us,rfl,c,g⟩:=r.gR;have o:=g.length;refine⟨a,us,rfl,f.zh.seq c,k _ _ ⟨Z1,l,k1,f.pop,λi H2 s hi=>?_,λi Z2 H2 x H' s1 s2 tp hi m=>?_,λH2 s=>?_⟩⟩
  .rw[Kf]at hi;have t:i<us.length:=o▸hi;exact⟨us,_,s.seq c,l9 t⟩
  .obtain⟨T,y,q,rfl,n,rfl⟩:=m;obtain⟨d,hd,rd⟩:=g.X3 (n us ((s1.trans s2).seq c));have j:=LC.tup (xs:=[.int i,y]) s2 tp q;exact⟨_,_,Yl hd,j,.tup (zK.of aV) (.cons (.int _) (.cons ((rd.mono s1).mono j.z) .nil))⟩
  .rw[Kf];exact⟨us,s.seq c,by simp_all ⟩
noncomputable def insI(x:Int):AT->AT
 | []=>[x]
 | y::l=>if x<=y then x::y::l else y::insI x l
def sortI:AT->AT
 | []=>[]
 | x::l=>insI x (sortI l)
theorem insI_perm(x:Int):∀l,(insI x l).Perm (x::l)
 | []=>.refl _
 | y::l=>by
  rw[insI];split
  .exact .refl _
  .exact((insI_perm x l).cons y).trans (.swap x y l)
theorem sortI_perm:∀l,(sortI l).Perm l
 | []=>.refl _
 | x::l=>(insI_perm x _).trans ((sortI_perm l).cons x)
def pN{x:Int}:x∈sortI l↔x∈l:=(sortI_perm l).mem_iff
def pP(l:AT):(sortI l).length=l.length:=(sortI_perm l).length_eq
theorem C3(x:Int):∀{l:AT},l.Pairwise (· <= ·)->(insI x l).Pairwise (· <= ·)
 | [],_=>rh _ _
 | y::l,h=>by
  rw[insI];obtain⟨h1,h2⟩:=l7.1 h;split
  .rename_i e;refine l7.2 ⟨λz hz=>?_,h⟩;obtain rfl|hz:=fO.1 hz
   .exact e
   .exact Int.le_trans e (h1 z hz)
  .refine l7.2 ⟨λz hz=>?_,C3 x h2⟩;obtain rfl|hz:=fO.1 ((insI_perm x l).mem_iff.1 hz)
   .lia
   simp_all
theorem oQ:∀l,(sortI l).Pairwise (· <= ·)
 | []=>.nil
 | x::l=>C3 x (oQ l)
theorem C4:∀{a b:AT},a.Perm b->a.Pairwise (· <= ·)->b.Pairwise (· <= ·)->a=b
 | [],b,p,_,_=>(List.nil_perm.1 p).symm
 | x::a,[],p,_,_=>absurd p.length_eq Wm
 | x::a,y::b,p,d,c=>by
  obtain⟨a1,a2⟩:=l7.1 d;obtain⟨b1,b2⟩:=l7.1 c;have e:x=y:=by
   have h1:=p.mem_iff.1 fX;have h2:=p.mem_iff.2 fX;obtain e|h1:=fO.1 h1
   .exact e
   .obtain e|h2:=fO.1 h2
    .exact e.symm
    .exact Int.le_antisymm (a1 y h2) (b1 x h1)
  subst e;rw[C4 (List.Perm.cons_inv p) a2 b2]
def zZ{z:AT}(p:z.Perm l)(s:z.Pairwise (· <= ·)):z=sortI l:=C4 (p.trans (sortI_perm l).symm) s (oQ l)
def abp(s:l.Pairwise (· <= ·)):sortI l=l:=(zZ Ql s).symm
theorem tU:∀{us:B0} {ns:AT},IntsAre us ns->Vals QbL us
 | _,_,.nil=>.nil
 | _,_,.cons n t r=>.cons ⟨t,rfl⟩ (tU r)
theorem LD:r6 X (.builtin "sorted") (λxs H Q=>∃p ns,xs=[.ref p]/\nT X.K H p (ns.map .int)/\ns.length<64/\∀l,H l=none->Q (.ref l) (upd H l (.lst ((sortI ns).map .int)))):=by
 intro pins s σ H xs us Q I r h;obtain⟨p,ns,rfl,d,f,q⟩:=h;obtain⟨u,rfl,b⟩:=vals1 r;cases b;obtain⟨its,a,pl,hz⟩:=I.list d;have hlen:=a.length;rw[e7]at hlen;refine sorted_ints pl.isList (intsAre_of a) Wc λout c a1 a2 a3=>?_;obtain⟨e,he⟩:=sortedAll_at _ its out;have e2:=zZ a2 a3;subst e2;refine⟨.ref _,_,I.laid (λ_ _=>sortedAll_old) (nZ _) (show gW _ X.w _ _ _ (.lst _) from⟨?_,_,e,tU a1,?_⟩),rfl,q _ (I.f7.fresh (nZ _))⟩
 .rw[e7,pP];simp_all
 omega
def tV:bootBuiltins "sorted" = some (.builtin "sorted"):=by decide +kernel
theorem xj(h:az K CL Z (l.map D.int) us):us=l.map V.int:=by
 refine az.ind (P:=λds us=>∀l,ds=l.map D.int->us=l.map V.int) ?_ ?_ h l rfl
 .simp_all
 .intro d v ds vs r _ i l e;cases l with
  | nil=>cases e
  | cons a l=>
   injection e with e1 e2;subst e1;rw[i l e2];cases r;rfl
theorem ints_rep{K:Frag}{Z:Hp}:∀(l:AT),az K CL Z (l.map D.int) (l.map V.int)
 | []=>.nil
 | _::l=>.cons (.int _) (ints_rep l)
def tW(hm:X.mg "sorted" = none)(h:dM X CL b e δ (.lst Qbt) δ1)(j:l.length<64)(m:Gl X "sorted")(hs:Qah:=by exact aW rfl):cO X CL b (.Call (.Name "sorted" pp) [e] [] pos) δ (.lst (((sortI l).map D.int).map T.sh)) δ1:=λH Z σ ts vs Q S k=>
 cM (sf LD m hm tV QaE (he:=hs)) (h H Z σ ts vs _ S λv H1 Z1 d k1 o r=>by
  obtain⟨a,us,rfl,g,f⟩:=r.gR;have:=xj f;subst this;refine⟨a,l,rfl,g,j,λp i=>?_⟩;obtain⟨c,n⟩:=(bB.oH (ints_rep _) o).j4 (g0:=[]) Wm i;exact k _ _ _ d Qb3 n)
def Ym(j:QaK):r6 X (.builtin "sum") (λxs H Q=>∃(p:Addr) (ns:AT),xs=[.ref p]/\nT X.K H p QbL/\Q (.int ns.sum) H):=by
 intro pins s σ H xs us Q I r h;obtain⟨p,ns,rfl,g,q⟩:=h;obtain⟨u,rfl,d⟩:=vals1 r;cases d;obtain⟨its,f,pl,hz⟩:=I.list g;have hi:=intsAre_of f;obtain⟨xs,a⟩:=hi.allInts.items;have b:=hi.numsOf;have c:=pl.isList;rw[a]at c;refine sum_intListG (I.ok.hd j) c λh' tk t' i=>⟨ _,H,I.kept i,?_,q⟩;refine⟨t',?_⟩;have e:its=(intItems xs).toList:=by rw[← a]
 rw[e,nums_intItems]at b;rw[preSum_eq,List.take_of_length_le Wm,b]
def Yn:bootBuiltins "sum" = some (.builtin "sum"):=by decide +kernel
def afX(g:Gx X)(hm:X.mg "sum" = none)(h:dM X CL b e δ (.lst Qbt) δ1)(i:Gl X "sum")(hs:Qah:=by exact aW rfl):cO X CL b (.Call (.Name "sum" pp) [e] [] pos) δ (.sh (.int l.sum)) δ1:=λH Z σ ts vs Q S k=>
 cM (sf (Ym g.calm) i hm Yn QaE (he:=hs)) (h H Z σ ts vs _ S λv H1 Z1 c k1 j r=>by
  obtain⟨a,us,rfl,f,d⟩:=r.gR;have:=xj d;subst this;exact⟨a,l,rfl,f,k _ H1 Z1 c k1 (j.push (.int _))⟩)
def SM:typeLookup (.type "list_reverseiterator") "__len__" = pure none:=by kernel_rfl
def abq:typeLookup (.type "list_reverseiterator") "__length_hint__" = pure (some (.builtin "list_reverseiterator.__length_hint__")):=by kernel_rfl
def abr{l:Addr}{i:Int}{Q:Bool->Shared->Prop}(e:s.heap.IsRevIter it l i)(h:Q false s):wpAny Qak A (Builtin.List.listLengthHint Qbw) Q E s:=by
 unfold Builtin.List.listLengthHint;refine i9 (wpAny_specialOf e.typeIs SM ?_);refine i9 (wpAny_specialOf e.typeIs abq ?_);generalize a:("list_reverseiterator.__length_hint__":String)=d
 wp_delta
 rw[show splitId d=some ("list_reverseiterator","__length_hint__") from by subst a;decide +kernel];subst a;refine i9 (wpAny_isInstance (T:="list_reverseiterator") (b:=true) e.typeIs (by rw[isSubtype_type];kernel_rfl) ?_);refine wpAny_ite_split (λc=>absurd c Wl) (λ_=>?_);refine wpAny_ite_split (λ_=>?_) (λc=>absurd We c);refine wpAny_ite_split (λc=>absurd c We) (λ_=>?_);exact kA h
variable{items:CI}
theorem SN{l:Addr}(E:A.handled=none)(n:Qet)(D:s.heap.IsList l items)(C:l≠it)(hlen:items.size<=sizeLine)(S:Addr)(res:Value)(c₀:Nat)
  (y:s.heap.get? S=some {cls:=.type "list",data:=.seq #[] c₀}) (d:S≠it) (k:S≠l)
  (G:∀h' tk m g,(∀b o,b≠S->b≠it->s.heap.get? b=some o->h'.get? b=some o)->h'.get? S=some {cls:=.type "list",dict:=none,data:=.seq m g,slots:=#[]} →
   ItemsOf (λi v=>items[items.size-1-i]? = some v) m items.size->R (.ok (.ret res)) {s with heap:=h',toks:=tk}) :
  wpAny Qak A.in1 (Builtin.List.listExtendWith (.ref S) Qbw res)
   (λfin s'=>match fin with | .done f=>R (.ok f) s' | .again g=>g.quiet=true/\codeAny (model prog w) A g R s') (λe s'=>R (.error e) s') s:=by
 have W:=(Walks.listRev (prog:=prog) (w:=w) (A:=A.in1) E it l C items).toS;have u:S∉[it,l]:=λh=>by
  obtain e|h:=fO.1 h
  .exact d e
  .exact k (j2.1 h)
 have e0:(items.size:Int)-1=(items.size:Int)-1-((0:Nat):Int):=by lia
 have key:∀(h:Heap) (c₁ tk:Nat),(∀b o,b≠S->s.heap.get? b=some o->h.get? b=some o) →
   h.get? S=some {cls:=.type "list",data:=.seq #[] c₁}->codeAny Qak A (.builtin "list.extend.loop" ⟨[.ref S,.ref it,res],[]⟩) R {s with heap:=h,toks:=tk}:=by
  intro h c₁ tk r c;have hit:h.IsRevIter it l ((items.size:Int)-1-((0:Nat):Int)):=e0▸n.at λo q=>r it o (mB d) q;have p:h.IsList l items:=D.at λo q=>r l o (mB k) q;refine codeAny_extend_loopS W hlen S u res items.size 0 _ #[] c₁ rfl (kr _) ⟨kr _,hit,p⟩ c (ItemsOf.nil _) λs' m g hm x J=>?_;rw[Moved.eq_with hm];refine G s'.heap s'.toks m g (λb o j t e=>hm.heap b o (λz=>?_) (r b o j e)) x J;obtain I|z:=fO.1 z
  .exact j I
  .exact t (j2.1 z)
 unfold Builtin.List.listExtendWith;refine i9 (wpAny_typeOf (T:="list_reverseiterator") n.typeIs ?_);have h1:Builtin.List.listSameRef (.ref S) Qbw=false:=by simp[Builtin.List.listSameRef,d]
 have h2:(Value.type "list_reverseiterator" == Value.type "list")=false:=by decide
 have H:(Value.type "list_reverseiterator" == Value.type "tuple")=false:=by decide
 simp only[h1,h2,H,Bool.or_false,oa,n2];refine i9 (wpAny_pyIter_revIter n ?_);refine i9 (x1 (abr n ?_));refine wpAny_ite_split (λ_=>?_) (λ_=>kA ⟨plainId_quiet F.plain_extend_loop _,key _ c₀ _ (λb o _ e=>e) y⟩);refine i9 (wpAny_rule ?_);refine i9 ?_;show wpAny _ _ (updateSeq S (·.push .none) >>= λ_=>updateSeq S (·.pop)) _ _ _;refine i9 (wpAny_updateSeq y rfl ?_);have B:=Jn (Obj.mapSeq (·.push Value.none)) y rfl;refine wpAny_updateSeq (hz:=by seq_fits) B rfl ?_;have a:=Jn (Obj.mapSeq (·.pop)) B rfl;refine kA ⟨plainId_quiet F.plain_extend_loop _,key _ _ _ (λb o j e=>?_) a⟩;exact(Fs _ _ (mB j)).trans ((Fs _ _ (mB j)).trans e)
def IG{l:Addr}(u:A.handled=none)(p:Qet)(r:s.heap.IsList l items)(n:l≠it)(hlen:items.size<=sizeLine)(S:Addr)
  (m:s.heap.get? S=some {cls:=.type "list",data:=.seq #[]}) (d:S≠it) (c:S≠l)
  (x:∀h' tk g a,(∀b o,b≠S->b≠it->s.heap.get? b=some o->h'.get? b=some o)->h'.get? S=some {cls:=.type "list",dict:=none,data:=.seq g a,slots:=#[]} →
   ItemsOf (λi v=>items[items.size-1-i]? = some v) g items.size->R (.ok (.ret .none)) {s with heap:=h',toks:=tk}) :
  wpAny Qak A.in1 (Builtin.«list.__init__» ⟨[.ref S,.ref it],[]⟩)
   (λfin s'=>match fin with | .done f=>R (.ok f) s' | .again a=>a.quiet=true/\codeAny (model prog w) A a R s') (λe s'=>R (.error e) s') s:=by
 refine i9 ?_;unfold Builtin.List.listItems;refine i9 (wpAny_seqItems m rfl (kA ?_));refine i9 (wpAny_updateSeq m rfl ?_);have y:=Jn (Obj.mapSeq (λ_=>(#[]:CI))) m rfl;have Wn:∀b o,b≠S->s.heap.get? b=some o->(s.heap.update S (Obj.mapSeq (λ_=>(#[]:CI)))).get? b=some o:=
  λb o h e=>(Fs _ _ (mB h)).trans e
 refine i9 (wpAny_letGo ?_);refine SN u (p.at λo q=>Wn it o (mB d) q) (r.at λo q=>Wn l o (mB c) q) n hlen S .none _ y d c λh' tk g a t k z=>?_;exact x h' tk g a (λb o h j e=>t b o h j (Wn b o h e)) k z
def II{Q:B2}{l:Addr}(r:A.handled=none)(h:Qet)(j:s.heap.IsList l items)(m:l≠it)(hlen:items.size<=sizeLine)
  (hQ:∀h' tk d g,(∀b o,b≠it->s.heap.get? b=some o->h'.get? b=some o) →
   h'.get? s.heap.objs.size=some {cls:=.type "list",dict:=none,data:=.seq d g,slots:=#[]}->ItemsOf (λi v=>items[items.size-1-i]? = some v) d items.size->Q QcU {s with heap:=h',toks:=tk}) :
  wpAny Qak A (call (.type "list") [.ref it]) Q E s:=by
 refine callType_codes (Q₁:=λobj a=>obj=.ref s.heap.objs.size/\a={s with heap:=s.heap.push _}) F.called_list (F.typeCall_list_1 _) F.entry_list_init
  (code_list_new _ ⟨rfl,rfl⟩) λobj a c=>?_
 obtain⟨rfl,rfl⟩:=c;have k:(s.heap.push _).get? s.heap.objs.size=some {cls:=.type "list",data:=.seq #[]}:=mi _ rfl;have hit:it<s.heap.objs.size:=by obtain⟨o,e,_⟩:=h;exact ke e
 have n:l<s.heap.objs.size:=by obtain⟨o,e,_⟩:=j;exact ke e
 refine⟨⟨_,k,rfl⟩,F.args_list_init_2 _ _,IG (A:=A.in1) r (h.at λo q=>kv _ q) (j.at λo q=>kv _ q) m hlen _ k (Nat.ne_of_gt hit) (Nat.ne_of_gt n) λh' tk d g p f u=>?_⟩;exact⟨rfl,hQ h' tk d g (λb o t e=>p b o (k4 (ke e)) t (kv _ e)) f u⟩
theorem Yo{acc:CI}(h:ItemsOf (λi v=>items[items.size-1-i]? = some v) acc items.size):acc.toList=items.toList.reverse:=by
 obtain⟨h1,h2⟩:=h;apply vv;intro j;by_cases a:j<items.size
 .rw[List.getElem?_reverse (‹_›)];simp_all
 simp_all
theorem Vals.rev:∀{xs:BY} {us:B0},Vals xs us->Vals xs.reverse us.reverse
 | [],_,.nil=>.nil
 | _::_,_,.cons r a=>by
  rw[mM,mM];exact Vals.append (Vals.rev a) (.cons r .nil)
def tLR(K:Frag)(ta:TA):TE:=λσ H Q=>ta σ H λvs H1=>∃a xs,vs=[.ref a]/\nT K H1 a xs/\∀l,H1 l=none->Q (.ref l) (upd H1 l (.lst xs.reverse))
def SQ{x:Expr}{ta:TA}{p q pq:Pos}(C:QaK)(i:Gl X "list")(G:X.mg "list" = none)(g:Gl X "reversed")(d:X.mg "reversed" = none)(D:PA X [x] ta)(hs:AC X x [])
  (t:starEach [.Call (.Name "reversed" q) [x] [] pq] X.env=(false,eval (.Call (.Name "reversed" q) [x] [] pq) X.env)::starEach [] X.env):PE X (.Call (.Name "list" p) [.Call (.Name "reversed" q) [x] [] pq] [] pos) (tLR X.K ta):=by
 intro pins s σ H Q I h;refine tf (qV I i G aX ?_ Wl Wl);refine vT ?_ t rfl;rw[t];show wpAny _ _ (spliced ((false,eval (.Call (.Name "reversed" q) [x] [] pq) X.env)::backTo pos Qc1)) _ _ s;refine Calls.spliced_cons ?_;refine Call_ (qV I g d boot_reversed (vT (f6 (D pq pins s σ H _ I h) λus s1 zz=>?_) hs rfl));obtain⟨vs,H1,a,y,z⟩:=zz;obtain⟨l,xs,e,A,q⟩:=z;subst e;cases y with
 | cons r v=>
  cases v;cases r;obtain⟨its,m,p,hz⟩:=a.list A;have f:=m.length;refine PySem.call_reversed_list p.isList ?_;refine Calls.spliced_nil ?_;have E:l<s1.heap.objs.size:=by obtain⟨o,e,_⟩:=p.isList;exact ke e
  have st:PySem.Heap.IsRevIter (s1.heap.push QdB) s1.heap.objs.size l ((its.toArray.size:Int)-1):=⟨_,mi _ rfl,rfl,rfl⟩;refine II (s:={s1 with heap:=s1.heap.push QdB}) (a.ok.hd C) st (p.isList.at λo q=>kv _ q) (k4 E) (by rw[oy,← f];exact hz) λh' tk c n B k J=>?_;have hsz:(s1.heap.push QdB).objs.size=s1.heap.objs.size+1:=Heap.size_push ..;have j:h'.get? (s1.heap.objs.size+1)=some {cls:=.type "list",dict:=none,data:=.seq c n,slots:=#[]}:=hsz▸k;have F:c.toList=its.reverse:=by simpa using Yo J
  show EP X pins σ Q (.ref (s1.heap.push QdB).objs.size) _;rw[hsz];refine⟨.ref (s1.heap.objs.size+1),_,a.laid (t':=tk) (λb u e=>B b u (k4 (ke e)) (kv _ e)) (nZ _) (show gW X.prog X.w _ _ _ (.lst xs.reverse) from⟨by rw[ti];exact hz,its.reverse,n,Vals.rev m,?_⟩),rfl,q _ (a.f7.fresh (nZ _))⟩;have e2:c=its.reverse.toArray:=by rw[← F]
  rw[← e2];exact j
variable{pq:Pos}{ds:BA}
theorem az.rev{ds:BA}(r:az K CL Z ds us):az K CL Z ds.reverse us.reverse:=by
 have go:∀{ds:BA} {us:BY} {es:BA} {ws:BY},az K CL Z ds us->az K CL Z es ws->az K CL Z (ds.reverse++es) (us.reverse++ws):=by
  intro ds us es ws r
  induction ds generalizing us es ws with
  | nil=>cases r;simp_all
  | cons d ds c=>
   cases r with
   | cons b a=>
    intro q;rw[mM,mM,jw,jw];exact c a (.cons b q)
 simpa using go r .nil
def Fw(g:Gx X)(s:X.mg "list" = none)(a:X.mg "reversed" = none)(h:QbT)(hi:QbE)(f:Gl X "list")(d:Gl X "reversed")(hs:Qah:=by exact aW rfl)
  (q:starEach [.Call (.Name "reversed" pq) [e] [] pr] X.env=(false,eval (.Call (.Name "reversed" pq) [e] [] pr) X.env)::starEach [] X.env:=by exact aW rfl):cO X CL b (.Call (.Name "list" pp) [.Call (.Name "reversed" pq) [e] [] pr] [] pos) δ (.lst (ds.reverse.map T.sh)) δ1:=λH Z σ ts vs Q S k=>
 cM (SQ g.calm f s d a QaE hs q) (h H Z σ ts vs _ S λv H1 Z1 m k1 j r=>by
  obtain⟨_,_,rfl,n,i⟩:=r.gR;refine⟨_,_,rfl,n,λl o=>?_⟩;obtain⟨c,p⟩:=(bB.oH (az.rev (az.tQ j.tp hi i)) j).j4 (g0:=[]) (by simp[i.length]) o;exact k _ _ _ m Qb3 p)
theorem j5{f:α->β}{l:Q3}{d:β}(h:(l.map f)[j]? = some d):∃x,d=f x/\l[j]? = some x/\x∈l/\j<l.length/\l.drop j=x::l.drop QA/\l.take QA=l.take j++[x]:=by
 rw[ll]at h;cases a:l[j]? with
 | none=>rw[a]at h;cases h
 | some x=>
  rw[a]at h;cases h;have b:=(lL.1 a).1;have e:=(lL.1 a).2;exact⟨x,rfl,rfl,l3 a,b,by rw[JP b,e],by rw[ri,a];rfl⟩
noncomputable def D.SR:L3.D->L3.D
 | .tup (a::_)=>a
 | d=>d
noncomputable def D.at2:L3.D->L3.D
 | .tup (_::a::_)=>a
 | d=>d
def Yp(f:α->L3.D)(z:α)(l:Q3):Fv (l.map f)=(List.range l.length).map λ(i:Nat)=>L3.D.tup [.int i,f (l.getD i z)]:=by
 unfold Fv;rw[e7];apply oC;intro i hi;have hi:=mD.1 hi;have:(l.map f).getD i .non=f (l.getD i z):=by
  rw[lj,lj,ll,l9 hi];rfl
 rw[this]
def PV{f:α->L3.D}{l:Q3}(z:α)(hm:X.mg "enumerate" = none)(h:cO X CL b e δ (.sh (.lst (l.map f))) δ1)(a:Gl X "enumerate")(hs:Qah:=by exact aW rfl) :
  tw X CL b (.Tuple elts kk pt) (.Call (.Name "enumerate" pr) [e] [] pc) δ ((List.range l.length).map λ(i:Nat)=>L3.D.tup [.int i,f (l.getD i z)]) δ1:=by
 have:=afW (elts:=elts) (kk:=kk) (pt:=pt) (pr:=pr) (pc:=pc) hm h a hs
 rwa [Yp f z l]at this
theorem C5:∀(l r:AT),PyData.eqvAll (D.vz (l.map L3.D.int)) (D.vz (r.map L3.D.int))=decide (l=r)
 | [],[]=>rfl
 | [],_::_=>rfl
 | _::_,[]=>rfl
 | x::l,y::r=>by
  rw[kx,kx,D.vz,D.vz,PyData.eqvAll,C5 l r,D.toPy,D.toPy,PyData.eqv];by_cases e:x=y
  .subst e;simp
  simp_all
def abt(l r:AT):PC (.lst Qbt) (.lst (r.map .int))=decide (l=r):=by
 unfold PC;rw[D.toPy,D.toPy,PyData.eqv,C5]
variable{ds:BA}
def apM(K:Frag):R2:=λx y H Q=>∃l k xs,x=.ref l/\y=.int k/\nT K H l xs /\ -(2 ^ 63)<=k/\k<2 ^ 63/\xs.length*k.toNat<=sizeLine ∧
 ∀p,H p=none->Q (.ref p) (upd H p (.lst (List.replicate k.toNat xs).flatten))
theorem afY:zL X (binaryOp .Mult) (apM X.K):=by
 intro pins s σ H x y v u Q I j i h;obtain⟨l,k,xs,rfl,rfl,p,h1,h2,hz,q⟩:=h;cases j;obtain⟨t,rfl⟩:=i;obtain⟨its,r,pl,_⟩:=I.list p;have B:=r.length;obtain⟨⟨c1,dd,w,sl⟩,e,o,n,hd⟩:=pl.isList;cases o;cases hd;have hlen:its.toArray.size*k.toNat<=sizeLine:=by simp_all
 have c:¬ its.toArray.size*k.toNat > (2 ^ 63-1) / 8:=by
  have:(sizeLine:Nat)<=(2 ^ 63-1) / 8:=by decide
  lia
 have b:¬ (!Builtin.List.listFitsIndex k)=true:=by
  rw[fitsIndex_both h1 h2];grind
 have z:¬ Builtin.List.listTooLong (its.toArray.size*k.toNat)=true:=by
  rw[E9 hlen];grind
 have d:List.foldl (λg f=>g++f) #[] (List.replicate (if its.toArray.isEmpty=true then 0 else k.toNat) its.toArray)=(List.replicate k.toNat its).flatten.toArray:=by
  have f0:=λm=>by
   have:=foldl_rep its m [];rw[pX]at this;exact this
  rw[f0];cases its with
  | nil=>simp
  | cons a A=>rw[dP Wm]
 refine wpAny_binaryOp_repeat_ref (T:="list") (U:="int") Wl ⟨_,e,rfl⟩ (λs'=>typeIs_int s' k t) noFill_list_mul F.fills_int_mul F.slot_int_rmul repeat_list F.slot_int_index.lookup
  (sx F.slot_int_rmul (typeIs_int s k t) F.entry_int_rmul (F.args_int_rmul_2 _ _) (lm_int_rmul_list_any k t l its.toArray n dd sl)
   ⟨e,rfl,⟨_,e,rfl⟩,sx F.slot_list_mul ⟨_,e,rfl⟩ F.entry_list_mul (F.args_list_mul_2 _ _) (lm_list_mul_any l its.toArray n dd sl k t b c z) ⟨e,?_⟩⟩)
 rw[d];exact⟨.ref _,_,I.O3 (r.rep k.toNat) (by rw[len_rep,Nat.mul_comm];exact hz),rfl,q _ I.fresh⟩
theorem az.rep{K:Frag}{Z:Hp}{ds:BA}{vs:BY}(r:az K CL Z ds vs):∀k:Nat,az K CL Z (List.replicate k ds).flatten (List.replicate k vs).flatten
 | 0=>.nil
 | k+1=>az.app r (az.rep r k)
theorem af0(h1:dM X CL b e1 δ (.lst ds) δ1)(h2:Qdd)(i1:QbE)(k1:-(2 ^ 63)<=k)(k2:k<2 ^ 63)(hz:ds.length*k.toNat<=sizeLine) :
  cO X CL b (.BinOp e1 .Mult e2 pos) δ (.lst ((List.replicate k.toNat ds).flatten.map T.sh)) δ2:=λH Z σ ts vs Q S kk=>
 cM (O7 afY dI dI) (h1 H Z σ ts vs _ S λv1 H1 Z1 i m q l=>h2 H1 Z1 σ ts vs _ q λv2 H2 Z2 h f g j=>by
  have d:=l.mono f;obtain⟨_,_,rfl,e,a⟩:=d.gR;cases j with
  | int=>
   refine⟨_,_,_,rfl,rfl,e,k1,k2,a.length▸hz,λp n=>?_⟩;have rc:=az.rep (az.tQ g.tp i1 a) k.toNat;obtain⟨c,o⟩:=(bB.oH rc g).j4 (g0:=[]) (by rw[e7,rc.length]) n;exact kk _ _ _ (i.trans h) (m.trans (f.trans c)) o)
theorem az.RU{K:Frag}{Z:Hp}:∀l:At,az K CL Z (l.map .str) (l.map V.str)
 | []=>.nil
 | x::l=>.cons Qa0 (az.RU l)
def GT(X:Cx)(x:Str)(l:At):Prop:=∃a,X.mg x=some Qaq/\∀H:Hp,zK X.K H a (l.map V.str)
def PY{l:At}(hm:GT X x l)(c:Qal)(hd:AD x:=by decide):cO X CL b Qau δ (.sh (.tup (l.map .str))) δ:=λH Z σ ts vs Q S kk=>by
 obtain⟨a,hm,hs⟩:=hm;exact cM (K9 (v:=.ref a) c hm rfl hd) (kk _ H Z Ql Ql (S.push (.tup (hs Z) (az.RU l))))
noncomputable def apN{l:At}{od:Db}{its:CI}{sl:Ch}(h1:X.mg x=some Qaq)(h2:X.K.lookup a=some ⟨.type "tuple",od,.seq its n,sl⟩)(c:its.size<=sizeLine)(b:Vals (l.map V.str) its.toList):GT X x l:=
 ⟨a,h1,λH=>.inr ⟨_,its,n,h2,rfl,rfl,c,b⟩⟩
def c0{k:Nat}{A:Type}{arg:Qay}{Pre:Q4}{res:Qab}(a:A)(F:Qdh)(j:Qal)(o:arg a=[])(h:Pre a)(l:QcE)(i:Qbq:=by rfl)
  (g:AD x:=by decide):cO X CL b (.Call QaH [] [] pos) δ (res a) δ:=by
 obtain⟨f,fd,ps,s,m,kk,p⟩:=F.ex;intro H Z σ ts vs Q S k;refine cM (aaI s F.room j m kk p .nil qF g) ?_;refine⟨H,a,.refl _,λ_ _ q _=>q,by rw[o];exact .nil,i,h,S.Pr,λv H' W' fp c ww e nw tp rt nd own=>?_⟩;obtain⟨Z',d,r⟩:=S.back c S.zh ww e nw tp rt nd own (.inr l);exact k v H' Z' d c r
noncomputable def Yq:Key->D
 | .inl i=>.int i
 | .inr x=>.str x
noncomputable def z4(kvs:CC)(k:Key):Option D:=(kvs.find? λa=>decide (a.1=k)).map (·.2)
noncomputable def Kg(kvs:CC)(k:Key)(d:D):CC:=
 if Qdb=true then kvs.map (λa=>if a.1=k then(a.1,d) else a) else kvs++[(k,d)]
variable{d:D}{kvs:CC}
theorem cN.length{kvs:CC}(h:cN K CL Z kvs gs):kvs.length=gs.length:=
 cN.ind (P:=λkvs gs=>kvs.length=gs.length) rfl Qeh h
theorem cN.keys{kvs:CC}(h:cN K CL Z kvs gs):kvs.map (·.1)=gs.map (·.1):=
 cN.ind (P:=λkvs gs=>kvs.map _=gs.map _) rfl (λ{x _ _ _ _} _ _ i=>congrArg _ i) h
theorem cN.val{k:Key}:∀{kvs:CC} {gs:Cf},cN K CL Z kvs gs->(z4 kvs k=none/\vo gs k=none)\/∃d v,z4 kvs k=some d/\vo gs k=some v/\bQ K CL Z d v
 | _,_,.nil=>.inl ⟨rfl,rfl⟩
 | _,_,.cons (x:=x) (d:=d) (v:=v) h r=>by
  by_cases e:x=k
  .exact .inr ⟨d,v,by simp[z4,e],su e,h⟩
  .obtain⟨h1,h2⟩|⟨d',v',h1,h2,a⟩:=cN.val r
   .exact .inl ⟨by simpa [z4,e] using h1,by rw[pU e];exact h2⟩
   .exact .inr ⟨d',v',by simpa [z4,e] using h1,by rw[pU e];exact h2,a⟩
theorem cN.any{k:Key}:∀{kvs:CC} {gs:Cf},cN K CL Z kvs gs->Qdb=(gs.any λa=>decide (a.1=k))
 | _,_,.nil=>rfl
 | _,_,.cons _ r=>by rw[pv,pv,cN.any r]
theorem cN.mE{k:Key}(q:Qct):∀{kvs:CC} {gs:Cf},cN K CL Z kvs gs->cN K CL Z (kvs.map (λa=>if a.1=k then(a.1,d) else a)) (gs.map (λa=>if a.1=k then(a.1,v) else a))
 | _,_,.nil=>.nil
 | _,_,.cons (x:=x) h r=>by
  rw[kx,kx];by_cases e:x=k
  .rw[dX e,dX e];exact .cons q (cN.mE q r)
  .rw[dP e,dP e];exact .cons h (cN.mE q r)
theorem cN.snoc{k:Key}(q:Qct):∀{kvs:CC} {gs:Cf},cN K CL Z kvs gs->cN K CL Z (kvs++[(k,d)]) (gs++[(k,v)])
 | _,_,.nil=>.cons q .nil
 | _,_,.cons h r=>.cons h (cN.snoc q r)
theorem cN.put{k:Key}(q:Qct)(r:cN K CL Z kvs gs):cN K CL Z (Kg kvs k d) (putK gs k v):=by
 unfold Kg putK;rw[r.any];split
 .exact r.mE q
 .exact r.snoc q
theorem bQ.key{k:Key}(r:bQ K CL Z (Yq k) v):v=kV k:=by
 cases k with
 | inl i=>exact r.sc rfl
 | inr x=>exact r.sc rfl
theorem af1(k:Key):bQ K CL Z (Yq k) (kV k):=by
 cases k with
 | inl i=>exact .int i
 | inr x=>exact .str x
theorem PZ{Z:Hp}:∀ks:Dx,az K CL Z (ks.map Yq) (ks.map kV)
 | []=>.nil
 | k::ks=>.cons (af1 k) (PZ ks)
theorem bB.ali{p:Addr}(S:Qam)(d:H p=none):aD H (upd H p (.dK []))/\bB K CL b (upd H p (.dK [])) Z δ σ (.rZ []::ts) (.ref p::vs):=by
 obtain⟨fp,gp,e,r,nd,k⟩:=S.rep;have f:=S.zh.free d;have sh:aD H (upd H p (.dK [])):=aD.upd d;have keep:∀a∈fp++gp,a≠p:=λa c=>by
  have:∃o,H a=some o:=by
   obtain h|h:=i3.1 c
   .exact e.there a h
   .exact r.there a h
  obtain⟨o,q⟩:=this;exact aP q d
 refine⟨sh,⟨⟨fp,_,e.mono Ql (λa c=>aq (keep a (j1 _ c))),.cons (.rZ aV .nil) (r.mono Ql λa c=>aq (keep a (by simp[c]))),?_,λa c=>?_⟩,S.bh.trans sh,S.zz,S.zh.trans sh,S.new,λa o q i=>?_,S.tab⟩⟩
 .refine(List.perm_middle).nodup_iff.2 (nk.2 ⟨λh=>keep p h rfl,nd⟩)
 .obtain h|h:=fO.1 ((List.perm_middle).mem_iff.1 c)
  .subst h;exact⟨f,S.bh.free d⟩
  .exact k a h
 .by_cases c:a=p
  .subst c;rw[aV]at q;cases q;cases i
  .rw[aq c]at q;exact S.tp a o q i
theorem bB.alj(k:Key)(S:bB K CL b H Z δ σ (.sh d::ts) QaN)(hi:δ[i]? = some (some (.rZ kvs))) :
  ∃a gs,σ[i]? = some (some Qaq)/\H a=some (.dK gs)/\gs.length=kvs.length/\bB K CL b (upd H a (.dK (putK gs k v))) Z (δ.set i (some (.rZ (Kg kvs k d)))) σ ts vs:=by
 obtain⟨fp,gp,e,r,nd,kk⟩:=S.rep;obtain⟨v0,f1,f2,l,hv,m,rt,put,_⟩:=e.get hi;subst m;cases rt with
 | @rZ a gs _ q rs=>
  cases r with
  | @cons _ _ _ _ s j g o=>
   replace g:=g.Iu;obtain⟨rfl,g⟩:=g;have ne:∀c∈(f1++l)++j,c≠a:=λc f e=>by
    subst e;have p:((f1++([c]++l))++([]++j)).Perm (c::((f1++l)++j)):=by simp
    exact(nk.1 (p.nodup_iff.1 nd)).1 f
   refine⟨a,gs,hv,q,rs.length.symm,?_⟩;have n:bK K CL (upd H a (.dK (putK gs k v))) Z _ _ [a]:=.rZ aV (rs.put g);have e2:=put Ql (λc f=>aq (ne c (by
    obtain h|h:=i3.1 f
    .simp[h]
    .simp[h]))) n
   rw[f9 hv]at e2;exact S.Sx rfl kk Wm e2 (o.mono Ql λc f=>aq (ne c (by simp[f]))) nd λc f=>f
def Fx(B:QaK):r6 X (.type "list") (λxs H Q=>∃p kvs,xs=[.ref p]/\H p=some (.dK kvs)/\∀l,H l=none->Q (.ref l) (upd H l (.lst ((kvs.map (·.1)).map kV)))):=by
 intro pins s σ H xs us Q I r h;obtain⟨p,kvs,rfl,o,q⟩:=h;obtain⟨u,rfl,g⟩:=vals1 r;cases g;obtain⟨z,hd,ws,rel,dd⟩:=Th I.f7 o;obtain⟨ep,D⟩:=dd.dictAt;refine PySem.W.kdl_call (PySem.W.kdl_dict (knd:=gT X.prog X.w) (kvs:=ws) (ep:=ep) hd) (I.ok.hd B) D (by rw[← rel.length];exact z) λh' tk a C A e d=>?_;have v:a.toList.length=ws.length:=by rw[Array.length_toList];exact d.1
 have hv:Vals ((kvs.map (·.1)).map kV) a.toList:=by
  rw[rel.keys];have gen:∀(l:List (Key×Value)) (m:B0),m.length=l.length->(∀(j:Nat) (x:Value),m[j]? = some x->∃k y,l[j]? = some (k,y)/\(gT X.prog X.w).is k x=true)->Vals ((l.map (·.1)).map kV) m:=by
   intro l
   induction l with
   | nil=>intro m hm _;cases m with
    | nil=>exact .nil
    | cons _ _=>simp at hm
   | cons p l n=>
    intro m hm c;cases m with
    | nil=>simp at hm
    | cons x m=>
     obtain⟨k,y,e1,e2⟩:=c 0 x rfl;simp at e1;subst e1;refine .cons ?_ (n m (by simpa using hm) λj f b=>by simpa using c QA f (by simpa using b));obtain⟨i,t,h1,h2⟩|⟨i,t,h1,h2⟩:=fY e2
     .subst h1 h2;exact⟨t,rfl⟩
     .subst h1 h2;exact⟨t,rfl⟩
  exact gen ws a.toList v λj x b=>d.2 j x (by rw[← IT];exact b)
 refine⟨.ref s.heap.objs.size,_,I.laid (t':=tk) A (Nat.le_refl _) (show gW X.prog X.w _ h' _ (.lst ((kvs.map (·.1)).map kV)) from⟨by simpa using z,a.toList,C,hv,by simpa using e⟩),rfl,q _ (I.f7.fresh (Nat.le_refl _))⟩
section
variable{d:L3.D}{D:gF}{ps:Pos}{kvs:List (Key×L3.D)}{k:Key}
def af2:cO X CL b (.Dict [] [] pos) δ (.rZ []) δ:=λH Z σ ts vs Q S kk=>cM aaY λp a=>by
 obtain⟨c,d⟩:=S.ali a;exact kk _ _ Z Ql c d
theorem alk(k:Key)(s:X.A.units+64<cLine)(n:Vn X i x)(h:Qej)(h2:dM X CL b e2 δ1 (Yq k) δ1)(h1:δ1[i]? = some (some (.rZ kvs)))(m:kvs.length<=1000000)(kk:eW X CL b gO (δ1.set i (some (.rZ (Kg kvs k d)))) D)
  (hs:swapsWith e (some (.Subscript QaH e2 ps)) pos.line X.env=pure false:=by rfl) :
  eW X CL b (.Assign [.Subscript QaH e2 ps] e pos::gO) δ D:=cZ λH Z σ ts vs E S M=>
 tO (afy Wc QcT dI dI hs) (h H Z σ ts vs _ S λv H1 Z1 j k1 f=>by
  obtain⟨v0,e0,_⟩:=f.look h1;refine⟨v0,e0,h2 H1 Z1 σ _ _ _ f λv2 H2 Z2 g k2 r l=>?_⟩;obtain⟨a,gs,c,p,o,q⟩:=r.alj k h1;rw[e0]at c;cases c;exact⟨a,_,rfl,l.key▸CN.k p (by rw[o];exact q7 m Wl),M.nx _ σ _ Z2 (j.trans g) q kk⟩)
def abv(g:Gx X)(hm:X.mg "list" = none)(h:dM X CL b e δ (.rZ kvs) δ1)(j:Gl X "list")(hs:Qah:=by exact aW rfl):cO X CL b (.Call (.Name "list" pp) [e] [] pos) δ (.lst (((kvs.map (·.1)).map Yq).map T.sh)) δ1:=λH Z σ ts vs Q S k=>
 cM (kB (Fx g.calm) j hm aX QaE (he:=hs)) (h H Z σ ts vs _ S λv H1 Z1 d k1 o r=>by
  cases r with
  | @rZ a gs _ m f=>
   refine⟨a,gs,rfl,m,λl i=>?_⟩;rw[← f.keys];obtain⟨c,n⟩:=(bB.oH (PZ _) o).j4 (g0:=[]) Wm i;exact k _ _ _ d Qb3 n)
end
variable{w:V}{Z9:BN}
theorem dz.IH{b:BS}(rt:bK K CL H Z t v b):∀{SV:BN} {gs:Bz} {fp:BS},dz K CL H Z (SV++(f,.sh (.val v))::Z9) gs fp->∃a,dz K CL H Z (SV++(f,t)::Z9) gs a/\a.Perm (fp++b)
 | [],_,_,r=>by
  cases r with
  | @cons _ _ v' _ _ f1 gp h r=>
   replace h:=h.Iu;obtain⟨rfl,h⟩:=h;cases h;exact⟨ _,.cons rt r,mN⟩
 | (y,u)::SV,_,_,r=>by
  cases r with
  | @cons _ _ v' _ _ f1 gp h r=>
   obtain⟨a,c,p⟩:=dz.IH rt r;refine⟨ _,.cons h c,?_⟩;rw[jw];exact p.append_left f1
theorem bB.IH{SV:BN}(S:bB K CL b H Z δ σ (.ins c (SV++(f,.sh (.val v))::Z9)::t::ts) (w::v::vs)):bB K CL b H Z δ σ (.ins c (SV++(f,t)::Z9)::ts) (w::vs):=by
 obtain⟨fp,gp,e,r,nd,k⟩:=S.rep;cases r with
 | @cons _ _ _ _ g1 g2 n m=>
  cases m with
  | @cons _ _ _ _ g3 g l j=>
   obtain⟨a,dx,gs,h,rfl,rfl,q,i⟩:=n.DB;obtain⟨s,d,p⟩:=dz.IH l i;have pm:(fp++((a::s)++g)).Perm (fp++((a::h)++(g3++g))):=by
    refine tc fp ?_;rw[← jw];refine List.Perm.append_right g ?_;simp_all
   exact⟨⟨fp,_,e,.cons (.ins q d) j,pm.nodup_iff.2 nd,λc o=>k c (pm.mem_iff.1 o)⟩,S.bh,S.zz,S.zh,S.new,S.tp,S.tab⟩
def Kt(X:Cx)(CL:BC)(b:Bx)(es:Cc)(δ:BB)(dv:V->BA)(t:T)(δ':BB):Prop:=
 ∀(H Z:Hp) (σ:L2.St) (ts:B1) (vs:BY) (Q:EN),bB X.K CL b H Z δ σ ts vs →
  (∀us H' Z' v,aD Z Z'->aD H H'->bB X.K CL b H' Z' δ' σ (t::ts) QaN->az X.K CL H' (dv v) us->Q us H')->Sn X es σ H Q
theorem T.Fz{f:Str}{v:V}{Z9:BN}(h2:T.fV Z9=true):∀{SV:BN},T.fV SV=true->T.fV (SV++(f,.sh (.val v))::Z9)=true
 | [],_=>‹_›
 | (x,t)::SV,h=>by
  rw[T.fV,lx]at h;rw[n4,T.fV,h.1,T.Fz h2 h.2];rfl
variable{ds:BA}{d:D}{dv:V->BA}
def abw(h:QaL)(r:X4 X CL b es δ1 ds δ2)(hs:notStar e=true:=by rfl):Kt X CL b Qaa δ (λv=>.val v::ds) t δ2:=λH Z σ ts vs Q S k=>
 IA (bZ dI Fb (aW hs)) (h H Z σ ts vs _ S λv H1 Z1 c k1 g=>r H1 Z1 σ _ _ _ g λus H2 Z2 a k2 f d=>k _ H2 Z2 v QbP Qao f (.cons (.val v) d))
def P0(h:dM X CL b e δ d δ1)(r:Kt X CL b es δ1 dv t δ2)(hs:notStar e=true:=by rfl):Kt X CL b Qaa δ (λv=>d::dv v) t δ2:=λH Z σ ts vs Q S k=>
 IA (bZ dI Fb (aW hs)) (h H Z σ ts vs _ S λv H1 Z1 c k1 j g=>r H1 Z1 σ ts vs _ j λus H2 Z2 v2 a k2 i f=>k _ H2 Z2 v2 QbP Qao i (.cons (g.mono k2) f))
variable{A:Type}{k:Nat}{arg:Qay}{Pre:Q4}
theorem mkP{res:A->BN}(a:V->A){SV:BN}(F:Fm X CL x k n arg Pre res)(z:Qal)(h:Kt X CL b Qaa δ dv t δ1)(G:∀v,arg (a v)=dv v)(u:∀v,Pre (a v))(g:∀v,res (a v)=SV++(f,.sh (.val v))::Z9)(B:T.fV SV=true)(D:T.fV Z9=true)(w:∀v,(arg (a v)).length+1=n:=by exactλ_=>rfl)
  (p:AD x:=by decide) (he:Qad:=by exact aW rfl) (hpl:Qap:=by rfl) :
  cO X CL b Qbf δ (.ins x (SV++(f,t)::Z9)) δ1:=λH Z σ ts vs Q S kk=>by
 obtain⟨I,fd,ps,M,E,hm,C⟩:=F.ex;exact cM (Ld M E F.room z hm C .nil qF Fb p he hpl) (h H Z σ ts vs _ S λus H1 Z1 v l k1 d r y dx s c ne=>by
  rw[km];refine⟨H1,H1,a v,y,dx,us,rfl,s,c,ne,rfl,.refl _,λ_ _ q _=>q,Wp,w v,u v,d.Pr,λH' W' fp i ww o nw tp rt nd own=>⟨rfl,?_⟩⟩;obtain⟨Z',m,j⟩:=d.back i d.zh ww o nw tp rt nd own (.inr (by rw[g];exact T.Fz D B));rw[g]at j;exact kk _ H' Z' (l.trans m) (k1.trans i) j.IH)
theorem LJ(bs:List Bool):(List.range bs.length).any (λi=>bs.getD i true)=bs.any id:=by
 induction bs with
 | nil=>rfl
 | cons x bs a=>
  rw[lr,List.range_succ_eq_map,pv,List.any_map];have:((λi=>(x::bs).getD i true)∘Nat.succ)=λi=>bs.getD i true:=rfl;rw[this,a];rfl
def abx{bs:List Bool}{its:B0}(r:Vals (bs.map V.bl) its){v:Value}(h:its.toArray[i]? = some v):v=.bool (bs.getD i true):=by
 have h':=by simpa using h
 have c:=r.length;have hi:=c▸(lL.1 h').1;obtain⟨u,b,a⟩:=r.get (l9 hi);rw[h']at b;cases b;have d:=by simpa using hi
 have e:bs.getD i true=bs[i]:=by simp[d]
 rw[e];rw[List.getElem_map]at a;exact a
def Yr(k:QaK):r6 X (.builtin "any") (λxs H Q=>∃(p:Addr) (bs:List Bool),xs=[.ref p]/\nT X.K H p (bs.map V.bl)/\Q (.bl (bs.any id)) H):=by
 intro pins s σ H xs us Q I r h;obtain⟨p,bs,rfl,g,q⟩:=h;obtain⟨u,rfl,d⟩:=vals1 r;cases d;obtain⟨its,c,pl,hz⟩:=I.list g;have a:=pl.isList;have f:p<s.heap.objs.size:=by obtain⟨o,e,_⟩:=id a;exact ke e
 have hlen:its.toArray.size=bs.length:=by rw[oy,← c.length,e7]
 refine call_any_walk (wpAny_pyIter_list a ⟨_,_,_,_,_,_,λi=>bs.getD i true,rfl,Walks.list (A:=X.A.in1) (I.ok.hd k) _ p (k4 f) _,⟨⟨_,mi _ rfl,rfl,rfl⟩,a.at λo e=>kv _ e⟩,λi v s Q E l hQ=>?_,λh' tk j=>?_⟩)
 .rw[abx c l];exact FR hQ
 .rw[hlen,LJ];refine⟨.bl _,H,I.kept (λb o e=>j b o (λz=>?_) (kv _ e)),rfl,q⟩;have:=j2.1 z;subst this;exact absurd (ke e) (vx _)
def Ys:bootBuiltins "any" = some (.builtin "any"):=by decide +kernel
theorem P1{K:Frag}{CL:BC}{H:Hp}:∀{l:List Bool} {us:BY},az K CL H (l.map D.bl) us->us=l.map V.bl
 | [],_,r=>by
  have a:=r;cases a;rfl
 | y::l,_,r=>by
  have a:=r;cases a with
  | cons c b=>rw[c.sc rfl,P1 b];rfl
variable{l:List Bool}
def alm(g:Gx X)(hm:X.mg "any" = none)(h:dM X CL b e δ (.lst (l.map .bl)) δ1)(i:Gl X "any")(hs:Qah:=by exact aW rfl):cO X CL b (.Call (.Name "any" pp) [e] [] pos) δ (.sh (.bl (l.any id))) δ1:=λH Z σ ts vs Q S k=>
 cM (sf (Yr g.calm) i hm Ys QaE (he:=hs)) (h H Z σ ts vs _ S λv H1 Z1 c k1 j r=>by
  obtain⟨a,us,rfl,f,d⟩:=r.gR;have:=P1 d;subst this;exact⟨a,l,rfl,f,k _ H1 Z1 c k1 (j.push (.bl _))⟩)
namespace Rv
def Yt:PySem.Slot "reversed" "__init__" "object.__init__":=
 .of (owner:="object") (n:="__init__") (by rw[typeLookup_type,builtinLookup_eq_fast];kernel_rfl) We We We
  (by first|exact .inl We|exact .inr We) (by rw[isSubtype_type];kernel_rfl)
noncomputable def called:TypeCalled "reversed" "reversed.__new__" "object.__init__":=
 ⟨We,We,⟨_,_,PySem.F.mro_reversed⟩,PySem.F.made_reversed,We,PySem.F.sub_reversed_self,Yt⟩
noncomputable def obj(t:Addr)(i:Int):Obj:={cls:=.type "reversed",data:=.fields #[.ref t,rawInt i]}
end Rv
def aby(l q:Addr)(xs ys:CI)(n m:Nat)(f:Db)(sq:Ch)(j:¬(!xs.isEmpty&&Builtin.List.listTooLong (xs.size+ys.size))=true)(c:xs.size<=sizeLine)(b:xs.size+ys.size<=sizeLine+1) :
  PySem.Meets (Builtin.«list.extend» ⟨[.ref l,.ref q],[]⟩) (λ_ R s=>s.heap.get? l=some {cls:=.type "list",dict:=none,data:=.seq xs n,slots:=#[]}/\s.heap.get? q=some {cls:=.type "tuple",dict:=f,data:=.seq ys m,slots:=sq} ∧
   R (.ok (.ret Value.none)) {s with heap:=s.heap.update l (Obj.mapSeq λx=>x++ys),toks:=s.toks}):=
 PySem.Meets.of_wp λprog w A R s h=>by
  obtain⟨i,g,d,tk,os⟩:=s;obtain⟨a,e,h⟩:=h;have f1:=AutoSeq1.idx_int;have o:=AutoSeq1.sub_list_list;have f4:=AutoSeq1.sub_tuple_list;have k:=AutoSeq1.sub_list_tuple;have hz:(xs++ys).size<=sizeLine+1:=by
   rw[Array.size_append];exact b
  wp_walk using (wpAny_updateSeq a rfl (hz:=c) (_hz':=hz)),wpAny_loadPart' a,wpAny_loadPart' e
  exact⟨_,rfl,h⟩
def RS(K:Frag):V->BY->Hp->VK->Prop:=λx vs H Q=>∃l q xs zs,x=.ref l/\vs=[.ref q]/\H l=some QaS/\zK K H q zs/\xs.length+zs.length<=sizeLine/\Q .non (upd H l (.lst (xs++zs)))
theorem af4:yB X "list.extend" (RS X.K):=by
 intro pins s σ H x vs v us Q I d f h;obtain⟨l,q,xs,zs,rfl,rfl,b,m,hz,k⟩:=h;cases d;obtain⟨u,rfl,g⟩:=f.one;cases g;obtain⟨z,its,n,r,y,e⟩:=I.Dp b;obtain⟨c,a,⟨⟨A,d2,o,s2⟩,e2,p,i,hd2⟩,w⟩:=I.tuple m;cases p;cases hd2;have j:=a.length;have hsz:its.toArray.size+c.toArray.size<=sizeLine:=by grind
 have t:¬ (!its.toArray.isEmpty&&Builtin.List.listTooLong (its.toArray.size+c.toArray.size))=true:=by
  rw[E9 hsz,Bool.and_false];decide
 refine sx F.slot_list_extend ⟨_,e,rfl⟩ F.entry_list_extend (F.args_list_extend_2 _ _) (aby l q _ _ n i d2 s2 t WA Wc) ⟨e,e2,?_⟩;refine⟨.non,_,I.Dw b e Wm (r.append a) ?_,rfl,k⟩;simp_all
section
abbrev _root_.EQ:=Array Keyed
variable{a₀ xs:EQ}{ι:D1}
structure Tag(a₀ xs:EQ)(ι:D1)(n:Nat):Prop where
 pl:∀k,k<a₀.size->xs[k]? = a₀[ι k]?
 lo:∀k,k<n->ι k<n
 hi:∀k,n<=k->ι k=k
def vD(xs:EQ)(ι:D1)(n:Nat):Prop:=∀i j,i<j->j<n->PyProof.Rows.K xs i<PyProof.Rows.K xs j\/(PyProof.Rows.K xs i=PyProof.Rows.K xs j/\ι i<ι j)
def IK(xs:EQ)(ι:D1)(n:Nat):Prop:=∀i j,i<j->j<n->PyProof.Rows.K xs j<PyProof.Rows.K xs i\/(PyProof.Rows.K xs j=PyProof.Rows.K xs i/\ι j<ι i)
theorem Tag.grow(h:Tag a₀ xs ι n):Tag a₀ xs ι (n+1):=⟨h.pl,λk a=>by
  by_cases e:k<n
  .have:=h.lo k e;lia
  .have:=h.hi k Wc;lia,λk a=>h.hi k Wc⟩
theorem Tag.auj(h:Tag a₀ xs ι n){m:Nat}(hm:n<=m):Tag a₀ xs ι m:=⟨h.pl,λk a=>by
  by_cases e:k<n
  .have:=h.lo k e;lia
  .have:=h.hi k Wc;lia,λk a=>h.hi k Wc⟩
noncomputable def turned(ι:D1)(i j:Nat):Nat->Nat:=λk=>if i<=k/\k<j then ι (i+j-1-k) else ι k
theorem Tag.turn(h:Tag a₀ xs ι n)(c:j<=n)(b:n<=a₀.size)(hs:xs.size=a₀.size):Tag a₀ (mirror xs i j ((j-i) / 2)) (turned ι i j) n:=by
 refine⟨λk a=>?_,λk a=>?_,λk a=>?_⟩
 .rw[getElem?_mirror_all Wc];unfold turned;split
  .exact h.pl _ Wc
  .exact h.pl _ a
 .unfold turned;split
  .exact h.lo _ Wc
  .exact h.lo _ a
 .unfold turned;rw[dP Wc];exact h.hi k a
noncomputable def Yu(ι:D1)(k l:Nat):Nat->Nat:=λp=>if p=l then ι k else if l<p/\p<=k then ι (p-1) else ι p
theorem Tag.sink(h:Tag a₀ xs ι n){l:Nat}(d:l<=n)(c:n<a₀.size)(hs:xs.size=a₀.size):Tag a₀ (bubble xs n (n-l)) (Yu ι n l) (n+1):=by
 have b:=h.grow;refine⟨λk a=>?_,λk a=>?_,λk a=>?_⟩
 .rw[getElem?_bubble Wc _ Wc,show n-(n-l)=l by lia];unfold Yu;split
  .exact h.pl _ Wc
  .split
   .exact h.pl _ Wc
   .exact h.pl _ a
 .unfold Yu;split
  .exact b.lo _ Wc
  .split
   .exact b.lo _ Wc
   .exact b.lo _ a
 .unfold Yu;rw[dP Wc,dP Wc];exact b.hi k a
theorem vD.le(h:vD xs ι n)(b:i<=j)(a:j<n):PyProof.Rows.K xs i<=PyProof.Rows.K xs j:=by
 by_cases e:i=j
 .subst e;grind
 .obtain z|z:=h i j Wc a<;>lia
end
section
variable{w:World}{A:Qat}{a₀:EQ}
theorem P5{st:SortSt}{ι:D1}{a b:Nat}{Q:AscSt->SortSt->Prop}(h0:IntKeys a₀)(y:b<=a₀.size)(C:1<=a)(p:a<=b)(r:Qcu)
  (m:Tag a₀ (arrOf st) ι a) (hs:vD QaR ι a)
  (h:∀n,a<=n->n<=b->Tag a₀ (arrOf st) ι n->vD QaR ι n->(n=b\/PyProof.Rows.K QaR n<PyProof.Rows.K QaR (n-1))->Q (none,n) st) :
  wpS Qak A E s (ascLoop a b) Q st:=by
 unfold ascLoop;refine x7 (I:=λx c z=>z=st/\c=(none,x)/\Tag a₀ (arrOf st) ι x/\vD QaR ι x) ?one ?all ⟨rfl,rfl,m,hs⟩
 case all=>
  rintro c z ⟨rfl,rfl,t,o⟩;grind
 case one=>
  rintro x c z g l ⟨rfl,rfl,t,o⟩;dsimp only;refine lh (wpS_ltK r h0 Wc Wc ?_);by_cases d:PyProof.Rows.K Qaj x<PyProof.Rows.K Qaj (x-1)
  .simp only[d,decide_true,ox];exact my (h x g Wc t o (.inr d))
  .simp only[d,decide_false,oa,n2];refine my ⟨rfl,rfl,t.grow,λi j k B=>?_⟩;by_cases f:j<x
   .exact o i j k f
   .have e:j=x:=by lia
    subst e;have q:=o.le (i:=i) (j:=j-1) Wc Wc;have v:=t.lo i k;have u:=t.hi j (i5 _);lia
theorem P6{st:SortSt}{ι:D1}{b:Nat}{Q:Option Nat->SortSt->Prop}(h0:IntKeys a₀)(f:b<=a₀.size)(h1:1<=n)(c:n<=b)(d:Qcu)
  (e:Tag a₀ (arrOf st) ι n) (hs:IK QaR ι n)
  (h:∀m z κ,SBase a₀ z->1<=m->m<=b->Tag a₀ (arrOf z) κ m->vD Qaj κ m->Q (some m) z) :
  wpS Qak A E s (tail3 n b) Q st:=by
 have hz:n<=(arrOf st).size:=by rw[d.size];lia
 have a:SBase a₀ (setArr st (mirror _ 0 n ((n-0) / 2))):=d.setArr (mirror_perm _ _ _ _);refine lh (wpS_reverse ?_);refine lh (P5 h0 f h1 c a (e.turn (i5 _) Wc d.size) ?_ λm m1 m2 t o _=>my (h m _ _ a Wc m2 t o));intro i j k g;rw[K_mirror hz,K_mirror hz,dX Wc,dX Wc];unfold turned;rw[dX Wc,dX Wc];exact hs _ _ Wc Wc
structure DF(xs:EQ)(ι:D1)(p x:Nat):Prop where
 f:IK xs ι p
 l:∀i j,i<p->p<=j->j<x->PyProof.Rows.K xs j<PyProof.Rows.K xs i
 e:∀i j,p<=i->i<j->j<x->PyProof.Rows.K xs i=PyProof.Rows.K xs j/\ι i<ι j
theorem DF.one{xs:EQ}{ι:D1}{p:Nat}(h:DF xs ι p (p+1)):IK xs ι (p+1):=λi j b a=>by
 by_cases e:j<p
 .exact h.f i j b e
 .exact .inl (h.l i j Wc Wc a)
theorem DF.turn{xs:EQ}{ι:D1}{p x:Nat}(h:DF xs ι p x)(a:x<=xs.size):IK (mirror xs p x ((x-p) / 2)) (turned ι p x) x:=by
 intro i j c d;rw[K_mirror a,K_mirror a];unfold turned;by_cases hi:p<=i
 .rw[dX Wc,dX Wc,dX Wc,dX Wc];have q:=h.e (p+x-1-j) (p+x-1-i) Wc Wc Wc;simp_all
 .rw[dP (show ¬ (p<=i/\i<x) by lia),dP (show ¬ (p<=i/\i<x) by lia)];by_cases b:p<=j
  .rw[dX Wc];exact .inl (h.l _ _ Wc Wc Wc)
  .rw[dP Wc,dP Wc];exact h.f i j c Wc
theorem IK.le{xs:EQ}{ι:D1}(h:IK xs ι n)(b:i<=j)(a:j<n):PyProof.Rows.K xs j<=PyProof.Rows.K xs i:=by
 by_cases e:i=j
 .subst e;grind
 .obtain z|z:=h i j Wc a<;>lia
theorem IK.half{xs:EQ}{ι:D1}{x:Nat}(h:IK xs ι x)(a:0<x)(b:PyProof.Rows.K xs x<PyProof.Rows.K xs (x-1)):DF xs ι x (x+1):=
 ⟨h,λi j hi h1 h2=>by
  have e:j=x:=by lia
  subst e;have:=h.le (i:=i) (j:=j-1) Wc Wc;lia,λi j h1 h2 c=>by lia⟩
theorem Yv{st:SortSt}{ι:D1}{b:Nat}{Q:DescSt->SortSt->Prop}(h0:IntKeys a₀)(G:b<=a₀.size)(g:n+1<=b)(C:Qcu)
  (B:Tag a₀ (arrOf st) ι (n+1)) (hs:DF QaR ι n (n+1))
  (h:∀m a z κ,SBase a₀ z->n+1<=m->m<=b->a+1<=m->Tag a₀ (arrOf z) κ m->DF Qaj κ (m-(a+1)) m->Q (none,m,a) z) :
  wpS Qak A E s (descLoop (n+1) b) Q st:=by
 unfold descLoop;refine x7 (I:=λx c z=>∃a κ,c=(none,x,a)/\SBase a₀ z/\a+1<=x/\Tag a₀ (arrOf z) κ x/\DF Qaj κ (x-(a+1)) x) ?one ?all ⟨0,ι,rfl,C,Wc,B,hs⟩
 case all=>
  rintro c z ⟨a,κ,rfl,b2,q,t,o⟩;have e:max (n+1) b=b:=by lia
  rw[e]at q t o ⊢;exact h b a z κ b2 g (i5 _) q t o
 case one=>
  rintro x c z r v ⟨a,κ,rfl,b2,q,t,o⟩;dsimp only;have hz:x<=(arrOf z).size:=by rw[b2.size];lia
  refine lh (wpS_ltK b2 h0 Wc Wc ?_);by_cases d:PyProof.Rows.K Qaj x<PyProof.Rows.K Qaj (x-1)
  .simp only[d,decide_true,ox];by_cases u:a > 0
   .rw[dX u];have hm:∀k,PyProof.Rows.K (mirror Qaj (x-(a+1)) x ((x-(x-(a+1))) / 2)) k=PyProof.Rows.K Qaj k:=K_mirror_equal hz λk k1 k2=>by
     by_cases e:k=x-1
     .rw[e]
     .exact(o.e k (x-1) k1 Wc Wc).1
    refine lh (wpS_reverse (my ⟨0,turned κ (x-(a+1)) x,rfl,b2.setArr (mirror_perm _ _ _ _),Wc,(t.turn (i5 _) Wc b2.size).grow,?_⟩));have hf:=o.turn hz;refine hf.half Wc ?_;rw[hm,hm];exact d
   .rw[dP u];have e0:a=0:=by lia
    subst e0;obtain⟨y,rfl⟩:∃y,x=y+1:=⟨x-1,Wc⟩;have hf:IK Qaj κ (y+1):=DF.one o;exact my ⟨0,κ,rfl,b2,Wc,t.grow,hf.half Wc d⟩
  .simp only[d,decide_false,oa,n2];refine lh (wpS_ltK b2 h0 Wc Wc ?_);by_cases p:PyProof.Rows.K Qaj (x-1)<PyProof.Rows.K Qaj x
   .simp only[p,decide_true,ox];exact my (h x a z κ b2 r Wc q t o)
   .simp only[p,decide_false,oa,n2];have he:PyProof.Rows.K Qaj x=PyProof.Rows.K Qaj (x-1):=Int.le_antisymm (Int.not_lt.1 p) (Int.not_lt.1 d);refine my ⟨a+1,κ,rfl,b2,Wc,t.grow,?_⟩;rw[show x+1-(a+1+1)=x-(a+1) by lia];refine⟨o.f,λi j hi h1 h2=>?_,λi j h1 h2 H=>?_⟩
    .by_cases e:j=x
     .rw[e,he];exact o.l i (x-1) hi Wc Wc
     .exact o.l i j hi h1 Wc
    .by_cases e:j=x
     .subst e;have F:=t.lo i h2;have D:=t.hi j (i5 _);refine⟨?_,Wc⟩;rw[he];by_cases e2:i=j-1
      .rw[e2]
      .exact(o.e i (j-1) h1 Wc Wc).1
     .exact o.e i j h1 h2 Wc
theorem Kh{st:SortSt}{ι:D1}{a:Nat}{Q:Option Nat->SortSt->Prop}(h0:IntKeys a₀)(c:a<=a₀.size)(b:n+1<=a)(g:Qcu)
  (e:Tag a₀ (arrOf st) ι (n+1)) (hs:DF QaR ι n (n+1))
  (h:∀m z κ,SBase a₀ z->1<=m->m<=a->Tag a₀ (arrOf z) κ m->vD Qaj κ m->Q (some m) z) :
  wpS Qak A E s (descPart n a) Q st:=by
 refine lh (wpS_lift (wpAny_rule ⟨rfl,?_⟩));refine lh (Yv h0 c b g e hs λm d z κ b2 m1 m2 q t o=>?_);dsimp;have hz:m<=(arrOf z).size:=by rw[b2.size];lia
 by_cases f:d > 0
 .rw[dX f];exact lh (wpS_reverse (P6 h0 c Wc m2 (b2.setArr (mirror_perm _ _ _ _)) (t.turn (i5 _) Wc b2.size) (o.turn hz) h))
 .have e0:d=0:=by lia
  subst e0;obtain⟨y,rfl⟩:∃y,m=y+1:=⟨m-1,Wc⟩;exact P6 h0 c Wc m2 b2 t (DF.one o) h
theorem abz{st:SortSt}{c:Nat}{Q:Option Nat->SortSt->Prop}(h0:IntKeys a₀)(f:c<=a₀.size)(h1:1<=c)(a:Qcu)(v:Tag a₀ (arrOf st) id 0)
  (h:∀m z κ,SBase a₀ z->1<=m->m<=c->Tag a₀ (arrOf z) κ m->vD Qaj κ m->Q (some m) z) :
  wpS Qak A E s (countRun' 0 c) Q st:=by
 rw[countRun0_eq];refine lh (P5 (ι:=id) h0 f (i5 1) h1 a (v.auj Wc) (λi j B r=>by lia) λn n1 p t o e=>?_);dsimp only;by_cases b:n=c
 .rw[if_pos (by simpa using b)];exact my (h n st id a n1 p t o)
 .rw[if_neg (by simpa using b)];have l:=e.resolve_left b;have hz:n<=(arrOf st).size:=by rw[a.size];lia
  by_cases d:n > 1
  .rw[dX d];refine lh (wpS_ltK a h0 Wc Wc ?_);by_cases q:PyProof.Rows.K QaR 0<PyProof.Rows.K QaR (n-1)
   .simp only[q,decide_true,ox];exact my (h n st id a n1 p t o)
   .simp only[q,decide_false,oa,n2];have g:∀k,0<=k->k<n->PyProof.Rows.K QaR k=PyProof.Rows.K QaR (n-1):=λk _ x=>by
     have a1:=o.le (i:=0) (j:=k) Wc x;have a2:=o.le (i:=k) (j:=n-1) Wc Wc;lia
    have hm:=K_mirror_equal (i:=0) hz g;refine lh (wpS_reverse (Kh (ι:=turned id 0 n) h0 f Wc (a.setArr (mirror_perm _ _ _ _)) (t.turn (i5 _) Wc a.size).grow ?_ h));have y:DF QaR id 0 n:=⟨λi j _ r=>by lia,λi j hi=>by lia,λi j i1 i2 u=>⟨by rw[g i Wc Wc,g j Wc u],i2⟩⟩;refine(y.turn hz).half Wc ?_;rw[hm,hm];exact l
  .rw[dP d];have e1:n=1:=by lia
   subst e1;exact Kh h0 f Wc a t.grow ((show IK QaR id 1 fromλi j B r=>by lia).half Wc l) h
theorem aln{l r x:Nat}(h1:l<=r)(h2:r<=k)(a:r-l<=k-x)(c:¬ l ≥ r):l<=(l+r) / 2/\(l+r) / 2<=k/\(l+r) / 2-l<=k-(x+1)/\(l+r) / 2+1<=r/\r-((l+r) / 2+1)<=k-(x+1)/\(l+r) / 2<k:=by
 have c:=Nat.lt_of_not_le c;have c1:l<=(l+r) / 2:=by clear h1 h2 a;lia
 have b:(l+r) / 2<r:=by clear h1 h2 a;lia
 exact⟨c1,kM (l0 b) h2,Nat.le_pred_of_lt (mu (Nat.sub_lt_sub_right c1 b) a),b,Nat.le_pred_of_lt (mu (Nat.sub_lt_sub_left c (Nat.lt_succ_of_le c1)) a),mu b h2⟩
theorem abA{st:SortSt}{ι:D1}{ok:Nat}{Q:Bool->SortSt->Prop}(h0:IntKeys a₀)(J:n<=a₀.size)(f7:ok<=n)(C:1<=ok)(H:Qcu)(B:Tag a₀ (arrOf st) ι ok)(hs:vD QaR ι ok)
  (h:∀z κ,SBase a₀ z->Tag a₀ (arrOf z) κ n->vD Qaj κ n->Q true z):wpS Qak A E s (binarySort' 0 n ok) Q st:=by
 rw[binarySort'_eq];simp only[x5];refine lh (wpS_mono (x7 (I:=λk c z=>c=(none,())/\SBase a₀ z/\∃κ,Tag a₀ (arrOf z) κ k/\vD Qaj κ k)
  (Q:=λc z=>c=(none,())/\SBase a₀ z/\∃κ,Tag a₀ (arrOf z) κ n/\vD Qaj κ n) ?one ?all ?new) ?post)
 case post=>
  rintro c z ⟨rfl,b2,κ,t,o⟩;exact my (h z κ b2 t o)
 case new=>
  rw[show max ok 1=ok by lia];exact⟨rfl,H,ι,B,hs⟩
 case all=>
  rintro c z ⟨F,b2,κ,t,o⟩;rw[show max (max ok 1) n=n by lia]at t o;exact⟨F,b2,κ,t,o⟩
 case one=>
  rintro k c z G D ⟨rfl,b2,κ,t,o⟩;have p:k<a₀.size:=by lia
  refine lh (wpS_mono (x7 (I:=λx c y=>y=z/\∃l r,c=(none,l,r)/\l<=r/\r<=k/\r-l<=k-x/\(∀i,i<l->PyProof.Rows.K Qaj i<=PyProof.Rows.K Qaj k)/\(∀i,r<=i->i<k->PyProof.Rows.K Qaj k<PyProof.Rows.K Qaj i))
   (Q:=λc y=>y=z/\∃l r,c=(none,l,r)/\l<=k/\(∀i,i<l->PyProof.Rows.K Qaj i<=PyProof.Rows.K Qaj k)/\(∀i,l<=i->i<k->PyProof.Rows.K Qaj k<PyProof.Rows.K Qaj i)) ?two ?fin ?beg) ?aft)
  case beg=>exact⟨rfl,0,k,rfl,Wc,Wc,Wc,λi hi=>by lia,λi g1 g2=>by lia⟩
  case fin=>
   rintro c y ⟨rfl,l,r,rfl,g1,g2,g3,f,d⟩;have e:l=r:=by lia
   subst e;exact⟨rfl,l,l,rfl,g2,f,d⟩
  case two=>
   rintro x c y _ v ⟨rfl,l,r,rfl,g1,g2,g3,f,d⟩;dsimp only;by_cases b:l ≥ r
   .rw[dX b];have e:l=r:=by lia
    subst e;exact my ⟨rfl,l,l,rfl,g2,f,d⟩
   .rw[dP b];have M:=aln g1 g2 g3 b;refine lh (wpS_ltK b2 h0 p (Nat.lt_trans M.2.2.2.2.2 p) ?_);by_cases m:PyProof.Rows.K (arrOf y) k<PyProof.Rows.K (arrOf y) ((l+r) / 2)
    .simp only[m,decide_true,ox];exact my ⟨rfl,l,(l+r) / 2,rfl,M.1,M.2.1,M.2.2.1,f,λi i1 i2=>Int.lt_of_lt_of_le m (o.le i1 i2)⟩
    .simp only[m,decide_false,oa,n2];exact my ⟨rfl,(l+r) / 2+1,r,rfl,M.2.2.2.1,g2,M.2.2.2.2.1,λi i1=>Int.le_trans (o.le (i:=i) (j:=(l+r) / 2) (Nat.lt_succ_iff.1 i1) M.2.2.2.2.2) (Int.not_lt.1 m),d⟩
  case aft=>
   rintro c y ⟨rfl,l,r,rfl,g2,f,d⟩;show wpS _ _ _ _ (do moveDown' k l;pure (ForInStep.yield (none,()))) _ _;rw[moveDown'_eq];have g:k<(arrOf y).size:=by rw[b2.size];exact p
   refine lh (wpS_modify (my ⟨rfl,b2.setArr (bubble_perm _ _ _),Yu κ k l,t.sink g2 p b2.size,?_⟩));intro i j N L;show PyProof.Rows.K Qd4 i<PyProof.Rows.K Qd4 j\/(PyProof.Rows.K Qd4 i=PyProof.Rows.K Qd4 j/\_);rw[K_bubble g Wc,K_bubble g Wc,show k-(k-l)=l by lia];unfold Yu;have tk:=t.hi k (i5 _);by_cases u:i=l
   .rw[dX u,dX u,dP (show ¬ j=l by lia),dP (show ¬ j=l by lia),dX Wc,dX Wc];exact .inl (d _ Wc Wc)
   .rw[dP u,dP u];by_cases q:j=l
    .rw[dX q,dX q,dP Wc,dP Wc];have:=f i Wc;have:=t.lo i Wc;lia
    .rw[dP q,dP q];by_cases hi:l<i/\i<=k
     .rw[dX hi,dX hi,dX Wc,dX Wc];exact o _ _ Wc Wc
     .rw[dP hi,dP hi];by_cases a:l<j/\j<=k
      .rw[dX a,dX a];exact o _ _ Wc Wc
      .rw[dP a,dP a];exact o _ _ Wc Wc
def Na(a₀:EQ)(st:SortSt):Prop:=failedOf st=none/\pendingOf st=#[(0,a₀.size,0)]/\∃κ,Tag a₀ (arrOf st) κ a₀.size/\vD QaR κ a₀.size/\(arrOf st).size=a₀.size
noncomputable def RO{st:SortSt}{κ:D1}(a:Qcu)(t:Tag a₀ (arrOf st) κ a₀.size)(o:vD QaR κ a₀.size):Na a₀ (setPending st ((pendingOf st).push (0,a₀.size,0))):=
 ⟨a.failed,by rw[a.pend];rfl,κ,t,o,a.size⟩
theorem Yx{st:SortSt}{Q:Unit->SortSt->Prop}(h0:IntKeys a₀)(e:Qcu)(v:Tag a₀ (arrOf st) id 0)(h2:2<=a₀.size)(C:a₀.size<64)
  (h:∀z κ,failedOf z=none->Tag a₀ (arrOf z) κ a₀.size->vD Qaj κ a₀.size->(arrOf z).size=a₀.size->Q () z):wpS Qak A E s sortRuns' Q st:=by
 rw[sortRuns'_eq];refine lh (wpS_get ?_);dsimp only;have a:minRun' a₀.size a₀.size 0=a₀.size:=by
  obtain⟨f,hf⟩:∃f,a₀.size=f+1:=⟨a₀.size-1,Wc⟩;have q:minRun' (f+1) a₀.size 0=a₀.size:=by
   rw[minRun'_succ,dX C];rfl
  rwa [← hf]at q
 rw[e.size,a];refine lh (wpS_mono (x7 (I:=λx c z=>(x=0/\c=(none,0)/\SBase a₀ z/\Tag a₀ (arrOf z) id 0)\/(1<=x/\c=(none,a₀.size)/\Na a₀ z))
  (Q:=λc z=>c=(none,a₀.size)/\Na a₀ z) ?one ?all (.inl ⟨rfl,rfl,e,v⟩)) ?aft)
 case all=>
  rintro c z (⟨u,_⟩|⟨_,B,hD⟩)
  .lia
  .exact⟨B,hD⟩
 case one=>
  rintro x c z _ u (⟨rfl,rfl,b2,t0⟩|⟨r,rfl,hD⟩)
  .dsimp only;rw[dP Wc];rw[Nat.sub_zero,Nat.min_self,x5];refine lh (abz h0 (i5 _) Wc b2 t0 λm k κ b3 m1 m2 t o=>?_);dsimp only;by_cases d:m<a₀.size
   .rw[dX d];refine lh (wpS_lift (wpAny_rule ⟨rfl,?_⟩));refine lh (abA h0 (i5 _) m2 m1 b3 t o λj i g n p=>?_);simp only[Bool.not_true,oa,n2];refine lh (wpS_get ?_);have b:(pendingOf j).back? = none:=by rw[g.pend];rfl
    rw[b];dsimp only;exact lh (wpS_modify (my (.inr ⟨Wc,by first|rfl|rw[x5],RO g n p⟩)))
   .rw[dP d];have hm:m=a₀.size:=by lia
    subst hm;refine lh (wpS_get ?_);have b:(pendingOf k).back? = none:=by rw[b3.pend];rfl
    rw[b];dsimp only;exact lh (wpS_modify (my (.inr ⟨Wc,by first|rfl|rw[x5],RO b3 t o⟩)))
  .dsimp only;rw[dX (i5 _)];exact my ⟨rfl,hD⟩
 case aft=>
  rintro c z ⟨rfl,hD⟩;dsimp only;refine lh (wpS_mono (x7 (I:=λ_ c y=>y=z/\c=(none,())) (Q:=λc y=>y=z/\c=(none,())) ?_ (λ_ _ q=>q) ⟨rfl,rfl⟩) ?_)
  .rintro x c y _ _ ⟨rfl,rfl⟩;refine lh (wpS_get ?_);rw[dX (by rw[hD.2.1];exact i5 1)];exact my ⟨rfl,rfl⟩
  .rintro c y ⟨rfl,rfl⟩;obtain⟨κ,t,o,l⟩:=hD.2.2;exact my (h _ κ hD.1 t o l)
end
def LK{a c:AT}(p:a.Perm c)(s:a.Pairwise (· ≥ ·)):a=(sortI c).reverse:=by
 have h:=zZ ((List.reverse_perm a).trans p) (List.pairwise_reverse.2 (s.imp λh=>h));rw[← h,List.reverse_reverse]
def tSR(K:Frag)(t:TA):TE:=λσ H Q=>t σ H λvs H1=>∃p ns,vs=[.ref p]/\nT K H1 p (ns.map .int)/\ns.length<64/\∀l,H1 l=none->Q (.ref l) (upd H1 l (.lst ((sortI ns).reverse.map .int)))
theorem SX{t:TA}{p p1:Pos}{kj:Nat}(m:Gl X "sorted")(hm:X.mg "sorted" = none)(n:PA X [e] t)(hs:Qah) :
  PE X (.Call (.Name "sorted" p) [e] [⟨some "reverse",.Constant (.bool true) kj p1,p2⟩] pos) (tSR X.K t):=by
 intro pins s σ H Q I h;have l:PK X [⟨some "reverse",.Constant (.bool true) kj p1,p2⟩] _:=V0 S2 aaK;refine tf (qV I m hm tV ?_);refine callWith_kw (f6 (n pos pins s σ H _ I h) λus s1 zz=>?_) (by rw[hs];rfl) (by rw[hs];rfl) rfl rfl;obtain⟨vs,H1,x,g,i⟩:=zz;refine f6 (l pos pins s1 σ H1 (λzs H2=>zs=[.bl true]/\H2=H1) x ⟨rfl,rfl⟩) λws s2 zz=>?_;obtain⟨zs,H2,a,c,e1,e2⟩:=zz;subst e1;subst e2;obtain⟨u,rfl,f⟩:=c.one;cases f;obtain⟨q,ns,rfl,k,y,kk⟩:=i;obtain⟨v,rfl,d⟩:=g.one;cases d;obtain⟨its,b,pl,hz⟩:=a.list k;have hlen:=b.length;rw[e7]at hlen;refine sorted_ints_rev pl.isList (intsAre_of b) Wc λout j a1 a2 a3=>?_;obtain⟨o,he⟩:=sortedAll_at s2.heap its out;have r:=LK a2 a3;subst r;refine⟨.ref (s2.heap.objs.size+1),_,a.laid (t':=s2.toks) (λ_ _=>sortedAll_old) (nZ _) (show gW X.prog X.w _ _ _ (.lst _) from⟨?_,out.toList,o,tU a1,?_⟩),rfl,kk _ (a.f7.fresh (nZ _))⟩
 .rw[e7,ti,pP];simp_all
 .simpa using he
variable{p1:Pos}{kj:Nat}
def SY{l:AT}(hm:X.mg "sorted" = none)(h:dM X CL b e δ (.lst Qbt) δ1)(j:l.length<64)(m:Gl X "sorted")(hs:Qah:=by exact aW rfl) :
  cO X CL b (.Call (.Name "sorted" pp) [e] [⟨some "reverse",.Constant (.bool true) kj p1,p2⟩] pos) δ (.lst (((sortI l).reverse.map .int).map T.sh)) δ1:=λH Z σ ts vs Q S k=>
 cM (SX m hm QaE hs) (h H Z σ ts vs _ S λv H1 Z1 d k1 o r=>by
  obtain⟨a,us,rfl,g,f⟩:=r.gR;have:=xj f;subst this;refine⟨a,l,rfl,g,j,λp i=>?_⟩;obtain⟨c,n⟩:=(bB.oH (ints_rep _) o).j4 (g0:=[]) Wm i;exact k _ _ _ d Qb3 n)
def Of(hi:X.N[i]? = some x)(h:X.env.scope.names.lookup x=some .local)(hf:X.fn x=true)(hd:AD x:=by decide)(a:AE x:=by decide):Ln X i x:=⟨⟨hi,.inl h,hd,a⟩,.inl h,.inl hf⟩
def mkC(hi:X.N[i]? = some x)(h:X.env.scope.names.lookup x=some .cell)(hf:X.fn x=true)(hd:AD x:=by decide)(a:AE x:=by decide):Ln X i x:=⟨⟨hi,.inr (.inl h),hd,a⟩,.inr h,.inl hf⟩
def Wo{w:World}{f:Addr}{sp:Sp}(G:fz P w K mg base lO k f fd ps sp)(m:mg x=some QR)(q:keepIn K QR=true)(b:Binds K fd ps []) :
  ∃f fd ps,fz P w K mg base lO k f fd ps sp/\mg x=some QR/\keepIn K QR=true/\Binds K fd ps []:=⟨_,_,_,G,m,q,b⟩
variable{px:Pos}{p:L3.D->Bool}{g:L3.D->T}{ds:BA}
def Ar(sc:QcD):tT X scope [y] Nc ix:=⟨sc.kind,sc.Bt,sc.nd,sc.names,(λx a=>by rw[j2]at a;subst a;exact sc.own),sc.frees,sc.hd,sc.rF⟩
noncomputable def LB(sc:QcD)(h:Block X CL scope Nc ifs elt δc ds p g)(h1:AD y)(h2:AE y):By X CL scope Nc [y].length (.Name y px) part1 ifs elt δc ds p g:=λC s0 b f0 a=>
 ⟨abi sc.nd (SK (by rw[sc.hd];rfl) sc.own h1 h2),λd hd=>⟨[d],rfl,rfl,(h C s0 b f0 a d hd).1,(h C s0 b f0 a d hd).2⟩⟩
def mR(sc:QcD)(a:QaK)(h:X7 X CL b (.Name y px) iter δ ds δ1)(c:(δc=Ff δ1 ix/\∀d∈ds,(g d).clean=true)\/δc=Bu δ1 ix)(inner:Block X CL scope Nc ifs elt δc ds p g)(hlen:QbB)
  (hs:AN X iter:=by intro _;rfl) (h1:AD y:=by decide) (h2:AE y:=by decide):cO X CL b (.ListComp elt [⟨.Name y px,iter,ifs,0⟩] scope pos) δ (.lst ((ds.filter p).map g)) δ1:=
 Ft (Ar sc) a (RY h) c (LB sc inner h1 h2) hlen hs
def LN{D:gF}{gg:L3.D->T}(g:Gx X)(n:Ln X i x)(sc:QcD)(h:X7 X CL b (.Name y px) iter δ ds δ1)(c:(δc=Ff δ1 ix/\∀d∈ds,(gg d).clean=true)\/δc=Bu δ1 ix)(inner:Block X CL scope Nc ifs elt δc ds p gg)
  (hlen:QbB) (k:eW X CL b gO (δ1.set i (some (.lst ((ds.filter p).map gg)))) D) (a:Qbu)
  (e:swapsWith Qep (some QbA) pos.line X.env=pure true\/swapsWith Qep (some QbA) pos.line X.env=pure false) (hs:AN X iter:=by intro _;rfl)
  (h1:AD y:=by decide) (h2:AE y:=by decide):eW X CL b (.Assign [.Name x pos'] Qep pos::gO) δ D:=
 alf g n (Ar sc) (RY h) c (LB sc inner h1 h2) hlen k a e hs
variable{d:L3.D}
def aH(n:Ln X i x)(h:δ[i]? = some QbM:=by rfl):dM X CL b Qau δ d δ:=aE (v_ n.1 h)
structure bD(X:Cx):Prop where
 g:Gx X
 u:X.A.units+64<cLine
abbrev bW:NameKind:=.globalImplicit
abbrev c9:NameKind:=.local
def jN{P:At}{sc:Scope}(h1:sc.kind=.function:=by rfl)(h2:sc.isCoroutine=false:=by rfl)(e:sc.isGenerator=false:=by rfl)(d:N.Nodup:=by decide +kernel)(c:N.take P.length=P:=by rfl)(b:∀x∈P,sc.names.lookup x=some .local\/sc.names.lookup x=some .cell:=by decide +kernel)(a:∀y∈sc.names,y.2 ≠ .free:=by decide +kernel):c6 N P sc:=⟨h1,h2,e,d,c,b,a⟩
variable{tb:Cs}
def qX(c:RM X.env.scope tb=true)(j:Nat)(a:tb[j]? = some (x,.local):=by rfl)(hi:X.N[i]? = some x:=by rfl)(hf:X.fn x=true:=by rfl)(hd:AD x:=by decide)(b:AE x:=by decide):Ln X i x:=Of hi (b9 c j a) hf hd b
def z7(c:RM X.env.scope tb=true)(j:Nat)(a:tb[j]? = some (x,.cell):=by rfl)(hi:X.N[i]? = some x:=by rfl)(hf:X.fn x=true:=by rfl)(hd:AD x:=by decide)(b:AE x:=by decide):Ln X i x:=mkC hi (b9 c j a) hf hd b
def qK(c:RM X.env.scope tb=true)(j:Nat)(a:tb[j]? = some (x,.globalImplicit):=by rfl):Gl X x:=b9 c j a
def c7{m:Nat}{arg:Qay}{Pre:Q4}{res:Qab}(F:∃f fd ps,fz X.prog X.w X.K X.mg X.base lO k f fd ps (Px X.K CL n arg Pre res)/\X.mg x=some QR/\keepIn X.K QR=true/\Binds X.K fd ps [])(r:eO m X.A)(h:k<=m:=by decide):Fc X CL x k n arg Pre res:=⟨F,r.mono h⟩
variable{δ':BB}{σ':L2.St}{y:Addr}
theorem bB.apP(S:Qam)(hi:δ[i]? = some (some (.pin y t))):σ[i]? = some (some (.ref y))/\bB K CL b H Z (δ.set i Qan) σ ts vs:=by
 obtain⟨fp,gp,e,r,nd,k⟩:=S.rep;obtain⟨v0,f1,f2,c,hv,a,rt,put,_⟩:=e.get hi;subst a;replace rt:=rt.Iv;obtain⟨rfl,rt⟩:=rt;have e2:=put Ql QbK rt;rw[f9 hv]at e2;exact⟨hv,⟨⟨_,gp,e2,r,nd,k⟩,S.bh,S.zz,S.zh,S.new,S.tp,S.tab⟩⟩
noncomputable def sF(H:Hp)(gp:BS):Hp:=λc=>if c∈gp then none else H c
def gZ{c:Addr}(h:c∉gp):sF H gp c=H c:=dP h
def kN{c:Addr}(h:c∈gp):sF H gp c=none:=dX h
def lS{c:Addr}(h:sF H gp c=some o):c∉gp/\H c=some o:=by
 by_cases a:c∈gp
 .rw[kN a]at h;cases h
 .rw[gZ a]at h;exact⟨a,h⟩
theorem bB.cut(S:bB K CL b H Z δ σ (tl++ts) (us++vs))(l:tl.length=us.length):∃gp,aS K CL H Z tl us gp/\gp.Nodup/\bB K CL b (sF H gp) Z δ σ ts vs:=by
 obtain⟨fp,g,e,r,nd,k⟩:=S.rep;obtain⟨g1,g2,rfl,j,i⟩:=aS.split l r;have f:(fp++(g1++g2)).Perm (g1++(fp++g2)):=by
  rw[← jw,← jw];exact mN.append_right g2
 have d:=la.1 (f.nodup_iff.1 nd);have ne:∀c∈fp++g2,c∉g1:=λc a h=>d.2.2 c h c a rfl;have own:∀c∈g1,Z c=none/\b.B c=none:=λc a=>k c (js _ (j1 _ a));refine⟨g1,j,d.1,⟨⟨fp,g2,e.mono Ql (λc a=>gZ (ne c (j1 _ a))),i.mono Ql (λc a=>gZ (ne c (js _ a))),d.2.1,λc a=>k c (f.mem_iff.2 (js _ a))⟩,λc o q=>?_,S.zz,λc o q=>?_,S.new,λc o q im=>S.tp c o (lS q).2 im,S.tab⟩⟩
 .rw[gZ (λh=>by rw[(own c h).2]at q;cases q)];exact S.bh c o q
 .rw[gZ (λh=>by rw[(own c h).1]at q;cases q)];exact S.zh c o q
theorem bB.P7{W':Hp}(S:Qam)(k:aD H H')(ww:aD Z W')(l:aD W' H')(new:∀a o,W' a=some o->Z a=none->H a=none)
  (tp:∀a o,H' a=some o->lP o=true->W' a=some o) (r:aS K CL H' W' tl us fp) (nd:fp.Nodup) (own:∀a∈fp,W' a=none/\H a=none):bB K CL b H' W' δ σ (tl++ts) (us++vs):=by
 obtain⟨f0,g0,e0,g,f,k0⟩:=S.rep;have old:∀a∈f0++g0,∃o,H a=some o:=λa d=>(i3.1 d).elim (e0.there a) (g.there a);have keep:∀a∈f0++g0,H' a=H a:=λa d=>by
  obtain⟨o,e⟩:=old a d;rw[e];exact k a o e
 have j:(f0++(fp++g0)).Perm (fp++(f0++g0)):=by
  rw[← jw,← jw];exact mN.append_right g0
 have wn:∀a∈f0++g0,W' a=none:=λa d=>by
  cases q:W' a with
  | none=>rfl
  | some o=>
   obtain⟨u,e⟩:=old a d;rw[new a o q (k0 a d).1]at e;cases e
 refine⟨⟨f0,fp++g0,e0.mono ww (λa d=>keep a (j1 _ d)),aS.app r (g.mono ww λa d=>keep a (js _ d)),?_,λa d=>?_⟩,S.bh.trans k,S.zz.trans ww,l,λa o q z=>?_,tp,S.tab⟩
 .refine j.nodup_iff.2 (la.2 ⟨nd,f,λa d c m e=>?_⟩);subst e;obtain⟨o,q⟩:=old a m;rw[(own a d).2]at q;cases q
 .obtain h|h:=i3.1 (j.mem_iff.1 d)
  .exact⟨(own a h).1,Sq S.bh (own a h).2⟩
  .exact⟨wn a h,(k0 a h).2⟩
 .cases i:Z a with
  | none=>exact Sq S.bh (new a o q i)
  | some u=>
   exact S.new a u i z
def Yy:B1->B1->Prop
 | [],[]=>True
 | .sh d::l,.sh e::m=>d=e/\Yy l m
 | .pin x _::l,.pin z _::m=>x=z/\Yy l m
 | _,_=>False
def Keeps(δ:BB)(ol:B1):Prop:=∀(j:Nat) (y:Addr) (t:T),ol[j]? = some (T.pin y t)->δ[j]? = some (some (T.pin y t))
theorem Keeps.tail{o:Option T}{d:T}{ol:B1}(k:Keeps (o::δ) (d::ol)):Keeps δ ol:=λj y t h=>k QA y t h
theorem fU.outs{W W':Hp}(ww:aD W W'):∀{al ol:B1} {vs:BY} {g0:BS} {δ:BB} {σ:L2.St} {fp:BS},Yy al ol->aS K CL H W al vs g0->fU K CL H' W' δ σ fp->Keeps δ ol->∃g,aS K CL H' W' ol vs g/\g.Sublist fp:=by
 intro al
 induction al with
 | nil=>
  intro ol vs g0 δ σ fp b f _ _;cases f;cases ol with
  | nil=>exact⟨[],.nil,List.nil_sublist _⟩
  | cons _ _=>cases b
 | cons a al c=>
  intro ol vs g0 δ σ fp b f re k;cases f with
  | cons r rs=>
  cases ol with
  | nil=>cases a<;>cases b
  | cons o ol=>
  cases a with
  | sh d=>
   cases o with
   | sh e=>
    obtain⟨h1,h2⟩:=b;subst h1;replace r:=r.Iu;obtain⟨rfl,r⟩:=r;cases re with
    | nil=>
     obtain⟨g,q,s⟩:=c h2 rs (.nil (H:=H') (Z:=W')) (λj y t h=>by have:=k QA y t h;simp at this);exact⟨[]++g,.cons (.sh (r.mono ww)) q,s⟩
    | skip re=>
     obtain⟨g,q,s⟩:=c h2 rs re k.tail;exact⟨[]++g,.cons (.sh (r.mono ww)) q,s⟩
    | cons rt re=>
     obtain⟨g,q,s⟩:=c h2 rs re k.tail;exact⟨[]++g,.cons (.sh (r.mono ww)) q,s.trans (vy _ _)⟩
   | _=>cases b
  | pin x t0=>
   cases o with
   | pin z t=>
    obtain⟨h1,h2⟩:=b;subst h1;have h0:=k 0 x t rfl;replace r:=r.Iv;obtain⟨rfl,r⟩:=r;cases re with
    | nil=>simp at h0
    | skip re=>simp at h0
    | cons rt re=>
     simp at h0;subst h0;obtain⟨g,q,s⟩:=c h2 rs re k.tail;replace rt:=rt.Iv;obtain⟨rfl,rt⟩:=rt;exact⟨_,.cons (.pin rt) q,pw (n7 _) s⟩
   | _=>cases b
  | _=>cases o<;>cases b
noncomputable def S9(N:At)(al:B1):BB:=al.map some++List.replicate (N.length-al.length) none
theorem C6:∀{al:B1} {vs:BY} {gp:BS} (n:Nat),aS K CL H Z al vs gp->fU K CL H Z (al.map some++List.replicate n none) (vs.map some++List.replicate n none) gp
 | _,_,_,n,.nil=>lR (ds:=[]) (vs:=[]) n .nil
 | _,_,_,n,.cons r t=>.cons r (C6 n t)
def oe(K:Frag)(CL:BC)(n:Nat)(arg:Qaf)(Pre:Q4)(res:Qab)(out:Qaf):Sp:=λvs H Q _=>
 ∃(W:Hp) (a:A) (gp:BS),aD W (sF H gp)/\(∀c o,H c=some o->lP o=true->W c=some o)/\aS K CL H W (arg a) vs gp/\gp.Nodup/\(arg a).length=n/\Pre a/\tP CL W ∧
  ∀v H' W' fp,aD (sF H gp) H'->aD W W'->aD W' H'->(∀c o,W' c=some o->W c=none->sF H gp c=none)->(∀c o,H' c=some o->lP o=true->W' c=some o) →
   aS K CL H' W' (res a::out a) QaN fp->fp.Nodup->(∀c∈fp,W' c=none/\sF H gp c=none)->Q v H'
def Tc{w:World}{f:Addr}{arg:Qaf}{Pre:Q4}{res:Qab}{out:Qaf}(F:QcA)(S:QbO)(B:∀a,Pre a->Yy (arg a) (out a))
  (L:∀(gE:Value) (l:Qat) (outer:Da) (s:Qb) (H:Hp) (E:XK) (b:Bx) (a:A),eO k (l.deeper Qb5)->Pre a →
   eW (se lO P w K mg base N qual QaB f gE l outer s H E).La CL b (d9 st) (S9 N (arg a)) {nx:=λδ=>res a=.sh .non/\Keeps δ (out a),rt:=λt δ=>t=res a/\Keeps δ (out a)}) :
  fz P w K mg base lO (k+1) f fd ps (oe K CL ps.length arg Pre res out):=by
 refine F.ok S (λvs H Q E h=>?_) (λgE l outer s H vs Q E J h=>?_)
 .obtain⟨W,a,gp,_,_,r,_,C,_⟩:=h;rw[← r.length];exact C
 .obtain⟨W,a,gp,u,tp,r,nd,C,m,tb,kk⟩:=h;have wn:∀c∈gp,W c=none:=λc i=>by
   cases q:W c with
   | none=>rfl
   | some o=>exact absurd i (lS (u c o q)).1
  refine⟨_,Z6,L gE l outer s H E ⟨sF H gp,W⟩ a J m H W _ [] [] _ ⟨⟨gp,[],?_,.nil,by rw[km];exact nd,λc i=>?_⟩,λc o q=>(lS q).2,.refl _,λc o q=>(lS (u c o q)).2,λc o q z=>?_,tp,tb⟩ ⟨λδ' σ' H' Z' s' d e=>?_,λt v H' Z' δ' σ' s' d e=>?_,λ_ _ _ _ _ _ e=>e.elim,λ_ _ _ _ _ _ e=>e.elim⟩⟩
  .unfold S9 L2.start;rw[← r.length];exact C6 _ r
  .rw[km]at i;exact⟨wn c i,kN i⟩
  .have G:W c=some o:=q;have p:W c=none:=z;rw[G]at p;cases p
  .obtain⟨e1,e2⟩:=e;obtain⟨fp,M,re,y,n,own⟩:=d.rep;obtain⟨g,q,j⟩:=fU.outs d.zz (B a m) r re e2;have I:=(la.1 n).1;exact kk .non H' Z' ([]++g) d.bh d.zz d.zh d.new d.tp (.cons (by rw[e1];exact .sh .non) q) (I.sublist j) λc i=>own c (j1 _ (j.subset i))
  .obtain⟨e1,e2⟩:=e;subst e1;obtain⟨fp,M,re,y,n,own⟩:=d.rep;obtain⟨g,q,j⟩:=fU.outs d.zz (B a m) r re e2;cases y with
   | @cons _ _ _ _ f1 f2 D O=>
    have sub:(g++f1).Sublist (fp++(f1++f2)):=pw j (NH _ _);have pm:(f1++g).Perm (g++f1):=mN;exact kk v H' Z' (f1++g) d.bh d.zz d.zh d.new d.tp (.cons D q) (pm.nodup_iff.2 (n.sublist sub)) λc i=>own c (sub.subset (pm.mem_iff.1 i))
def KI(σ:L2.St):CO->BS->Prop
 | [],[]=>True
 | i::is,y::ys=>σ[i]? = some (some (.ref y))/\KI σ is ys
 | _,_=>False
def yd:B1->BS->B1->Prop
 | [],[],[]=>True
 | .sh _::ol,ys,ns=>yd ol ys ns
 | .pin y t::ol,z::ys,n::ns=>y=z/\(n=t\/n=.pin y t)/\yd ol ys ns
 | _,_,_=>False
noncomputable def Yz:BB->CO->B1->BB
 | δ,i::is,n::ns=>Yz (δ.set i (some n)) is ns
 | δ,_,_=>δ
theorem bB.Pf:∀{ol:B1} {us:BY} {is:CO} {ys:BS} {ns:B1} {δ:BB},bB K CL b H Z δ σ (ol++ts) (us++vs)->ol.length=us.length->KI σ is ys->yd ol ys ns->(∀i∈is,i<δ.length)->bB K CL b H Z (Yz δ is ns) σ ts vs:=by
 intro ol
 induction ol with
 | nil=>
  intro us is ys ns δ S e c a hi;cases us with
  | cons _ _=>cases e
  | nil=>
   cases ys with
   | cons _ _=>cases a
   | nil=>
    cases is with
    | cons _ _=>cases c
    | nil=>
     rw[Yz.eq_def];exact S
 | cons o ol k=>
  intro us is ys ns δ S e c a hi;cases us with
  | nil=>cases e
  | cons u us=>
  cases o with
  | sh d=>exact k S.pop (Nat.succ.inj e) c a hi
  | pin y t=>
   cases ys with
   | nil=>cases a
   | cons z ys=>
   cases ns with
   | nil=>cases a
   | cons n ns=>
   cases is with
   | nil=>cases c
   | cons i is=>
   obtain⟨h1,m,a⟩:=a;subst h1;obtain⟨g,c⟩:=c;have l:u=.ref y:=by
    obtain⟨_,_,_,r,_,_⟩:=S.rep;cases r with
    | cons r _=>cases r;rfl
   subst l;have f:=hi i fX;have h:=S.set f;rw[f9 g]at h;have q:bB K CL b H Z (δ.set i (some n)) σ (ol++ts) (us++vs):=by
    obtain rfl|rfl:=m
    .have:=(h.apP (pE f)).2
     rwa [x4]at this
    .exact h
   exact k (δ:=δ.set i (some n)) q (Nat.succ.inj e) c a λj p=>by rw[n3];exact hi j (i8 _ p)
  | _=>cases a
section
variable{D:gF}{is:CO}{fx:BS->Prop}{al:BS->B1}
def lI(X:Cx)(CL:BC)(b:Bx)(e:Expr)(δ:BB)(t:T)(δ':BB):Prop:=
 ∀(H Z:Hp) (σ:L2.St) (ts:B1) (vs:BY) (Q:VK),bB X.K CL b H Z δ σ ts vs->(∀v H' Z',aD Z Z'->bB X.K CL b H' Z' δ' σ (t::ts) QaN->Q v H')->Iw X e σ H Q
theorem cO.m(h:QaL):lI X CL b e δ t δ1:=λH Z σ ts vs Q S k=>h H Z σ ts vs Q S λv H' Z' z _ a=>k v H' Z' z a
def af6(h:QbJ)(k:D.rt t δ1):Ss X CL b (.Return (some e) pos) δ D:=λH Z σ ts vs E S M=>tO (aau dI) (h H Z σ ts vs _ S λv H1 Z1 a c=>M.rt t v H1 Z1 δ1 σ a c k)
def abE(h:QbJ)(k:D.nx δ1)(hs:QeA:=by rfl):Ss X CL b (.Expr e pos) δ D:=λH Z σ ts vs E S M=>tO (D6 dI hs) (h H Z σ ts vs _ S λv H1 Z1 a c=>M.nx δ1 σ H1 Z1 a c.pop k)
def af7(i:Nat)(h:QbJ)(k:D.nx (δ1.set i Qan))(d:Qbu:=by decide)(f:X.N.Nodup:=by assumption)(hi:X.N[i]? = some x:=by rfl)(c:Qck:=by first|exact .inl rfl|exact .inr rfl)
  (hs:Qc8:=by rfl) (hf:AM X x:=by first|exact .inl rfl|exact .inr rfl|assumption):Ss X CL b (.Assign [.Name x pos'] e pos) δ D:=λH Z σ ts vs E S M=>
 tO (aaw f hi c dI hs hf) (h H Z σ ts vs _ S λv H1 Z1 a g=>M.nx _ _ H1 Z1 a (g.set d) k)
def oI(X:Cx)(CL:BC)(b:Bx)(es:Cc)(δ:BB)(is:CO)(fx:BS->Prop)(al:BS->B1)(δ':BB):Prop:=
 ∀(H Z:Hp) (σ:L2.St) (ts:B1) (vs:BY) (Q:EN),bB X.K CL b H Z δ σ ts vs →
  (∀ys us H' Z',ys.length=is.length->KI σ is ys->fx ys->us.length=(al ys).length->aD Z Z'->aD H H'->bB X.K CL b H' Z' δ' σ ((al ys).reverse++ts) Qb1->Q us H')->Sn X es σ H Q
def tX:oI X CL b [] δ [] (λ_=>True) (λ_=>[]) δ:=λH Z σ ts vs Q S k=>IA d7 (k [] [] H Z rfl trivial trivial rfl Ql Ql S)
def qL(h1:Qej)(h2:oI X CL b es δ1 is fx al δ2)(hs:Qad:=by exact aW rfl):oI X CL b Qaa δ is fx (λys=>.sh d::al ys) δ2:=λH Z σ ts vs Q S k=>
 IA (bZ dI Fb hs) (h1 H Z σ ts vs _ S λv H1 Z1 c k1 j=>h2 H1 Z1 σ _ _ _ j λys us H2 Z2 f h hf g a k2 i=>k ys (v::us) H2 Z2 f h hf (by simp[g]) QbP Qao (by
  rw[mM,mM,jw,jw];exact i))
noncomputable def T.isRef:T->Bool
 | .lst _=>true
 | .ins _ _=>true
 | .rZ _=>true
 | .dct _=>true
 | _=>false
theorem bB.Td(S:QbS)(h:t.isRef=true):∃y,v=.ref y/\bB K CL b H Z δ σ (.pin y t::ts) (.ref y::vs):=by
 obtain⟨fp,gp,e,r,nd,k⟩:=S.rep;cases r with
 | cons r rs=>
  cases r with
  | sh r=>cases h
  | tup r _=>cases h
  | pin r=>cases h
  | CY r _ _=>cases h
  | lst r q=>exact⟨_,rfl,⟨⟨fp,_,e,.cons (.pin (.lst r q)) rs,nd,k⟩,S.bh,S.zz,S.zh,S.new,S.tp,S.tab⟩⟩
  | ins r q=>exact⟨_,rfl,⟨⟨fp,_,e,.cons (.pin (.ins r q)) rs,nd,k⟩,S.bh,S.zz,S.zh,S.new,S.tp,S.tab⟩⟩
  | rZ r q=>exact⟨_,rfl,⟨⟨fp,_,e,.cons (.pin (.rZ r q)) rs,nd,k⟩,S.bh,S.zz,S.zh,S.new,S.tp,S.tab⟩⟩
  | dct r q=>exact⟨_,rfl,⟨⟨fp,_,e,.cons (.pin (.dct r q)) rs,nd,k⟩,S.bh,S.zz,S.zh,S.new,S.tp,S.tab⟩⟩
def z8(n:Vn X i x)(h:δ[i]? = some (some (.pin y t)))(h2:oI X CL b es (δ.set i none) is fx al δ2)(hs:starEach (.Name x pos::es) X.env=(false,eval Qau X.env)::starEach es X.env:=by exact aW rfl) :
  oI X CL b (.Name x pos::es) δ (i::is) (λys=>ys.headD 0=y/\fx ys.tail) (λys=>.pin y t::al ys.tail) δ2:=λH Z σ ts vs Q S k=>by
 obtain⟨v,e,a⟩:=S.move h;have hv:v=.ref y:=by
  obtain⟨_,_,_,r,_,_⟩:=a.rep;cases r with
  | cons r _=>cases r;rfl
 subst hv;exact IA (bZ QcT Fb hs) ⟨_,e,h2 H Z σ _ _ _ a λys us H2 Z2 d g hf f c k2 j=>k (y::ys) (.ref y::us) H2 Z2 (by simp[d]) ⟨e,g⟩ ⟨rfl,hf⟩ (by simp[f]) c k2 (by
  show bB _ _ _ _ _ _ _ ((T.pin y t::al ys).reverse++ts) _;rw[mM,mM,jw,jw];exact j)⟩
def abG{f:Addr}{arg:Qaf}{Pre:Q4}{res:Qab}{out:Qaf}(a:BS->A)(ns:B1)(F:fz X.prog X.w X.K X.mg X.base lO k f fd ps Qdc)(M:eO k X.A)(hm:X.mg x=some QR)(O:Qds)(U:Qci)
  (h:oI X CL b Qaa δ is fx al δ1) (V:∀ys,ys.length=is.length->fx ys->arg (a ys)=al ys/\(arg (a ys)).length=n/\Pre (a ys)/\res (a ys)=t/\yd (out (a ys)) ys ns) (Y:∀i∈is,i<δ1.length) (R:Qal)
  (J:AD x:=by decide) (he:Qad:=by exact aW rfl) (hpl:Qap:=by rfl) :
  lI X CL b Qbf δ t (Yz δ1 is ns):=λH Z σ ts vs Q S kk=>
 cM (D8 F M R hm O U .nil qF Fb J he hpl) (h H Z σ ts vs _ S λys us H1 Z1 m Fy hf o G k1 u=>by
  rw[km];obtain⟨q,p,N,j,l⟩:=V ys m hf;obtain⟨g,r,nd,s⟩:=u.cut (by simp[o]);obtain⟨g',y,pm⟩:=r.rev;have W:sF H1 g=sF H1 g':=funext λc=>by
   by_cases d:c∈g
   .rw[kN d,kN (pm.mem_iff.2 d)]
   .rw[gZ d,gZ QdY]
  rw[W]at s;rw[← q]at y;refine⟨Z1,a ys,g',s.zh,u.tp,y,pm.nodup_iff.2 nd,p,N,u.Lh,λv H' W' fp P ww I nw tp rt Kl own=>?_⟩;cases rt with
  | @cons _ _ _ _ f1 f2 L B=>
   have E:(f2++(f1++[])).Perm (f1++f2):=by rw[km];exact mN
   have D:=s.P7 P ww I nw tp (aS.app B (.cons L .nil)) (E.nodup_iff.2 Kl) λc d=>own c (E.mem_iff.1 d);rw[jw,jw]at D;have C:=D.Pf B.length Fy l Y;rw[j]at C;exact kk v H' W' (G.trans ww) C)
structure OS(X:Cx)(CL:BC)(x:Str)(k n:Nat){A:Type}(arg:Qaf)(Pre:Q4)(res:Qab)(out:Qaf):Prop where
 ex:∃f fd ps,fz X.prog X.w X.K X.mg X.base lO k f fd ps Qdc/\X.mg x=some QR/\keepIn X.K QR=true/\Binds X.K fd ps []
 room:eO k X.A
def cM1{arg:Qaf}{Pre:Q4}{res:Qab}{out:Qaf}(a:Addr->A)(nt:T)(F:Qd5)(p:Qal)(h:oI X CL b Qaa δ [i] fx al δ1)(g:∀y,fx [y]->Pre (a y))(v:∀y,fx [y]->res (a y)=t)(s:∀y,fx [y]->yd (out (a y)) [y] [nt])
  (c:∀y,fx [y]->arg (a y)=al [y]:=by intros;rfl) (hlen:∀y,(arg (a y)).length=n:=by intros;rfl) (u:Qbu:=by exact jj rfl)
  (d:AD x:=by decide) (he:Qad:=by exact aW rfl) (hpl:Qap:=by rfl) :
  lI X CL b Qbf δ t (δ1.set i (some nt)):=by
 obtain⟨⟨f,fd,ps,G,m,q,bd⟩,r⟩:=F;exact abG (λys=>a (ys.headD 0)) [nt] G r m q bd h (λys l hf=>match ys,l,hf with | [y],_,hf=>⟨c y hf,hlen y,g y hf,v y hf,s y hf⟩) (λj o=>by cases j2.1 o;exact u) p d he hpl
def gC(g:Gx X)(n:Ln X i x)(h:QbJ)(k:eW X CL b gO (δ1.set i Qan) D)(a:Qbu:=by exact jj rfl)(hs:Qc8:=by rfl) :
  eW X CL b (.Assign [.Name x pos'] e pos::gO) δ D:=cZ (af7 i h k a g.nd n.hi n.loc hs n.hf)
def vF(h:QbJ)(k:D.rt t δ1):eW X CL b (.Return (some e) pos::gO) δ D:=cZ (af6 h k)
def Ef(h:QbJ)(k:eW X CL b gO δ1 D)(hs:QeA:=by rfl):eW X CL b (.Expr e pos::gO) δ D:=cZ (abE h k hs)
end
noncomputable def Aa{α:Type}(g:α->Int)(x:α):List α->List α
 | []=>[x]
 | y::l=>if g x<=g y then x::y::l else y::Aa g x l
def eK{α:Type}(g:α->Int):List α->List α
 | []=>[]
 | x::l=>Aa g x (eK g l)
variable{g:α->Int}
theorem BE(x:α):∀l,(Aa g x l).Perm (x::l)
 | []=>.refl _
 | y::l=>by
  rw[Aa];split
  .exact .refl _
  .exact((BE x l).cons y).trans (.swap x y l)
theorem jm:∀l:List α,(eK g l).Perm l
 | []=>.refl _
 | x::l=>(BE x _).trans ((jm l).cons x)
def lT{l:Q3}{x:α}:x∈eK g l↔x∈l:=(jm l).mem_iff
def xo(l:Q3):(eK g l).length=l.length:=(jm l).length_eq
theorem P9(f:β->α)(x:β):∀l,Aa g (f x) (l.map f)=(Aa (λy=>g (f y)) x l).map f
 | []=>rfl
 | y::l=>by
  rw[kx,Aa,Aa];split
  .rfl
  .rw[kx,P9 f x l]
theorem pQ(f:β->α):∀l:List β,eK g (l.map f)=(eK (λy=>g (f y)) l).map f
 | []=>rfl
 | x::l=>by rw[kx,eK,eK,pQ f l,P9]
def Te(g:Nat->Int)(i j:Nat):Prop:=g i<g j\/(g i=g j/\i<j)
theorem Te.trans{g:Nat->Int}(a:Te g i j)(b:Te g j k):Te g i k:=by
 unfold Te at *;lia
theorem Te.OA{g:Nat->Int}(a:Te g i i):False:=by unfold Te at a;lia
theorem Qa{g:Nat->Int}{x:Nat}:∀{l:CO},l.Pairwise (Te g)->(∀y∈l,x<y)->(Aa g x l).Pairwise (Te g)
 | [],_,_=>rh _ _
 | y::l,h,a=>by
  obtain⟨h1,h2⟩:=l7.1 h;rw[Aa];split
  .refine l7.2 ⟨λz hz=>?_,h⟩;have a1:Te g x y:=by have:=a y fX;unfold Te;lia
   obtain rfl|hz:=fO.1 hz
   .exact a1
   .exact a1.trans (h1 z hz)
  .refine l7.2 ⟨λz hz=>?_,Qa h2 λz hz=>a z (i8 _ hz)⟩;obtain rfl|hz:=fO.1 ((BE x l).mem_iff.1 hz)
   .left;lia
   grind
theorem BF{g:Nat->Int}:∀{l:CO},l.Pairwise (· < ·)->(eK g l).Pairwise (Te g)
 | [],_=>.nil
 | x::l,h=>by
  obtain⟨h1,h2⟩:=l7.1 h;exact Qa (BF h2) λy a=>h1 y (lT.1 a)
theorem LR{g:Nat->Int}:∀{S A:CO},S.Pairwise (Te g)->A.Pairwise (Te g)->(∀a∈A,a∈S)->A.length<=S.length/\(A.length=S.length->A=S)
 | [],A,_,_,h=>by
  cases A with
  | nil=>exact⟨i5 _,λ_=>rfl⟩
  | cons a A=>exact absurd (h a fX) Wm
 | s::S,[],_,_,_=>⟨kr _,λe=>by simp at e⟩
 | s::S,a::A,d,c,h=>by
  obtain⟨s1,s2⟩:=l7.1 d;obtain⟨a1,a2⟩:=l7.1 c;by_cases e:a=s
  .subst e;have q:=LR s2 a2 λz hz=>(fO.1 (h z (i8 _ hz))).resolve_left λe=>by subst e;exact(a1 _ hz).OA
   simp_all
  .have b:=(fO.1 (h a fX)).resolve_left e;have q:=LR s2 c λz hz=>by
    obtain rfl|hz:=fO.1 hz
    .exact b
    .refine(fO.1 (h z (i8 _ hz))).resolve_left λe2=>?_;subst e2;exact((s1 a b).trans (a1 _ hz)).OA
   grind
theorem abI{l r:Q3}{κ:D1}(h:r.length=l.length)(pl:∀k,k<l.length->r[k]? = l[κ k]?)(lo:∀k,k<l.length->κ k<l.length)
  (st:∀i j x y,i<j->r[i]? = some x->r[j]? = some y->g x<g y\/(g x=g y/\κ i<κ j)):r=eK g l:=by
 cases l with
 | nil=>cases r with
  | nil=>rfl
  | cons a r=>simp at h
 | cons d e=>
  generalize t:d::e=l at *
  let f:Nat->α:=λi=>(l[i]?).getD d
  have hf:∀i,i<l.length->l[i]? = some (f i):=λi hi=>by
   show _=some ((l[i]?).getD d);simp_all
  have p:l=(List.range l.length).map f:=vv λi=>by
   rw[ll];by_cases hi:i<l.length
   .rw[hf i hi,oD hi];rfl
   simp_all
  have o:r=((List.range l.length).map κ).map f:=vv λi=>by
   rw[ll,ll];by_cases hi:i<l.length
   .rw[pl i hi,hf _ (lo i hi),oD hi];rfl
   .rw[List.getElem?_eq_none Wc,List.getElem?_eq_none (by simpa using hi)];rfl
  have c:=λk b=>(pl k b).trans (hf _ (lo k b));have q:(List.range l.length).map κ=eK (λi=>g (f i)) (List.range l.length):=by
   refine(LR (BF (JJ)) (List.pairwise_map.2 ?_) λa n=>?_).2 ?_
   .refine JO (R:=(· < ·)) (λ{i j} hi m s=>?_) JJ;exact st i j _ _ s (c i (mD.1 hi)) (c j (mD.1 m))
   .obtain⟨k,b,rfl⟩:=j0.1 n;exact lT.2 (mD.2 (lo k (mD.1 b)))
   .rw[e7,xo]
  rw[o,q,← pQ,← p]
theorem Tf{c f:Value}(l:B0)(h:TriplesOk l)(e:codeAmong pos (l++[rawInt pos'.line,rawInt pos'.col,c])=some f):codeAmong pos l=some f\/f=c:=by
 fun_induction TriplesOk l with
 | case1=>
  simp[codeAmong,rawInt]at e;simp_all
 | case2 a t b u x rest g=>
  simp only[n4,codeAmong]at e ⊢;split at e
  .rename_i d;rw[dX d];exact .inl e
  .rename_i d;rw[dP d];exact g h e
 | case3 l h1 h2=>exact h.elim
def z9(f:Addr)(q:Str)(ps:Arguments)(body:Expr)(sc:Scope)(cl:List (Str×Addr))(c:Addr):Heap->Prop:=λh=>
 ∃pm a,h.get? f=some (kla_obj "<lambda>" q ps body sc cl pm c a)
structure YB(X:Cx)(CL:BC)(x q:Str):Prop where
 code:∃c,X.env.code=.ref c/\CodeHd X.base c (CL x)
 blt:∃bm o,X.mg "__builtins__" = some (.ref bm)/\bm≠builtinsNs/\bm≠mainGlobals/\X.base.get? bm=some o/\o.cls=.type "module" /\ o.dict=some builtinsNs/\o.data=.plain
 qual:X.env.qual++"<lambda>" = q
 tab:J9 x=true/\CL x≠0/\Lg x=q
variable{q:Str}{params:Arguments}{body:Expr}
def alr{Q:B2}(L:YB X CL x q)(I:Qba)(B:H (CL x)=some (.tabs q))(O1:∀y∈scope.names,y.2=.free->∃c,X.env.cells.lookup y.1=some c)
  (R:defaultsOf params X.env=([],[]))
  (k:∀f c H' s',L2.Inv X pins σ H' s'->aD H H'->H' f=some Qew->H' c=some (.XA q)->(∀b o,H' b=some o->lP o=true->H b=some o)->Q QR s') :
  wpAny Qr X.A (eval (.Lambda params body scope pos) X.env) Q X.xe s:=by
 obtain⟨c,V,hd⟩:=L.code;obtain⟨bm,ob,b1,b2,b3,b4,b5,b6,b7⟩:=L.blt;obtain⟨ps,N,tr,cs⟩:=I.f7 _ _ B;have T:∀{b:Addr} {o:Obj},X.base.get? b=some o->b≠CL x:=λ{b o} e z=>by
  have:=(I.bs _ _ e).2;rw[z,B]at this;cases this
 have U:s.heap.Ns mainGlobals X.mg:=by
  obtain⟨o,es,ep,e,r⟩:=I.mod.glob;exact⟨o,es,ep,I.bk _ _ e,r⟩
 have J:mainGlobals≠CL x:=by
  obtain⟨o,_,_,e,_⟩:=I.mod.glob;exact T e
 have Y:s.heap.BuiltinsAt X.mg (CL x):=⟨bm,ob,b1,b2,b3,T b4,I.bk _ _ b4,b5,b6,b7⟩;refine PySem.W.kla_eval R ?_;rw[L.qual];cases hf:codeAmong pos ps.toList with
 | none=>
  refine PySem.W.kla_makeFunction (mQ O1) I.ok.glob U V (hd.keeps I.bk) N tr hf J Y λg j h' tk E C nR P p=>?_;obtain⟨c₂,oc,vs,t,e2,G,K,hv⟩:=P;cases e2;have i:H g=none:=I.f7.fresh C;have m:∀{b:Addr},H b=none->b≠CL x:=λ{b} e z=>by rw[z,B]at e;cases e
  have ne':∀{b:Addr} {o:Obj},s.heap.get? b=some o->b≠g:=λ{b o} e=>k4 (mu (ke e) C);have cP:CL x≠g:=ne' N;have un:Un X.fs [] H (upd H g (.XA q)) s.heap h':=by
   refine⟨λb o e n _ _=>E b o (m n) e,λb o e n _ _=>⟨o.slots,E b o (m n) e⟩,λb o e n _=>by rw[aq (ne' e)];exact n,λb o e _=>?_,λb xs e=>by rw[aq (aP e i)];exact e,λb o u e=>by rw[aq (aP e i)];exact e,λb ps e=>⟨#[],by rw[aq (aP e i),e];simp⟩⟩;by_cases z:b=CL x
   .exact⟨_,z▸p⟩
   .exact⟨o,E b o z e⟩
  have f7:zJ X.prog X.w (upd H g (.XA q)) h':=λb u e=>by
   by_cases z:b=g
   .subst z;rw[aV]at e;cases e;exact⟨oc,vs,t,G,K,hv⟩
   .rw[aq z]at e;by_cases h:b=CL x
    .subst h;rw[B]at e;cases e;refine⟨_,p,?_,λpos' O Z=>?_⟩
     .rw[Array.toList_append];exact TriplesOk_snoc _ _ _ _ tr
     .rw[Array.toList_append]at Z;obtain F|F:=Tf _ tr Z
      .obtain⟨c3,e3,e4⟩:=cs pos' O F;exact⟨c3,e3,by rw[aq (aP e4 i)];exact e4⟩
      .exact⟨g,F,aV⟩
    .refine(I.f7 b u e).EW (λd v M r=>E d v ?_ r) (λd r=>by rw[aq (aP r i)];exact r) (λd xs r=>by rw[aq (aP r i)];exact r) λd z r=>by rw[aq (aP r i)];exact r
     rintro rfl;obtain w|w:=M
     .exact h w.symm
     .rw[B]at w;cases w
  have I1:=I.un (t':=tk) un f7;have f1:(upd H g (.XA q)) h'.objs.size=none:=f7.fresh (i5 _);have S:=I1.laid (t':=tk) (a:=h'.objs.size) (o:=.ext (z9 h'.objs.size q params body scope Qbn g)) (h':=h'.push QeN)
   (λb u e=>kv _ e) (i5 _) ⟨⟨_,_,mi _ rfl⟩,⟨_,mi _ rfl⟩,λh1 h2 ⟨pm,ct,e⟩ kk=>⟨pm,ct,kk _ e⟩⟩
  refine k _ g _ _ S (λb o e=>?_) aV ?_ λb o e im=>?_
  .have l:=aP e i;have h:b≠h'.objs.size:=λz=>by
    rw[← z,aq l,e]at f1;cases f1
   rw[aq h,aq l];exact e
  .rw[aq (k4 nR),aV]
  .by_cases h:b=h'.objs.size
   .subst h;rw[aV]at e;cases e;cases im
   .rw[aq h]at e;by_cases l:b=g
    .subst l;rw[aV]at e;cases e;cases im
    .rw[aq l]at e;exact e
 | some O=>
  obtain⟨g,rfl,D⟩:=cs pos O hf;refine PySem.W.kla_makeFunctionHit (mQ O1) I.ok.glob U V (hd.keeps I.bk) N tr hf Y λj h' tk hk hsz=>?_;have S:=I.laid (t':=tk) (a:=h'.objs.size) (o:=.ext (z9 h'.objs.size q params body scope Qbn g)) (h':=h'.push QeN)
   (λb u e=>kv _ (hk _ _ e)) hsz ⟨⟨_,_,mi _ rfl⟩,⟨_,mi _ rfl⟩,λh1 h2 ⟨pm,ct,e⟩ kk=>⟨pm,ct,kk _ e⟩⟩
  have f1:H h'.objs.size=none:=I.f7.fresh hsz;refine k _ g _ _ S (λb o e=>by rw[aq (aP e f1)];exact e) aV (by rw[aq (aP D f1)];exact D) λb o e im=>?_;by_cases h:b=h'.objs.size
  .subst h;rw[aV]at e;cases e;cases im
  .rw[aq h]at e;exact e
def C7(X:Cx)(A:Qat)(q:Str)(scope:Scope)(Nc:At)(f c:Addr)(s:Qb)(H:Hp):Cx where
 prog:=X.prog
 w:=X.w
 K:=X.K
 mg:=X.mg
 base:=X.base
 A:=A.deeper (envX q scope s.heap.objs.size f (.ref c) Qbn)
 N:=Nc
 jx:=s
 nq:=H
 env:=envX q scope s.heap.objs.size f (.ref c) Qbn
 outer:=X.stack
 stack:=envX q scope s.heap.objs.size f (.ref c) Qbn::X.stack
 ex:=[]
 fn:=λ_=>false
 calm:=true
 pn:=[]
 xe:=λ_ _=>False
variable{A:Qat}{f c:Addr}
def YC(sc:Qc5)(I:Qba)(hA:A.frames=some X.stack)(hh:A.handled=none){h':Heap}{tk:Nat}{u:Value}(r:RelV v u)
  (Z:h'.Ns s.heap.objs.size (λy=>([(x,u)]:DA).reverse.lookup y)) (C:∀b o,s.heap.get? b=some o->h'.get? b=some o) :
  L2.Inv Qdf [] (yC σ ix Qav) H {s with heap:=h',toks:=tk}:=by
 have frees:∀y∈scope.names,y.2=.free->∃c,X.env.cells.lookup y.1=some c:=λy G e=>I.ok.has y.1 (sc.frees y G e).2;have sub:∀{y:Str} {c:Addr},(eV X.env scope.names []).lookup y=some c->X.env.cells.lookup y=some c:=λ{y c} e=>tS frees (λ_ _ z=>by cases z) e;have hlen:(yC σ ix Qav).length=Nc.length:=by
  have all:∀l:CO,(∀i∈l,∃y,X.N[i]? = some y/\scope.names.lookup y=some .free)->(l.filterMap (X.N[·]?)).length=l.length:=by
   intro l
   induction l with
   | nil=>intro _;rfl
   | cons i r E=>
    intro h;obtain⟨y,e,_⟩:=h i fX;rw[nc,e];show _+1=_+1;rw[E λj t=>h j (i8 _ t)]
  unfold yC;rw[sc.hd,lr,lr,e7,all ix sc.rF]
 have nil:∀b:Addr,b∉(C7 X A q scope Nc f c s H).ex:=λb z=>absurd (show b∈([]:BS) from z) Wm;refine⟨⟨I.ok.mod,sc.kind,rfl,rfl,i5 _,λy z c h1 h2=>I.ok.inj y z c (sub h1) (sub h2),λy G=>?_,λy c hf _=>(by cases (show false=true from hf)),λ_=>hh,Around.frames_deeper hA,.inr ⟨rfl,rfl⟩,λb L=>absurd L (nil b),I.bs,kM I.ok.pj I.sz,λb o _=>nil b,λb L=>absurd L (nil b),I.stack,I.K8⟩,
  rfl,I.bare,Un.kept C,⟨_,Z,λi y w h1 h2 h3=>?_⟩,λy c e=>?_,I.f7.fresh (i5 _),λy c e=>I.vh y c (sub e),λp W=>absurd (show p∈([]:BM) from W) Wm,I.f7.kept C,hlen⟩
 .have F:scope.names.lookup y=some .cell\/scope.names.lookup y=some .free:=G;obtain z|z:=F
  .exact absurd rfl (sc.Bt _ (rb z))
  .exact pW z
 .unfold yC at h2;cases i with
  | zero=>
   have d:some Qav=some (some w):=h2;cases d;have e:y=x:=by
    have g:Nc[0]? = some y:=h1;rw[sc.hd]at g;exact(l1 g).symm
   subst e;refine⟨u,r,.inl ⟨sc.own,?_⟩⟩;simp
  | succ i=>
   rw[List.getElem?_cons_succ,ll]at h2;cases D:ix[i]? with
   | none=>rw[D]at h2;cases h2
   | some j=>
    rw[D]at h2;have d:(σ[j]?).getD none=some w:=l1 h2;have t:σ[j]? = some (some w):=by
     cases q:σ[j]? with
     | none=>rw[q]at d;cases d
     | some o=>rw[q]at d;exact congrArg some d
    obtain⟨m,n,k⟩:=sc.rF j (l3 D);have M:Nc[i+1]? = some m:=by
     have all:∀(l:CO) (i:Nat),(∀j∈l,∃y,X.N[j]? = some y/\scope.names.lookup y=some .free)->l[i]? = some j->(l.filterMap (X.N[·]?))[i]? = some m:=by
      intro l
      induction l with
      | nil=>intro i _ h;simp at h
      | cons a r E=>
       intro i h hi;obtain⟨ya,O,_⟩:=h a fX;rw[nc,O];cases i with
       | zero=>
        simp at hi;subst hi;rw[n]at O;cases O;rfl
       | succ i=>exact E i (λj t=>h j (List.mem_cons_of_mem _ t)) (by simpa using hi)
     rw[sc.hd,List.getElem?_cons_succ];exact all ix i sc.rF D
    have ey:m=y:=by
     have g:Nc[i+1]? = some y:=h1;rw[M]at g;exact l1 g
    subst ey;have S:=(sc.frees (m,.free) (rb k) rfl).2;have P:tj X.env.scope m:=S.elim (λz=>.inr (.inl z)) (λz=>.inr (.inr z));obtain⟨m0,Y,K⟩:=I.loc;obtain⟨U,V,lk⟩:=K j m w n t P;refine⟨U,V,?_⟩;obtain⟨kk,_⟩|⟨_,c',hc,T⟩:=lk
    .obtain z|z:=S
     .rw[kk]at z;cases z
     .rw[kk]at z;cases z
    .obtain⟨R,B⟩:=pW (env:=X.env) (cs:=[]) k;have:R=c':=by
      have:=sub B;rw[hc]at this;exact(l1 this).symm
     subst this;obtain⟨o,J,hd⟩:=T;exact .inr ⟨.inr k,R,B,o,C _ _ J,hd⟩
 .obtain⟨v,o,J,hd⟩:=I.cell y c (sub e);exact⟨v,o,C _ _ J,hd⟩
def abK{u:Value}{Q:VK}(sc:Qc5)(I:Qba)(G:A.frames=some X.stack)(E:A.handled=none)(k:A.depth<recursionLimit)
  (hf:H f=some Qew) (F:H c=some (.XA q)) (r:RelV v u)
  (M:∀cl pm cd ct u,bindArgs (kla_fn "<lambda>" q params body scope cl pm cd ct) ⟨[u],[]⟩=pure [(x,u)]) (j:scope.isCoroutine=false) (l:scope.isGenerator=false)
  (h:Iw Qdf body (yC σ ix Qav) H Q):wpAny Qr A (call QR [u]) Qa2 QbC s:=by
 obtain⟨⟨pm,L,C⟩,_⟩:=I.f7 _ _ hf;obtain⟨oc,vs,t,e1,e2,K⟩:=I.f7 _ _ F;refine wpAny_call (PySem.W.kla_callFunE k C rfl j l rfl ⟨c,oc,vs,t,rfl,e1,e2,K⟩ ?_);rw[M];refine kA (wpAny_newFunctionEnv sc.Bt (λy p=>?_) (λa i g=>?_) sc.kind)
 .rw[j2.1 p];exact sc.own
 .have m:∀b o,s.heap.get? b=some o->a.get? b=some o:=λb o e=>(g.2 b (k4 (ke e))).trans (kv _ e);refine⟨I.nolimit.keeps m,?_⟩;have J:=YC (q:=q) (f:=f) (c:=c) (tk:=s.toks+([(x,u)]).length) sc I G E r i m;refine PySem.W.kla_codeExpr (m3 (h [] _ J) (λw s' D=>?_) λe s' z=>False.elim z);obtain⟨v',H',d,n,B⟩:=D;exact I.after ⟨v',H',d.os,d.bare,d.base,d.f7,n,B⟩
theorem YD(I:Qba)(fp:oM X pins H a)(new:gW X.prog X.w QbF s.heap a o):L2.Inv X pins σ (upd H a o) s:=by
 have d:=fp.1;refine I.step (ch:=[a]) (λb g=>?_) (λb o _ _ _ e _=>e) (λb o _ _ _ e _=>⟨ _,e⟩) (λb o f _ n=>by rw[aq λz=>f (by simp[z])];exact n)
  (λb o _ e=>⟨o,e⟩) (λb xs e=>aq (aP e d)▸e) (λb o u e=>aq (aP e d)▸e) (λb ps e=>⟨#[],by rw[aq (aP e d),e];simp⟩) (λm hm=>hm) (λb u e=>?_) I.bare
 .have e:=by simpa using g
  subst e;exact⟨fp.2.2.2.1,fp.2.1,fp.2.2.2.2.1,fp.2.2.2.2.2⟩
 .by_cases z:b=a
  .subst z;rw[aV]at e;grind
  .rw[aq z]at e;exact(I.f7 b u e).EW (λ_ _ _ q=>q) (λc q=>aq (aP q d)▸q) (λc xs q=>aq (aP q d)▸q) λc z q=>aq (aP q d)▸q
def ye(kz:AT)(xs:BY):BY:=(eK Prod.fst (kz.zip xs)).map Prod.snd
section
variable{Fq:α->β->Prop}{g1:α->Int}{g2:β->Int}
theorem Qd(d:∀p q,Fq p q->g1 p=g2 q){x:α}{y:β}(c:Fq x y){b:Q3}{a:List β}(h:Paired Fq b a):Paired Fq (Aa g1 x b) (Aa g2 y a):=by
 induction h with
 | nil=>exact .cons c .nil
 | @cons p q b a r t i=>
  rw[Aa,Aa,d x y c,d p q r];split
  .exact .cons c (.cons r t)
  .exact .cons r i
theorem Ab(c:∀p q,Fq p q->g1 p=g2 q){b:Q3}{a:List β}(h:Paired Fq b a):Paired Fq (eK g1 b) (eK g2 a):=by
 induction h with
 | nil=>exact .nil
 | cons r _ i=>exact Qd c r i
end
theorem FD:∀{ks us:B0} {kz:AT} {xs:BY},IntsAre ks kz->Vals xs us->Paired (λ(p:Int×V) (q:Value×Value)=>p.1=numOf q.1/\RelV p.2 q.2) (kz.zip xs) (ks.zip us)
 | _,_,_,_,.nil,_=>.nil
 | _,_,_,_,.cons n t h,.nil=>.nil
 | _,_,_,_,.cons n t h,.cons r a=>.cons ⟨rfl,r⟩ (FD h a)
theorem abL{ps:List (Int×V)}{a:List (Value×Value)}(h:Paired (λ(p:Int×V) (q:Value×Value)=>p.1=numOf q.1/\RelV p.2 q.2) ps a):Vals (ps.map Prod.snd) (a.map Prod.snd):=by
 induction h with
 | nil=>exact .nil
 | cons r _ i=>exact .cons r.2 i
theorem Qe{keys:CI}{us:B0}{xs:BY}{kz:AT}(a:IntsAre keys.toList kz)(r:Vals xs us){arr:EQ}{κ:D1}
  (t:Tag QcX arr κ (keys.zip us.toArray).size) (o:vD arr κ (keys.zip us.toArray).size) (hz:arr.size=(keys.zip us.toArray).size):Vals (ye kz xs) (arr.map (·.2)).toList:=by
 have g:=ksk_zip keys us;have d:(keys.toList.zip us).length=(keys.zip us.toArray).size:=by simp
 have e:arr.toList=eK (λp=>numOf p.1) (keys.toList.zip us):=by
  refine abI (κ:=κ) Wp (λk a=>?_) (λk a=>?_) λi j x y l c b=>?_
  .rw[d]at a;rw[IT,t.pl k a,← g,IT]
  .rw[d]at a ⊢;exact t.lo k a
  .rw[IT]at c b;have f:=(Array.getElem?_eq_some_iff.1 b).1;have q:=o i j l (hz▸f);unfold PyProof.Rows.K at q;rw[c,b]at q;exact q
 rw[Array.toList_map,e];exact abL (Ab (λp q h=>h.1) (FD a r))
section
variable{kS l:Addr}{us:B0}{xs:BY}{kz:AT}{J:Hp->Prop}{e1:Nat}{P:PySem.Fin->Shared->Prop}
def Eg(I:Qba)(fp:oM X pins H it)(g:Obj->Obj):L2.Inv X pins σ H {s with heap:=s.heap.update it g}:=by
 have s1:=Heap.SameBut.update s.heap it g;exact I.turned (λb o n q=>(s1.2 b n).trans q) fp.1 fp.2.1 fp.2.2.2.1 fp.2.2.2.2.1 fp.2.2.2.2.2
theorem Wr{st:SortSt}{keys:CI}{e:Nat}(I:Qba)(k:oM X pins H kS)(l:oM X pins H a)(d:kS≠a)(ok:s.heap.get? kS=some (seqObj "list" keys e))(i:s.heap.get? a=some (seqObj "list" #[] e1))
  (j:keys.size<64) (hsz:(arrOf st).size<64) (f:failedOf st=none)
  (h:∀s' c,L2.Inv X pins σ H s'->s'.heap.get? a=some (seqObj "list" ((arrOf st).map (·.2)) c)->P (.done (.ret .none)) s') :
  wpAny Qr A (ksk_tail a false e1 (.ref kS) st) P E s:=by
 have s1:=Heap.SameBut.update s.heap kS (Obj.mapSeq λ_=>(#[]:CI));have o:=Eg I k (Obj.mapSeq λ_=>(#[]:CI));have b:(s.heap.update kS (Obj.mapSeq λ_=>(#[]:CI))).get? a=some (seqObj "list" #[] e1):=(s1.2 a d.symm).trans i;have n:=Eg o l (Obj.mapSeq λ_=>(arrOf st).map (·.2));obtain⟨g,m⟩:∃g,((s.heap.update kS (Obj.mapSeq λ_=>(#[]:CI))).update a (Obj.mapSeq λ_=>(arrOf st).map (·.2))).get? a=some (seqObj "list" ((arrOf st).map (·.2)) g):=
  ⟨_,get?_update_seq b λ_=>(arrOf st).map (·.2)⟩
 unfold ksk_tail
 try dsimp only
 refine i9 (listUpdate_at ok rfl ?_ (by rw[mv];lia) (kr _));refine i9 (wpAny_letGo ?_);refine i9 (seqEpoch_at b rfl ?_);refine i9 (listUpdate_at b rfl ?_ (kr _) (by simp only[oa,n2,Array.size_map];rw[mv];lia));rw[f];simp only[bne_self_eq_false,oa,n2];exact kA (h _ g n m)
theorem alw{keys:CI}{e:Nat}(I:Qba)(m:oM X pins H kS)(p:oM X pins H a)(f:kS≠a)(ok:s.heap.get? kS=some (seqObj "list" keys e))(l:s.heap.get? a=some (seqObj "list" #[] e1))
  (g:IntsAre keys.toList kz) (hlen:kz.length=us.length) (v:us.length<64) (r:Vals xs us)
  (h:∀s' out c,L2.Inv X pins σ H s'->s'.heap.get? a=some (seqObj "list" out c)->Vals (ye kz xs) out.toList->P (.done (.ret .none)) s') :
  wpAny Qr A (ksk_end a false us.toArray e1 (.ref kS) keys) P E s:=by
 have hsz:keys.size=us.length:=by
  have h1:=g.length;rw[Array.length_toList]at h1;lia
 have d:(keys.zip us.toArray).size=us.length:=by rw[Array.size_zip,hsz,oy,Nat.min_self]
 have t0:∀n,Tag QcX QcX id n:=λn=>⟨λ_ _=>rfl,λ_ q=>q,λ_ _=>rfl⟩;unfold ksk_end
 try dsimp only
 simp only[oa,n2];by_cases h2:us.toArray.size<2
 .rw[dX h2,dX h2];refine i9 (kA ?_);rw[StateT.run_pure];refine i9 (kA ?_)
  try dsimp only
  rw[oy]at h2;refine Wr (st:=SortSt.mk' general' QcX #[] 7 none) I m p f ok l Wc (by show(keys.zip us.toArray).size<64;lia) rfl λs' c k o'=>h s' _ c k o' ?_;exact Qe g r (arr:=keys.zip us.toArray) (κ:=id) (t0 _) (λi j y x=>by lia) rfl
 .rw[dP h2,dP h2];rw[oy]at h2;rw[ksk_kind g (by rw[hsz];lia)];refine i9 (kA ?_);refine i9 (m3 (Yx (a₀:=keys.zip us.toArray) (st:=SortSt.mk' oneType' QcX #[] 7 none)
   (Q:=λ_ b=>failedOf b=none/\∃κ,Tag QcX (arrOf b) κ (keys.zip us.toArray).size/\vD (arrOf b) κ (keys.zip us.toArray).size/\(arrOf b).size=(keys.zip us.toArray).size)
   (ksk_intKeys g) ⟨Array.Perm.refl _,rfl,rfl,rfl⟩ (t0 _) (by rw[d];lia) (by rw[d];exact v) λz κ a1 a2 a3 a4=>⟨a1,κ,a2,a3,a4⟩) ?_ λ_ _ e=>e)
  rintro⟨⟨⟩,b⟩ s' ⟨rfl,hf,κ,t,o,hz⟩
  try dsimp only
  have u:(arrOf b).size=(keys.zip us.toArray).size:=hz;exact Wr I m p f ok l Wc Wc hf λs' c k o'=>h s' _ c k o' (Qe g r t o hz)
def zd{b:Addr}(fp:oM X pins H b)(h:H' b=none):oM X pins H' b:=⟨h,fp.2⟩
theorem af8(I:Qba)(C:oM X pins H kS)(L:oM X pins H a)(t:kS≠a)(ok:s.heap.get? kS=some (seqObj "list" #[] 0))(U:s.heap.get? a=some (seqObj "list" #[] e1))(Z:J H)
  (hlen:kz.length=us.length) (SW:us.length<64) (r:Vals xs us)
  (turn:∀(i:Nat) (x:V) (k:Int),xs[i]? = some x->kz[i]? = some k->∀(R:BM) (s':Qb) (u:Value) (H':Hp),L2.Inv X R σ H' s'->J H'->RelV x u →
   wpAny Qr A (call QR [u]) (EP X R σ λv O=>v=.int k/\J O) QbC s')
  (h:∀s' H' out c,L2.Inv X pins σ H' s'->J H'->H' a=none->s'.heap.get? a=some (seqObj "list" out c)->Vals (ye kz xs) out.toList->P (.done (.ret .none)) s') :
  wpAny Qr A (ksk_rest a QR false us.toArray e1 (.ref kS)) P E s:=by
 unfold ksk_rest;refine i9 (wpAny_rule ?_)
 first
  | rw[List.forIn_toArray]
  | (rw[← Array.forIn_toList];simp only[List.toList_toArray])
  | rw[← Array.forIn_toList]
 refine i9 (ksk_fold (λi s'=>∃H' g e,L2.Inv X pins σ H' s'/\J H'/\H' kS=none/\H' a=none/\s'.heap.get? kS=some (seqObj "list" g e)/\s'.heap.get? a=some (seqObj "list" #[] e1)/\IntsAre g.toList (kz.take i)) us 0 s
  ⟨H,#[],0,I,Z,C.1,L.1,ok,U,by simpa using IntsAre.nil⟩ ?step ?done)
 case step=>
  rintro j u s' S ⟨H',g,e,N,G,F,na,d,l,n⟩;simp only[x5]at n ⊢;have hj:j<us.length:=(lL.1 S).1;obtain⟨k,q⟩:∃k,kz[j]? = some k:=⟨_,l9 Wc⟩;obtain⟨x,p⟩:∃x,xs[j]? = some x:=⟨_,l9 (by rw[r.length];exact hj)⟩;have T:RelV x u:=by
   obtain⟨u',e1,e2⟩:=r.get p;rw[S]at e1;cases e1;exact e2
  have hz:g.size<=us.length:=by
   have h1:=n.length;rw[Array.length_toList,mT]at h1;lia
  have Ip:=N.pinned (fp:=[kS,a]) (λb m=>by
   obtain rfl|m:=fO.1 m
   .exact zd C F
   .rw[j2.1 m];exact zd L na) (λb m=>by
   obtain rfl|m:=fO.1 m
   .exact⟨_,d,λv z=>by cases z⟩
   .rw[j2.1 m];exact⟨_,l,λv z=>by cases z⟩)
  refine i9 (wpAny_attempt (m3 (turn j x k p q _ _ u H' Ip G T) (λv o he=>?_) λ_ _ hF=>hF.elim));obtain⟨w,H2,y,D,rfl,Y⟩:=he;obtain⟨t2,rfl⟩:=D
  try dsimp only
  have B:=y.pin (kS,seqObj "list" g e) (js _ (js _ (lN Wm d)));have pa:=y.pin (a,seqObj "list" #[] e1) (js _ (js _ (lN Wm l)));have I3:=Eg y.vm (zd C B.2.1) (Obj.mapSeq (·.push (.int k t2)));have s1:=Heap.SameBut.update o.heap kS (Obj.mapSeq (·.push (.int k t2)));obtain⟨M,Yd⟩:∃M,(o.heap.update kS (Obj.mapSeq (·.push (.int k t2)))).get? kS=some (seqObj "list" (g.push (.int k t2)) M):=⟨_,get?_update_seq B.1 (·.push (.int k t2))⟩;have ek:kz.take QA=kz.take j++[k]:=by rw[ri,q];simp
  have ea:(g.push (Value.int k t2)).toList=g.toList++[Value.int k t2]:=by simp
  refine i9 (listUpdate_at B.1 rfl ?_ (by rw[mv];lia) (kM (Nat.le_of_eq (Array.size_push ..)) (by rw[mv];lia)));exact kA ⟨rfl,H2,g.push (.int k t2),M,I3,Y,B.2.1,pa.2.1,Yd,(s1.2 a t.symm).trans pa.1,by rw[ea,ek];exact ksk_snoc n⟩
 case done=>
  rintro s' ⟨H',g,e,N,G,F,na,d,l,n⟩;have K:IntsAre g.toList kz:=by
   have e3:kz.take (0+us.length)=kz:=List.take_of_length_le Wc;rw[e3]at n;exact n
  try dsimp only
  refine i9 (listItems_at d rfl ?_);exact alw N (zd C F) (zd L na) t d l K hlen SW r λs2 out c y W v2=>h s2 H' out c y G na W v2
theorem af9(I:Qba)(p:oM X pins H a)(g:s.heap.get? a=some (seqObj "list" us.toArray n))(q:J H)
  (hlen:kz.length=us.length) (y:us.length<64) (r:Vals xs us)
  (turn:∀(i:Nat) (x:V) (k:Int),xs[i]? = some x->kz[i]? = some k->∀(m:BM) (s':Qb) (u:Value) (H':Hp),L2.Inv X m σ H' s'->J H'->RelV x u →
   wpAny Qr A (call QR [u]) (EP X m σ λv l=>v=.int k/\J l) QbC s')
  (h:∀s' H' out c,L2.Inv X pins σ H' s'->J H'->H' a=none->s'.heap.get? a=some (seqObj "list" out c)->Vals (ye kz xs) out.toList->P (.done (.ret .none)) s') :
  wpAny Qr A (ksk_tree a QR false) P E s:=by
 have t:=ke g;obtain⟨e1,d⟩:∃e1,(s.heap.update a _).get? a=some (seqObj "list" #[] e1):=⟨_,get?_update_seq g λ_=>#[]⟩;have B:=Eg I p (Obj.mapSeq λ_=>(#[]:CI));have j:((s.heap.update a (Obj.mapSeq λ_=>(#[]:CI))).push (seqObj "tuple" us.toArray 0)).objs.size=s.heap.objs.size+1:=by simp
 have z:L2.Inv X pins σ H {s with heap:=((s.heap.update a _).push (seqObj "tuple" us.toArray 0)).push (seqObj "list" #[] 0)}:=
  B.kept (t':=s.toks) λb o e=>kv _ (kv _ e)
 unfold ksk_tree;refine i9 (listItems_at g rfl ?_);refine i9 (listUpdate_at g rfl ?_ (by rw[oy,mv];lia) (kr _));refine i9 (seqEpoch_at d rfl ?_);refine i9 (wpAny_newTuple ?_ (by show us.length<=_;rw[mv];lia));refine i9 (wpAny_newList ?_ (kr _));refine x1 ?_;refine af8
  z (I.Iq Wm (I.f7.fresh Wm)) p (by rw[j];exact Nat.ne_of_gt (Nat.lt_succ_of_lt t)) (mi _ rfl) (kv _ (kv _ d)) q hlen y r turn h
theorem YF{Q:VK}(I:Qba)(z:nT X.K H l xs)(hlen:kz.length=xs.length)(L:xs.length<64)(y:J H)
  (turn:∀(i:Nat) (x:V) (k:Int),xs[i]? = some x->kz[i]? = some k->∀(n:BM) (s':Qb) (u:Value) (H':Hp),L2.Inv X n σ H' s'->J H'->RelV x u →
   wpAny Qr X.A.in1.in1 (call QR [u]) (EP X n σ λv j=>v=.int k/\J j) QbC s')
  (h:∀D H',J H'->H' D=none->Q (.ref D) (upd H' D (.lst (ye kz xs)))) :
  wpAny Qr X.A (call (.builtin "sorted") [.ref l] [(Str.ofString "key",.ref f)]) Qa2 E s:=by
 obtain⟨us,r,pl,hz⟩:=I.list z;have G:=r.length;have B:s.heap.IsList l us.toArray:=pl.isList;refine call_function_entry_kw kind_sorted plain_sorted entry_sorted (ksk_s1 _ _) ?_;unfold Builtin.«sorted»;refine i9 (m:=checkCount "sorted" 1 1 _) (kA ?_);refine i9 (collect_list B ?_ (by rw[mv];lia));refine i9 (wpAny_newList ?_ (by rw[mv];lia));have hsz:((s.heap.push (seqObj "list" #[] 0)).update s.heap.objs.size (Obj.mapSeq (· ++ us.toArray))).objs.size=s.heap.objs.size+1:=by
  rw[Heap.size_update,size_push']
 have a:(((s.heap.push (seqObj "list" #[] 0)).update s.heap.objs.size (Obj.mapSeq (· ++ us.toArray))).push Qde).get? Qa9=some Qde:=by
  rw[← hsz];exact mi _ rfl
 have keep:∀b o,s.heap.get? b=some o->(((s.heap.push (seqObj "list" #[] 0)).update s.heap.objs.size (Obj.mapSeq (· ++ us.toArray))).push Qde).get? b=some o:=λb o q=>by
  have d:b<s.heap.objs.size:=ke q;rw[Heap.get?_push_ne _ _ _ (by rw[hsz];exact k4 (Nat.lt_succ_of_lt d)),Heap.get?_update_ne _ _ _ _ (k4 d),Heap.get?_push_ne _ _ _ (k4 d)];exact q
 show wpAny _ _ _ _ _ {s with heap:=((s.heap.push (seqObj "list" #[] 0)).update s.heap.objs.size (Obj.mapSeq (· ++ us.toArray))).push Qde};rw[hsz];have C:L2.Inv X pins σ H {s with heap:=((s.heap.push (seqObj "list" #[] 0)).update s.heap.objs.size (Obj.mapSeq (· ++ us.toArray))).push Qde}:=I.kept (t':=s.toks) keep;have p:∀{H':Hp},H' Qa9=none->oM X pins H' Qa9:=λ{H'} e=>I.Iq (nZ _) e;refine i9 (x1 (wpAny_call_entry_kw slot_list_sort ⟨_,a,rfl⟩ entry_list_sort ?body (ksk_l1 _ _)))
 case body=>
  have g:=ksk_t1 f Qa9;show wpAny Qr X.A.in1.in1 (Builtin.«list.sort» ⟨[.ref Qa9],[(Str.ofString "key",.ref f)]⟩) _ _ _;rw[g];refine af9 C (p (I.f7.fresh (nZ _))) a y Wc Wc r turn λs' H' out c F t na o' v'=>⟨_,rfl,?_⟩;refine kA ⟨_,rfl,.ref Qa9,_,YD F (p na) (o:=.lst (ye kz xs)) ⟨?_,out.toList,c,v',?_⟩,rfl,h _ H' t na⟩
  .have:(ye kz xs).length=xs.length:=by
    unfold ye;rw[e7,xo,List.length_zip,hlen,Nat.min_self]
   rw[this];exact hz
  .simpa using o'
end
variable{g:D->Int}
def YG{ds:BA}(h:az K CL Z ds us):Paired (λ(d:D) (p:Int×V)=>g d=p.1/\bQ K CL Z d p.2) ds ((ds.map g).zip us):=
 az.ind (P:=λds us=>Paired _ ds ((ds.map g).zip us)) .nil (λr _ i=>.cons ⟨rfl,r⟩ i) h
theorem YH{ds:BA}{ps:List (Int×V)}(h:Paired (λ(d:D) (p:Int×V)=>g d=p.1/\bQ K CL Z d p.2) ds ps):az K CL Z ds (ps.map Prod.snd):=by
 induction h with
 | nil=>exact .nil
 | cons r _ i=>exact .cons r.2 i
noncomputable def YJ{ds:BA}(r:az K CL Z ds us):az K CL Z (eK g ds) (ye (ds.map g) us):=YH (Ab (λp q h=>h.1) (YG r))
def apY(X:Cx)(CL:BC)(q:Str)(scope:Scope)(Nc:At)(body:Expr)(δc:BB)(ds:BA)(g:D->Int):Prop:=
 ∀f c s0 b a d,d∈ds->dM (C7 X X.A.in1.in1 q scope Nc f c s0 b) CL a body (some (.sh d)::δc) (.int (g d)) (some (.sh d)::δc)
variable{g:L3.D->Int}{y tx:Str}{lp:Pos}
theorem yI(L:YB X CL tx q)(g0:Gx X)(dp:X.A.depth<recursionLimit)(hm:X.mg "sorted" = none)(hg:Gl X "sorted")(sc:QcD)(h:QbT)(hi:QbE)(hl:ds.length<64)
  (inner:apY X CL q scope Nc body (Ff δ1 ix) ds g) (P:defaultsOf params X.env=([],[]):=by rfl)
  (Qc:∀cl pm cd ct u,bindArgs (kla_fn "<lambda>" q params body scope cl pm cd ct) ⟨[u],[]⟩=pure [(y,u)]:=by intros;rfl) (G:scope.isCoroutine=false:=by rfl) (O:scope.isGenerator=false:=by rfl)
  (hs:Qah:=by exact aW rfl) :
  cO X CL b (.Call (.Name "sorted" pp) [e] [⟨some "key",.Lambda params body scope lp,p2⟩] pos) δ (.lst ((eK g ds).map T.sh)) δ1:=by
 intro H Z σ ts vs Q S k pins s I;have m:PA X [e] (VZ (Iw X e) XS):=bZ dI d7 hs;have hk:PK X [⟨some "key",.Lambda params body scope lp,p2⟩] (VZ (Iw X (.Lambda params body scope lp)) XS):=V0 dI aaK;refine tf (qV I hg hm tV ?_);refine callWith_kw (f6 (m pos pins s σ H (λE H1=>∃v Z1,E=[v]/\aD Z Z1/\aD H H1/\bB X.K CL b H1 Z1 δ1 σ ts vs/\bQ X.K CL H1 (.lst ds) v) I (h H Z σ ts vs _ S λv H1 Z1 C k1 l r=>⟨v,Z1,rfl,C,k1,l,r⟩)) λus s1 zz=>?_) (by rw[hs];rfl) (by rw[hs];rfl) rfl rfl;obtain⟨Y,H1,I1,r1,v1,Z1,e1,C,k1,l,rep1⟩:=zz;subst e1;have N:H1 (CL tx)=some (.tabs q):=by
  have:=l.Pr tx L.tab.1 L.tab.2.1;rw[L.tab.2.2]at this;exact this
 refine f6 (hk pos pins s1 σ H1 (λzs H2=>∃f c,zs=[.ref f]/\aD H1 H2/\H2 f=some Qew/\H2 c=some (.XA q)) I1
  (λpT s' V=>alr L V N (λy hy e=>V.ok.has y.1 (sc.frees y hy e).2) P λf c H2 s2 U k2 hf M _=>⟨.ref f,H2,U,rfl,f,c,rfl,k2,hf,M⟩)) λws s2 zz=>?_
 obtain⟨zs,H2,U,rz,f,c,e2,k2,hf,M⟩:=zz;subst e2;obtain⟨u,rfl,ru⟩:=rz.one;cases ru;obtain⟨v,rfl,rv⟩:=r1.one;obtain⟨p,RP,rfl,hq,F⟩:=rep1.gR;cases rv;show wpAny _ _ (call (.builtin "sorted") [.ref p] [(Str.ofString "key",.ref f)]) _ _ s2;have hlen:=F.length;refine YF (J:=λj=>∃Z3,aD H2 j/\aD H2 Z3/\aD Z3 j/\∀a o,j a=some o->lP o=true->Z3 a=some o) (kz:=ds.map g) U (k2.seq hq) (by rw[e7,hlen]) Wc
  ⟨H2,.refl _,.refl _,.refl _,λ_ _ q _=>q⟩ (λi x kk hx w pT s' u j R zz rx=>?_) λD j zz hD=>?_
 .obtain⟨Z3,a1,a2,a3,a4⟩:=zz;obtain⟨d,hd,rd⟩:=F.X3 hx;have ek:kk=g d:=by
   rw[ll,hd]at w;exact(l1 w).symm
  subst ek;refine abK sc R R.ok.frames (R.ok.hd g0.calm) dp (a1 _ _ hf) (a1 _ _ M) rx Qc G O ?_;have S0:bB X.K CL ⟨j,Z3⟩ j Z3 (some (.sh d)::Ff δ1 ix) (yC σ ix (some x)) [] []:=
   ⟨⟨[]++[],[],.cons (.sh (rd.mono (k2.trans a2))) ((zR l ix j).mono (k2.trans a2) λa m=>by cases m),.nil,sm,λa m=>by cases m⟩,.refl _,.refl _,a3,λa o q z=>(by have n:Z3 a=none:=z;rw[show Z3 a=some o from q]at n;cases n),a4,l.Pr.mono (k2.trans a2)⟩
  refine inner f c s' j ⟨j,Z3⟩ d (l3 hd) j Z3 _ [] [] _ S0 λv H5 Z5 W k5 B r5=>⟨?_,Z5,a1.trans k5,a2.trans W,B.zh,B.tp⟩;cases r5;rfl
 .obtain⟨Z3,a1,a2,a3,a4⟩:=zz;obtain⟨Z',n,S4⟩:=l.back (t:=.sh (.int 0)) (v:=.int 0) (fp:=[]) (k2.trans a1) l.zh (k2.trans a2) a3 (λa o q z=>z) a4 (.sh (.int 0)) sm (λa m=>by cases m) QaG;obtain⟨c5,B⟩:=(bB.oH (YJ (g:=g) ((az.tQ l.tp hi F).mono n)) S4.pop).j4 (g0:=[]) (by simp[ye,xo,hlen]) hD;exact k _ _ _ (C.trans n) ((k1.trans (k2.trans a1)).trans c5) B
def Tg(h1:Nc[i]? = some x)(h2:QdW)(hd:AD x:=by decide)(kH:AE x:=by decide):Vn Qdf i x:=⟨h1,.inl h2,hd,kH⟩
def LV(h1:Nc[i]? = some x)(h2:scope.names.lookup x=some .free)(hd:AD x:=by decide)(kH:AE x:=by decide):Vn Qdf i x:=⟨h1,.inr (.inr h2),hd,kH⟩
def Ti(h2:QeB):Gl Qdf x:=h2
theorem alx{B:Type}{arg:B->BA}{Pre:B->Prop}{res:B->T}(F:Qdh)(r:eO (k+1) X.A):Fc (C7 X X.A.in1.in1 q scope Nc f c s H) CL x k n arg Pre res:=
 ⟨F.ex,⟨r.hd,by have:=r.dp;show X.A.depth+1+3*k+5<_;lia,by have:=r.un;show X.A.units+1+1+3+16*k+200<_;lia⟩⟩
def aga{w:World}{sp:Sp}(F:QcA)(S:QbO)(len:∀vs H Q E,sp vs H Q E->vs.length=ps.length)
  (c:∀(gE:Value) (A:Qat) (outer:Da) (s:Qb) (H:Hp) (vs:BY) (Q:VK) (E:XK),fd.code=gE->eO k (A.deeper Qb5)->sp vs H Q E →
   ∃t,R1 (se lO P w K mg base N qual QaB f gE A outer s H E).La (d9 st) t/\t {nx:=λ_ H'=>Q .non H',rt:=Q} (L2.start N vs) H):fz P w K mg base lO (k+1) f fd ps sp:=by
 obtain⟨oc,od,kV,doc,pm,an,gE,ct,Sg,rfl,lk,kH⟩:=F.ex;refine Tu lk kH S len λA outer s H vs Q E a b=>?_;obtain⟨t,h,q⟩:=c gE A _ s H vs Q E rfl a b;exact⟨t,h.La,q⟩
theorem FE{w:World}{A:Type}{arg:Qay}{Pre:Q4}{res:Qab}(F:QcA)(S:QbO)
  (u:∀(gE:Value) (g:Qat) (outer:Da) (s:Qb) (H:Hp) (E:XK) (b:Bx) (a:A),fd.code=gE->eO k (g.deeper Qb5)->Pre a →
   eW (se lO P w K mg base N qual QaB f gE g outer s H E).La CL b (d9 st) (entry N (arg a)) {nx:=λ_=>res a=.sh .non,rt:=λt _=>t=res a}) :
  fz P w K mg base lO (k+1) f fd ps QdU:=by
 refine aga F S (λvs H Q E h=>?_) (λgE g outer s H vs Q E kH n h=>?_)
 .obtain⟨W,a,_,_,r,i,_⟩:=h;rw[← r.length];exact i
 .obtain⟨W,a,j,tp,r,i,p,tb,kk⟩:=h;refine⟨_,Z6,u gE g _ s H E ⟨H,W⟩ a kH n p H W _ [] [] _ ⟨⟨[],[],?_,.nil,sm,λa d=>by cases d⟩,.refl _,.refl _,j,λa o q z=>?_,tp,tb⟩ ⟨λδ' σ' H' Z' s' c e=>?_,λt v H' Z' δ' σ' s' c e=>?_,λ_ _ _ _ _ _ e=>e.elim,λ_ _ _ _ _ _ e=>e.elim⟩⟩
  .unfold entry L2.start;rw[← r.length];exact lR _ r
  .grind
  .exact kk .non H' Z' [] c.bh c.zz c.zh c.new c.tp (by rw[e];exact .sh .non) sm λa d=>by cases d
  .have y:=e;subst y;obtain⟨fp,gp,_,m,nd,own⟩:=c.rep;cases m with
   | @cons _ _ _ _ f1 f2 l B=>
    have h1:=(la.1 nd).2.1;exact kk v H' Z' f1 c.bh c.zz c.zh c.new c.tp l (la.1 h1).1 λa d=>own a (js _ (j1 _ d))
def FH(mg:Bi)(base:Heap):Prop:=∃bm o,mg "__builtins__" = some (.ref bm)/\bm≠builtinsNs/\bm≠mainGlobals/\base.get? bm=some o/\o.cls=.type "module" /\ o.dict=some builtinsNs/\o.data=.plain
def LA{CX:tI}{w:World}{gE:Value}{outer:Da}{E:XK}
  (bl:FH mg base) (a:K.In base) (g:fd.code=gE) (hf:fd.code=.ref c) (hd:codeHdIn K c (CL tx)=true) (h0:CL tx≠0) (d:Lg tx=q:=by decide +kernel) (b:J9 tx=true:=by decide +kernel) (e:qual++".<locals>." ++ "<lambda>" = q:=by decide +kernel) :
  YB (se CX P w K mg base N qual scope f gE A outer s H E).La CL tx q:=
 ⟨⟨c,g.symm.trans hf,IP a hd⟩,bl,e,b,h0,d⟩
abbrev _root_.Cl:=List (Addr×Str)
def spT(K:Frag)(ts:Cl){A:Type}(n:Nat)(arg:Qay)(Pre:Q4)(res:Qab):Sp:=λvs H Q _=>
 ∃(W:Hp) (a:A),aD W H/\(∀c o,H c=some o->lP o=true->W c=some o)/\az K (λ_=>0) W (arg a) vs/\(arg a).length=n/\Pre a/\(∀p∈ts,W p.1=some (.tabs p.2)) ∧
  ∀v H' W' fp,aD H H'->aD W W'->aD W' H'->(∀c o,W' c=some o->W c=none->H c=none)->(∀c o,H' c=some o->lP o=true->W' c=some o) →
   bK K (λ_=>0) H' W' (res a) v fp->fp.Nodup->(∀c∈fp,W' c=none/\H c=none)->Q v H'
def agb{ts:Cl}{arg:AT->BA}{pre:AT->Prop}{res:AT->T}(j:∀a,arg a=[.lst (a.map .int)])(h:∀a,res a=.sh (.bl true))(h0:∀x,J9 x=true->CL x≠0->(CL x,Lg x)∈ts) :
  ∀(vs:BY) (H:Hp) (Q:VK) (E:XK),spT K ts 1 arg pre res vs H Q E->Px K CL 1 arg pre res vs H Q E:=by
 rintro vs H Q E ⟨W,a,h1,h2,c,o,n,m,k⟩;have b:∀{l:AT} {us:BY},az K (λ_=>0) W Qbt us->az K CL W Qbt us:=by
  intro l
  induction l with
  | nil=>intro us r;cases r;exact .nil
  | cons i l f=>
   intro us r;cases r with
   | cons r t=>cases r;exact .cons Qaw (f t)
 refine⟨W,a,h1,h2,?_,o,n,λx g e=>m _ (h0 x g e),λv H' W' fp a1 a2 a3 a4 a5 r nd own=>k v H' W' fp a1 a2 a3 a4 a5 ?_ nd own⟩
 .rw[j]at c ⊢;cases c with
  | cons r t=>
   cases t;obtain⟨_,_,rfl,q,d⟩:=r.gR;exact .cons (.lst q (b d)) .nil
 .rw[h]at r ⊢;replace r:=r.Iu;obtain⟨rfl,r⟩:=r;cases r;exact .sh (.bl _)
theorem agc{ts:Cl}{arg:AT->BA}{pre:AT->Prop}{res:AT->T}{ns:AT}(f:arg ns=[.lst (ns.map D.int)])(b:pre ns)(d:res ns=.sh (.bl true))(g:nT K H a QbL)(c:∀p∈ts,H p.1=some (.tabs p.2)) :
  spT K ts 1 arg pre res [.ref a] H (λv H'=>v=.bl true/\∀p∈ts,H' p.1=some (.tabs p.2)) λ_ _ _=>False:=
 ⟨H,ns,.refl _,λ_ _ q _=>q,f ▸ .cons (.lst g (PB ns)) .nil,Wp,b,c,λv H' W' fp e _ _ _ _ r _ _=>by
  refine⟨?_,λp b=>e _ _ (c p b)⟩;rw[d]at r;replace r:=r.Iu;obtain⟨rfl,r⟩:=r;exact r.sc rfl⟩
theorem sG:∀{ts:Cl} {b:Addr} {q:Str},ts.lookup b=some q->(b,q)∈ts
 | [],_,_,e=>by cases e
 | (c,x)::r,b,q,e=>by
  rw[l5]at e;cases a:b==c with
  | true=>rw[a]at e;grind
  | false=>rw[a]at e;exact .tail _ (sG e)
def YK{w:World}{mb:Bi}{N:Addr}{sp:Sp}{f:Qb}{vs:B0}{ns:AT}{ts:Cl}
  (Y:K.In f.heap) (B:f.heap.Ns mainGlobals mg) (i:f.heap.Ns builtinsNs mb) (J:∀x:Str,x≠"__name__"->mb x=bootBuiltins x) (R:f.heap.NoLimit) (hg:f.gens=#[]) (Qf:FH mg f.heap)
  (C:f.heap.get? a=some {cls:=.type "list",data:=.seq vs.toArray}) (hi:IntsAre vs ns) (U:ns.length<=sizeLine) (hr:eO k callerA)
  (y:∀p∈ts,f.heap.get? p.1=some (tabObj #[])/\ts.lookup p.1=some p.2/\K.lookup p.1=none/\∃c,CodeHd f.heap c p.1)
  (F:∀base:Heap,K.In base->base.Ns mainGlobals mg->FH mg base->fz P w K mg base lO k N fd [x] sp) (Qc:∀(s:Qb) (u:Value),BindsTo s fd ⟨[u],[]⟩ [(x,u)])
  (V1:∀H:Hp,nT K H a QbL->(∀p∈ts,H p.1=some (.tabs p.2))->sp [.ref a] H (λv H'=>v=.bl true/\∀p∈ts,H' p.1=some (.tabs p.2)) λ_ _ _=>False) :
  codeAny (model P w) callerA (.call (.ref N) ⟨[.ref a],[]⟩) QeO f:=by
 have T:=J7 hi;have O:=hi.length;have X:∀p∈ts,p.1≠a:=λp g z=>by
  have:=(y p g).1;rw[z,C]at this;cases this
 have core:∀H:Hp,(∀b,H b=none\/(∃o xs,b=a/\H b=some (.fB o QaS))\/∃p∈ts,b=p.1/\H b=some (.tabs p.2))->nT K H a QbL->(∀p∈ts,H p.1=some (.tabs p.2))->zJ P w H f.heap->(H a≠none->K.lookup a=none) →
   codeAny (model P w) callerA (.call (.ref N) ⟨[.ref a],[]⟩) QeO f:=by
  intro H L hS hH f7 hK;have A:∀{b:Addr} {o:Obj},f.heap.get? b=some o->o≠{cls:=.type "list",data:=.seq vs.toArray}->o≠tabObj #[]->H b=none:=λ{b o} e d1 d2=>by
   obtain q|⟨_,_,z,_⟩|⟨p,g,z,_⟩:=L b
   .exact q
   .rw[z,C]at e;exact absurd (l1 e).symm d1
   .rw[z,(y p g).1]at e;exact absurd (l1 e).symm d2
  have S:∀{b:Addr} {o:Obj},f.heap.get? b=some o->H b=none->(Io f.heap H).get? b=some o:=λe n=>aam e n;have l:∀{b:Addr} {m:Bi},f.heap.Ns b m->(Io f.heap H).Ns b m:=λ{b m} ⟨o,es,ep,e,d,r⟩=>⟨o,es,ep,S e (A e (λz=>by rw[z]at d;cases d) λz=>by rw[z]at d;cases d),d,r⟩;have D:K.In (Io f.heap H):=λb o e=>S (Y b o e) (by
   obtain q|⟨_,_,z,q⟩|⟨p,g,z,_⟩:=L b
   .exact q
   .subst z;rw[hK (by rw[q];simp)]at e;cases e
   .rw[z,(y p g).2.2.1]at e;cases e)
  have hM:Mod K mg (Io f.heap H):=⟨D,l B,⟨mb,l i,J⟩,let ⟨mc,h1,h2⟩:=R;⟨mc,l h1,h2⟩⟩;have M:FH mg (Io f.heap H):=by
   obtain⟨bm,o,b1,b2,b3,W,b5,b6,E⟩:=Qf;exact⟨bm,o,b1,b2,b3,S W (A W (λz=>by rw[z]at E;cases E) λz=>by rw[z]at E;cases E),b5,b6,E⟩
  have e0:Sf P w K mg (Io f.heap H) callerA [] f H:=⟨rfl,hM,λb o e=>afj e,Nat.le_of_eq (XC _ _),trivial,λb i=>absurd (show b∈([]:BS) from i) Wm,f7,.of_eq hg⟩;refine codeAny_mono ((F _ D (l B) M).run callerA [] f H ⟨[.ref a],[]⟩ [.ref a] [.ref a] _ _ hr e0 (Qc f Qaq) (.cons rfl .nil) (V1 H hS hH)) λr s' h=>?_;cases r with
  | error e=>exact h.elim
  | ok fl=>
   cases fl with
   | next=>exact False.elim h
   | brk=>exact False.elim h
   | cont=>exact False.elim h
   | ret u=>
    obtain⟨v,H',os,bare,un,G,r',q,qt⟩:=h;subst q;obtain rfl:u=Value.bool true:=r';have tabAt:∀p∈ts,∃ps:CI,s'.heap.get? p.1=some (tabObj ps):=λp g=>by
     obtain⟨ps,e,_⟩:=G _ _ (qt p g);exact⟨ps,e⟩
    have keep:∀b o,f.heap.get? b=some o->(∀p∈ts,b≠p.1)->s'.heap.get? b=some o:=λb o e nt=>by
     obtain q|⟨ob,xs,z,q⟩|⟨p,g,z,_⟩:=L b
     .exact un.keep b o e q (by intro z;exact absurd (show b∈([]:BS) from z) Wm) Wm
     .have Z:=un.cQ b ob _ q;obtain⟨e1,_⟩:=f7 b _ q;obtain⟨e2,_⟩:=G b _ Z;rw[e]at e1;cases e1;exact e2
     .exact absurd z (nt p g)
    refine⟨rfl,⟨λb o e=>?_,λb o e=>?_⟩,os,bare⟩
    .by_cases nt:∀p∈ts,b≠p.1
     .exact .inl (keep b o e nt)
     .obtain⟨p,g,rfl⟩:∃p∈ts,b=p.1:=Classical.byContradiction λq=>nt λp g z=>q ⟨p,g,z⟩;obtain⟨h1,_,_,c,hc⟩:=y p g;obtain⟨ps,e2⟩:=tabAt p g;rw[h1]at e;cases e;exact .inr (.inl ⟨(hc.tab h1).isCodeTable,rfl,#[],ps,rfl,by rw[Array.empty_append];exact e2⟩)
    .by_cases nt:∀p∈ts,b≠p.1
     .exact⟨o,keep b o e nt⟩
     .obtain⟨p,g,rfl⟩:∃p∈ts,b=p.1:=Classical.byContradiction λq=>nt λp g z=>q ⟨p,g,z⟩;obtain⟨ps,e2⟩:=tabAt p g;exact⟨_,e2⟩
 have tok:∀{H:Hp} {b:Addr} {q:Str},ts.lookup b=some q->gW P w H f.heap b (.tabs q):=λ{H b q} e=>by
  obtain⟨h1,_⟩:=y (b,q) (sG e);exact⟨#[],h1,trivial,λpos cv z=>by simp[codeAmong]at z⟩
 cases I:K.lookup a with
 | some o=>
  have e:=Y a o I;rw[C]at e;cases e;refine core (λb=>(ts.lookup b).map HO.tabs) (λb=>?_) (.inr ⟨_,vs.toArray,_,I,rfl,rfl,rfl,by rw[List.size_toArray,O];exact U,by simpa using T⟩) (λp g=>?_) (λb u z=>?_) λz=>?_
  .cases q:List.lookup b ts with
   | none=>left;rfl
   | some t=>right;right;exact⟨(b,t),sG q,rfl,rfl⟩
  .show(ts.lookup p.1).map HO.tabs=_;rw[(y p g).2.1];rfl
  .have j:(ts.lookup b).map HO.tabs=some u:=z;cases q:List.lookup b ts with
   | none=>rw[q]at j;cases j
   | some t=>rw[q]at j;cases j;exact tok q
  .exfalso;apply z;show(ts.lookup a).map HO.tabs=none;cases q:ts.lookup a with
   | none=>rfl
   | some t=>exact absurd rfl (X (a,t) (sG q))
 | none=>
  refine core (λb=>if b=a then some (.fB {cls:=.type "list",data:=.seq vs.toArray} (.lst QbL)) else(ts.lookup b).map HO.tabs) (λb=>?_) (.inl (.inr ⟨{cls:=.type "list",data:=.seq vs.toArray},dX rfl⟩)) (λp g=>?_) (λb u z=>?_) λ_=>I
  .by_cases i:b=a
   .exact .inr (.inl ⟨_,_,i,dX i⟩)
   .cases q:List.lookup b ts with
    | none=>left;rw[dP i];rfl
    | some t=>right;right;exact⟨(b,t),sG q,rfl,by rw[dP i];rfl⟩
  .show(if p.1=a then _ else(ts.lookup p.1).map HO.tabs)=_;rw[dP (X p g),(y p g).2.1];rfl
  .by_cases i:b=a
   .have j:=(dX i).symm.trans z;cases j;subst i;exact⟨C,by rw[e7];exact U,vs,_,T,C⟩
   .have j:(ts.lookup b).map HO.tabs=some u:=(dP i).symm.trans z;cases q:List.lookup b ts with
    | none=>rw[q]at j;cases j
    | some t=>rw[q]at j;cases j;exact tok q
def abM{l:PySem.W.OpenLaw}{q:Qax}{loose:At}{XP:Bi->Heap->Prop}{A:World->Heap->Prop}{d:DefRec}{K:Params->Frag}{sp:World->Cl->Sp}{T0:BS}
  (L:l.most=some n) (XQ:n<=sizeLine) (r:d.params.defaults=[]) (J:eO k callerA)
  (O:∀(w:World) (h:Heap),A w h->(K w.params).In h) (R:∀(w:World) (h:Heap),A w h->∀P∈T0,h.get? P=some (tabObj #[]))
  (F:∀(w:World) (mg:Bi) (j:Addr) (h:Heap),(K w.params).In h->h.Ns mainGlobals mg->mg d.name=some (.ref j) →
   ∃(fd:QaC) (ts:Cl),(∀p∈ts,p.1∈T0/\ts.lookup p.1=some p.2/\(K w.params).lookup p.1=none/\∃c,CodeHd h c p.1)/\(∀(s:Qb) (u:Value),BindsTo s fd ⟨[u],[]⟩ [(x,u)]) ∧
    ∀base:Heap,(K w.params).In base->base.Ns mainGlobals mg->FH mg base->fz l.prog w (K w.params) mg base lO k j fd [x] (sp w ts))
  (V1:∀(w:World) (ts:Cl) (H:Hp) (a:Addr) (ns:AT),ns.length<=n->nT (K w.params) H a QbL->(∀p∈ts,H p.1=some (.tabs p.2))->sp w ts [.ref a] H (λv H'=>v=.bl true/\∀p∈ts,H' p.1=some (.tabs p.2)) λ_ _ _=>False) :
  PySem.W.WalkO q loose XP A l.row.toRowW d [] (λf vs=>PySem.call f vs):=by
 refine Att.Pn L r λw jx B mg mb j o pm cd doc a vs ns G Y ho hd kH m z hints hlen M=>?_;have D:=O w _ Y;obtain⟨fd,ts,i,N,U⟩:=F w mg j _ D G.T.g m;obtain⟨bm,E,b1,b2,b3,Z,X,y⟩:=G.T.bmain;have t:bm≠mainGlobals:=λq=>by
  obtain⟨o,es,ep,e,hd,_⟩:=G.T.g;rw[q,e]at b3;cases b3;rw[hd]at y;cases y
 exact YK D G.T.g G.T.b G.T.builtins G.T.nolimit M ⟨bm,E,b1,b2,t,b3,Z,X,y⟩ z hints (kM hlen XQ) J (λp C=>⟨R w _ Y _ (i p C).1,(i p C).2⟩) U N λH S I=>V1 w ts H a ns hlen S I
noncomputable def aut(y:Int):Value->Bool
 | .int i _=>i==y
 | _=>false
theorem abN:NL X "list.index" (λx xs H Q=>∃(p:Addr) (l:AT) (y:Int) (j:Nat),x=.ref p/\xs=[.int y]/\nT X.K H p Qbt/\l[j]? = some y/\(∀i,i<j->l[i]? ≠ some y)/\Q (.int (j:Int)) H):=by
 intro pins s σ H x xs v us Q I o rs h;obtain⟨p,l,y,j,rfl,rfl,C,d,b,q⟩:=h;cases o;obtain⟨u,rfl,A⟩:=rs.one;obtain⟨t,rfl⟩:=A;obtain⟨its,r,⟨⟨oc,od,B,Sg⟩,n,e,f,hd,hs⟩,hz⟩:=I.list C;dsimp only at f hd hs;subst f hd hs;have hi:=intsAre_of r;have at':∀{i:Nat} (hi:i<its.toArray.size),∃k t,its.toArray[i]=.int k t/\l[i]? = some k:=λ{i} a=>by
  have D:i<its.length:=by simpa using a
  have E:i<l.length:=by have:=r.length;rw[e7]at this;lia
  obtain⟨u,e1,e2⟩:=r.get (i:=i) (x:=.int l[i]) Wm;obtain⟨t,rfl⟩:=e2;simp_all
 have g:j<its.toArray.size:=by
  have h1:=(lL.1 d).1;have:=r.length;rw[e7]at this;simp;lia
 have hsz:its.toArray.size<=sizeLine:=by
  have:=r.length;rw[oy,← this];exact hz
 refine sx F.slot_list_index ⟨_,e,rfl⟩ F.entry_list_index (F.args_list_index_2 _ _) (SeqAt.list_indexAt p its.toArray n none Sg (.int y t) (aut y) j g (by rw[mv]at hsz;lia) ?hit λm hm c=>?no) ⟨e,λw hw=>?eqs,?_⟩
 case hit=>
  obtain⟨k,t',e1,e2⟩:=at' g;rw[e1];rw[d]at e2;cases e2;exact FO y
 case no=>
  obtain⟨k,t',e1,e2⟩:=at' hm;rw[e1];exact FX.2 λz=>b m c (by rw[e2,z])
 case eqs=>
  obtain⟨i,a,rfl⟩:=Array.mem_iff_getElem.1 hw;obtain⟨k,t',e1,e2⟩:=at' a;rw[e1];exact SeqAt.EqAt.int_int k t' y t
 exact⟨.int (j:Int),H,I.tok _,⟨_,rfl⟩,q⟩
variable{o:Expr}{apos:Pos}
def abO{l:AT}{y:Int}(h1:dM X CL b o δ (.lst Qbt) δ1)(h2:dM X CL b e δ1 (.int y) δ2)(s:l[j]? = some y)(d:∀i,i<j->l[i]? ≠ some y)
  (r:attributeBase o "index" X.env (eval o X.env)=eval o X.env:=by rfl) (v:((backTo pos (starEach [e] X.env)).all (λx=>!x.1)&&(backToKw pos (keywordEach [] X.env)).all (λx=>x.1.isSome)
   && decide (([e]:Cc).length+([]:ET).length+QdL<30))=true:=by rfl)
  (c:(apos.endLine==pos.line)=true:=by rfl) (hs:Qah:=by exact aW rfl) (f:(backTo pos Qc1).any (·.1)=false:=by rfl) :
  cO X CL b (.Call (.Attribute o "index" apos) [e] [] pos) δ (.sh (.int (j:Int))) δ2:=λH Z σ ts vs Q S k=>
 cM (Pj F.plainAttrs_list F.slot_list_index F.type_list_index abN dI QaE r v c hs f) (h1 H Z σ ts vs _ S λv1 H1 Z1 m k1 u q=>by
  obtain⟨a,us,rfl,g,n⟩:=q.gR;have:=xj n;subst this;refine⟨?_,h2 H1 Z1 σ ts vs _ u λv2 H2 Z2 h k2 t p=>?_⟩
  .exact .inl ⟨rfl,_,g⟩
  .cases p;exact⟨a,l,y,j,rfl,rfl,k2.seq g,s,d,k _ H2 Z2 (m.trans h) Qao (t.push (.int _))⟩)
theorem LY(r:eO k A):A.depth<recursionLimit:=by
 have:=r.dp;lia
variable{g:L3.D->T}
def abP(sc:QcD)(G:QaK)(h:dM X CL b iter δ (.lst ds) δ1)(cl:∀d∈ds,(g d).clean=true)(inner:Block X CL scope Nc ifs elt (Ff δ1 ix) ds p g)(hlen:QbB)
  (hs:AN X iter:=by intro _;rfl) (n1:AD y:=by decide) (A:AE y:=by decide):cO X CL b (.ListComp elt [⟨.Name y px,iter,ifs,0⟩] scope pos) δ (.lst ((ds.filter p).map g)) δ1:=λH Z σ ts vs Q S k pins s I=>by
 rw[eval_ListComp];refine FC (use:=none) rfl hs (vC (Ar sc) I) sc.kind sc.names ?_;have hw:=(VQ (tg:=.Name y px) (dI (X:=X) (e:=iter))) pins s σ H (λJ H1=>∃Z1 us,aD Z Z1/\aD H H1/\bB X.K CL b H1 Z1 δ1 σ ts vs/\az X.K CL H1 ds us/\(∀i H2,aD H1 H2->i<ds.length->J.go i H2)/\(∀i H2 x H',aD H1 H2->i<ds.length->J.o1 i H2 x H'->H'=H2/\us[i]? = some x)/\∀H2,aD H1 H2->J.stop ds.length H2) I (h H Z σ ts vs _ S λv H1 Z1 n k1 f r=>by
  obtain⟨a,us,rfl,l,c⟩:=r.gR;refine⟨a,rfl,⟨us,l⟩,Z1,us,n,k1,f,c,λi H2 s hi=>?_,λi H2 y H' s hi j=>⟨j.1,j.2 us (s.seq l)⟩,λH2 s=>⟨us,s.seq l,by rw[c.length];exact i5 _⟩⟩;have L:i<us.length:=by rw[← c.length];exact hi
  exact⟨us,us[i],s.seq l,by simp[L]⟩)
 refine f6 hw λv s1 h1=>f6 h1 λC s2 zz=>?_;obtain⟨it,fp,tn,J,H1,e,P,N,st,hf,Z1,us,n,k1,f,c,go,z,u⟩:=zz;subst e;have t:∀i Z2 H2 x H',aD H1 Z2->aD Z2 H2->(∀a o,H2 a=some o->lP o=true->Z2 a=some o)->i<ds.length->J.o1 i H2 x H'->∃Z3 d,ds[i]? = some d/\LC Z2 H2 Z3 H'/\bQ X.K CL Z3 d x:=λi Z2 H2 x H' s1 s2 tp hi j=>by
  obtain⟨e,E⟩:=z i H2 x H' (s1.trans s2) hi j;subst e;obtain⟨d,hd,rd⟩:=c.X3 E;exact⟨Z2,d,hd,.refl s2 tp,rd.mono s1⟩
 refine yG (xs:=[y]) (Ar sc) G P N st hf (yH (W1:=H1) f f.zh Ql (λ_ _ q _=>q) (zR f ix) (LB sc inner n1 A) go t u hlen (.inr cl)) λD T s' H' m io R ch ci zz=>?_;obtain⟨Z',w,B,O⟩:=zz;obtain⟨m,F⟩:=m;exact⟨m,F,λh' M=>⟨.ref D,H',ci h' M,rfl,k _ H' Z' (n.trans w) (k1.trans B) O⟩⟩
def Z8(h:QbT)(he:∀whole,isTrue e X.env whole=(do let v ← whole;standAt e.pos;holding [v] (truthy v)):=by intro _;rfl):wZ X CL b e δ (!ds.isEmpty) δ1:=λH Z σ ts vs Q S k=>
 Iz (aaC dI he) (h H Z σ ts vs _ S λv H1 Z1 c k1 g r=>by
  obtain⟨a,us,rfl,f,d⟩:=r.gR;refine⟨_,.inl ⟨us,f,rfl⟩,?_⟩;have e:us.isEmpty=ds.isEmpty:=by
   have:=d.length;cases us<;>cases ds<;>simp at this ⊢
  rw[e];exact k H1 Z1 c k1 g)
noncomputable def DG(kvs:List (Dx×α))(k:Dx):Option α:=(kvs.find? λa=>decide (a.1=k)).map (·.2)
def Qg{p:Dx×α}{r:List (Dx×α)}{k:Dx}(e:p.1=k):DG (p::r) k=some p.2:=by simp[DG,e]
def Qh{p:Dx×α}{r:List (Dx×α)}{k:Dx}(e:¬ p.1=k):DG (p::r) k=DG r k:=by simp[DG,e]
variable{d:D}
theorem pV.length{kvs:Cn}{gs:Bn}(h:pV K CL Z kvs gs):kvs.length=gs.length:=
 pV.ind (P:=λkvs gs=>kvs.length=gs.length) rfl (λ_ _ i=>congrArg (· + 1) i) h
theorem pV.val{k:Dx}{kvs:Cn}{gs:Bn}(h:pV K CL Z kvs gs):(DG kvs k=none/\vo gs k=none)\/∃d v,DG kvs k=some d/\vo gs k=some v/\bQ K CL Z d v:=
 pV.ind (P:=λkvs gs=>(DG kvs k=none/\vo gs k=none)\/∃d v,DG kvs k=some d/\vo gs k=some v/\bQ K CL Z d v) (.inl ⟨rfl,rfl⟩) (λ{x d v _ _} r _ i=>by
  by_cases e:x=k
  .exact .inr ⟨d,v,Qg e,su e,r⟩
  .rw[Qh (p:=(x,d)) e,pU (p:=(x,v)) e];exact i) h
theorem fP.length{kvs:CS}{gs:Bn}(h:fP K CL H Z kvs gs fp):kvs.length=gs.length:=
 fP.ind (P:=λkvs gs _=>kvs.length=gs.length) rfl (λ_ _ i=>congrArg (· + 1) i) h
theorem fP.snoc{k:Dx}{kvs:CS}{gs:Bn}{a:BS}(h:fP K CL H Z kvs gs fp)(q:bK K CL H Z t v a):fP K CL H Z (kvs++[(k,t)]) (gs++[(k,v)]) (fp++(a++[])):=
 fP.ind (P:=λkvs gs fp=>fP K CL H Z (kvs++[(k,t)]) (gs++[(k,v)]) (fp++(a++[]))) (by rw[pX,pX,pX];exact .cons q .nil) (λr _ i=>by
  rw[jw];exact .cons r i) h
theorem abR:zL X (binaryOp .FloorDiv) (rI (λ_ j=>0<j/\j.natAbs.log2<9000) λi j=>.int (i / j)):=y3 λi j _ _ _ _ _ a q=>by
 exact floordiv_int Wc (by rw[Int.fdiv_eq_ediv_of_nonneg i Wc];exact q) (.inl (PyProof.noPylong_of_log2 a.2))
noncomputable def abS{i j:Int}(h1:Qa7)(h2:Qbg)(c:0<j/\j.natAbs.log2<9000):cO X CL b (.BinOp e1 .FloorDiv e2 pos) δ (.sh (.int (i / j))) δ2:=vq abR h1 h2 rfl rfl rfl λ_ _ q=>⟨i,j,rfl,rfl,c,q⟩
def Tj:∀{tl:B1} {us:BY} {g:BS},aS K CL H Z (tl++[t]) us g->∃b u g1 g2,us=b++[u]/\g=g1++g2/\aS K CL H Z tl b g1/\bK K CL H Z t u g2:=by
 intro tl
 induction tl with
 | nil=>
  intro _ _ h;cases h with
  | cons r a=>
   cases a;exact⟨[],_,[],_,rfl,km _,.nil,r⟩
 | cons _ _ e=>
  intro _ _ h;cases h with
  | cons r a=>
   obtain⟨b,u,g1,g2,e1,e2,d,c⟩:=e a;subst e1 e2;exact⟨_,u,_,g2,rfl,(jw ..).symm,.cons r d,c⟩
section
variable{D:gF}
def C8{d:L3.D}(h:δ[i]? = some Qan)(q:t.fB=d)(k:eW X CL b gO (δ.set i QbM) D):eW X CL b gO δ D:=λH Z σ ts vs E S M=>by
 subst q;obtain⟨v,Z',_,z,a⟩:=S.afz h;exact k H Z' σ ts vs E a.pop (M.mono z)
end
end L3
namespace L2
open PySem PySem.Spec PyProof.Rows
structure Z7(K:Frag)(D:Addr):Prop where
 ga:findIn K (.ref D) "__getattribute__" = some (some (.builtin "BaseException.__getattribute__"))
 gn:findIn K (.ref D) "__getattr__" = some none
 hd:hasDictIn K D=true
 fi:findIn K (.ref D) "__class__" = some (some (.builtin "object.__class__"))
 sp:specialIn K (.builtin "object.__class__") "__get__" = some (some (.builtin "getset_descriptor.__get__"))
 tk:PySem.W.takesIn K (.builtin "object.__class__")=some true
 mr:mroIn K D (.type "object")=some true
 mb:mroIn K D (.type "BaseException")=some true
section
variable{s:Qb}{K:Frag}{D:Addr}
open PySem.W in
open PySem PySem.Calls PyProof.Rows Builtin Builtin.ObjectAttr Builtin.Getset_descriptor PySem.W PySem.Builtin.ObjectAttr in
theorem Z7.there(O:Z7 K D):∃c d cd sl,K.lookup D=some ⟨c,d,.cls cd,sl⟩:=by
 obtain⟨cd,q,_⟩:=any_some O.hd;unfold PySem.W.clsIn at q;split at q
 .rename_i c d a sl e;exact⟨c,d,a,sl,e⟩
 .cases q
end
end L2
namespace L3
open PySem PySem.Spec PyProof.Rows L2
def abU(l q:Addr)(xs ys:CI)(n m:Nat)(f:Db)(sq:Ch)(j:¬(!xs.isEmpty&&Builtin.List.listTooLong (xs.size+ys.size))=true)(c:xs.size<=sizeLine)(b:xs.size+ys.size<=sizeLine+1) :
  PySem.Meets (Builtin.«list.extend» ⟨[.ref l,.ref q],[]⟩) (λ_ R s=>s.heap.get? l=some {cls:=.type "list",dict:=none,data:=.seq xs n,slots:=#[]}/\s.heap.get? q=some {cls:=.type "list",dict:=f,data:=.seq ys m,slots:=sq} ∧
   R (.ok (.ret Value.none)) {s with heap:=s.heap.update l (Obj.mapSeq λx=>x++ys),toks:=s.toks}):=
 PySem.Meets.of_wp λprog w A R s h=>by
  obtain⟨i,g,d,tk,os⟩:=s;obtain⟨a,e,h⟩:=h;have f1:=AutoSeq1.idx_int;have o:=AutoSeq1.sub_list_list;have f4:=AutoSeq1.sub_tuple_list;have k:=AutoSeq1.sub_list_tuple;have hz:(xs++ys).size<=sizeLine+1:=by
   rw[Array.size_append];exact b
  wp_walk using (wpAny_updateSeq a rfl (hz:=c) (_hz':=hz)),wpAny_loadPart' a,wpAny_loadPart' e
  exact⟨_,rfl,h⟩
def RI(K:Frag):V->BY->Hp->VK->Prop:=λx vs H Q=>∃l q xs zs,x=.ref l/\vs=[.ref q]/\H l=some QaS/\nT K H q zs/\xs.length+zs.length<=sizeLine/\Q .non (upd H l (.lst (xs++zs)))
theorem agd{X:Cx}:yB X "list.extend" (RI X.K):=by
 intro pins s σ H x vs v us Q I d f h;obtain⟨l,q,xs,zs,rfl,rfl,b,m,hz,k⟩:=h;cases d;obtain⟨u,rfl,g⟩:=f.one;cases g;obtain⟨z,its,n,r,y,e⟩:=I.Dp b;obtain⟨c,a,⟨⟨A,d2,o,s2⟩,i,e2,p,_,hd2⟩,w⟩:=I.list m;cases p;cases hd2;have j:=a.length;have hsz:its.toArray.size+c.toArray.size<=sizeLine:=by grind
 have t:¬ (!its.toArray.isEmpty&&Builtin.List.listTooLong (its.toArray.size+c.toArray.size))=true:=by
  rw[E9 hsz,Bool.and_false];decide
 refine sx F.slot_list_extend ⟨_,e,rfl⟩ F.entry_list_extend (F.args_list_extend_2 _ _) (abU l q _ _ n i d2 s2 t WA Wc) ⟨e,e2,?_⟩;refine⟨.non,_,I.Dw b e Wm (r.append a) ?_,rfl,k⟩;simp_all
inductive DH where
 | ix (j:Nat)|fld (f:Str)|key (k:Dx)
noncomputable def YL{α:Type}(k:Dx)(t:α):List (Dx×α)->List (Dx×α)
 | []=>[]
 | (x,u)::r=>if x=k then(x,t)::r else(x,u)::YL k t r
noncomputable def T.core:T->T
 | .pin _ t=>t
 | t=>t
noncomputable def T.yJ:T->T->T
 | .pin y _,u=>.pin y u
 | _,u=>u
def T.YM:DH->T->Option T
 | .ix j,.lst ts=>ts[j]?
 | .ix j,.tup ts=>ts[j]?
 | .fld f,.ins _ fs=>fs.lookup f
 | .key k,.dct kvs=>DG kvs k
 | _,_=>none
def T.Tp:DH->T->T->T
 | .ix j,.lst ts,u=>.lst (ts.set j u)
 | .ix j,.tup ts,u=>.tup (ts.set j u)
 | .fld f,.ins c fs,u=>.ins c (yF f u fs)
 | .key k,.dct kvs,u=>.dct (YL k u kvs)
 | _,t,_=>t
def T.jf:List DH->T->Option T
 | [],t=>some t.core
 | s::p,t=>(t.core.YM s).bind (T.jf p)
def T.kG:List DH->T->T->T
 | [],u,t=>t.yJ u
 | s::p,u,t=>match t.core.YM s with
  | some k=>t.yJ (t.core.Tp s (T.kG p u k))
  | none=>t
def ro(H:Hp)(v:V):DH->V->Prop
 | .ix j,w=>∃a us,v=.ref a/\(H a=some (.lst us)\/H a=some (.tup us))/\us[j]? = some w
 | .fld f,w=>∃a C dx gs,v=.ref a/\H a=some (.ins C dx gs)/\gs.lookup f=some w
 | .key k,w=>∃a gs,v=.ref a/\H a=some (.dT gs)/\vo gs k=some w
def Bo(H:Hp):V->List DH->V->Prop
 | v,[],w=>v=w
 | v,s::p,w=>∃u,ro H v s u/\Bo H u p w
variable{H:Hp}{s:DH}
theorem ro.mono{H':Hp}(e:aD H H'){v w:V}(h:ro H v s w):ro H' v s w:=by
 cases s with
 | ix j=>obtain⟨a,us,h1,h2,b⟩:=h;exact⟨a,us,h1,h2.imp (e _ _) (e _ _),b⟩
 | fld f=>obtain⟨a,C,dx,gs,h1,h2,b⟩:=h;exact⟨a,C,dx,gs,h1,e _ _ h2,b⟩
 | key k=>obtain⟨a,gs,h1,h2,b⟩:=h;exact⟨a,gs,h1,e _ _ h2,b⟩
theorem ro.inj{v w g:V}(h:ro H v s w)(q:ro H v s g):w=g:=by
 cases s with
 | ix j=>
  obtain⟨a,us,h1,h2,l⟩:=h;obtain⟨m,o,c,b,i⟩:=q;subst h1;cases c;have e:us=o:=by
   obtain h2|h2:=h2<;>obtain b|b:=b<;>rw[h2]at b<;>cases b<;>rfl
  simp_all
 | fld f=>
  obtain⟨a,C,dx,gs,h1,h2,l⟩:=h;obtain⟨m,p,n,d,c,b,i⟩:=q;grind
 | key k=>
  obtain⟨a,gs,h1,h2,l⟩:=h;obtain⟨m,d,c,b,i⟩:=q;simp_all
theorem Bo.mono{H H':Hp}(e:aD H H'):∀{p:List DH} {v w:V},Bo H v p w->Bo H' v p w
 | [],_,_,h=>h
 | _::_,_,_,⟨u,h,q⟩=>⟨u,h.mono e,Bo.mono e q⟩
theorem Bo.inj{H:Hp}:∀{p:List DH} {v w a:V},Bo H v p w->Bo H v p a->w=a
 | [],_,_,_,h,q=>h.symm.trans q
 | _::_,_,_,_,⟨_,h1,h2⟩,⟨_,c,b⟩=>by
  have:=h1.inj c;subst this;exact Bo.inj h2 b
theorem Bo.snoc{H:Hp}{s:DH}:∀{p:List DH} {v w z:V},Bo H v p w->ro H w s z->Bo H v (p++[s]) z
 | [],_,_,z,h,q=>by
  have h':=h;subst h';exact⟨z,q,rfl⟩
 | _::_,_,_,_,⟨u,h1,h2⟩,q=>⟨u,h1,Bo.snoc h2 q⟩
variable{K:Frag}{CL:BC}{b:Bx}{H' Z Z':Hp}{δ:BB}{σ:L2.St}{ts tl:B1}{vs us:BY}{t u t0:T}{v v0 w:V}{fp:BS}{i:Nat}{p:List DH}
theorem bK.Tq(h:bK K CL H Z t v fp):bK K CL H Z t.core v fp/\∀{H' Z':Hp} {u:T} {g:BS},bK K CL H' Z' u v g->bK K CL H' Z' (t.yJ u) v g:=by
 cases h with
 | pin r=>exact⟨r,.pin⟩
 | sh r=>exact⟨.sh r,λq=>q⟩
 | tup r q=>exact⟨.tup r q,λq=>q⟩
 | lst r q=>exact⟨.lst r q,λq=>q⟩
 | ins r q=>exact⟨.ins r q,λq=>q⟩
 | rZ r q=>exact⟨.rZ r q,λq=>q⟩
 | dct r q=>exact⟨.dct r q,λq=>q⟩
 | CY r q p=>exact⟨.CY r q p,λq=>q⟩
theorem dz.at{f:Str}:∀(fs:BN) {gs:Bz} {fp:BS},dz K CL H Z fs gs fp->fs.lookup f=some t->∃w f1 f2 c,gs.lookup f=some w/\fp=f1++(f2++c)/\bK K CL H Z t w f2 ∧
  ∀{H':Hp} {t':T} {g:BS},(∀a∈f1++c,H' a=H a)->bK K CL H' Z t' w g->dz K CL H' Z (yF f t' fs) gs (f1++(g++c)):=by
 intro fs
 induction fs with
 | nil=>intro gs fp h e;cases e
 | cons p fs k=>
  obtain⟨x,t0⟩:=p;intro gs fp h e;cases h with
  | @cons _ _ v _ vs f0 g0 r rs=>
   rw[l5]at e;cases b:f==x with
   | true=>
    rw[b]at e;cases e;have i:=(sy.1 b).symm;refine⟨v,[],f0,g0,by rw[l5,b],rfl,r,λ{H' t' g} kk d=>?_⟩;rw[yF,dX i];exact dz.cons (fp:=g) d (rs.mono Ql λa j=>kk a (‹_›))
   | false=>
    rw[b]at e;obtain⟨w,f1,f2,c,h1,h2,m,l⟩:=k rs e;subst h2;refine⟨w,f0++f1,f2,c,by rw[l5,b];exact h1,Wm,m,λ{H' t' g} kk d=>?_⟩;rw[yF,dP (λz=>by grind),jw];exact .cons (r.mono Ql λa j=>kk a WA) (l (λa j=>kk a (by rw[jw];exact js _ j)) d)
theorem fP.YM{k:Dx}{kvs:CS}{gs:Bn}(h:fP K CL H Z kvs gs fp)(c:DG kvs k=some t) :
  ∃v f1 f2 b,vo gs k=some v/\fp=f1++(f2++b)/\bK K CL H Z t v f2 ∧
   ∀{H':Hp} {t':T} {g:BS},(∀a∈f1++b,H' a=H a)->bK K CL H' Z t' v g->fP K CL H' Z (YL k t' kvs) gs (f1++(g++b)):=by
 refine fP.ind (P:=λkvs gs fp=>DG kvs k=some t->∃v f1 f2 b,vo gs k=some v/\fp=f1++(f2++b)/\bK K CL H Z t v f2 ∧
   ∀{H':Hp} {t':T} {g:BS},(∀a∈f1++b,H' a=H a)->bK K CL H' Z t' v g->fP K CL H' Z (YL k t' kvs) gs (f1++(g++b))) (λe=>by cases e) (λ{x t0 v0 ts vs fp gp} r f i c=>?_) h c
 by_cases e:x=k
 .rw[Qg e]at c;cases c;refine⟨v0,[],fp,gp,su e,rfl,r,λ{H' t' g} d q=>?_⟩;rw[YL,dX e];exact(show fP K CL H' Z _ _ (g++gp) from .cons q (f.mono Ql d))
 .rw[Qh e]at c;obtain⟨v,f1,f2,b,h1,h2,m,l⟩:=i c;refine⟨v,_,f2,b,by rw[pU e];exact h1,by rw[h2,jw],m,λ{H' t' g} d q=>?_⟩;rw[YL,dP e,jw];exact .cons (r.mono Ql λa j=>d a WA) (l (λa j=>d a (by rw[jw];grind)) q)
theorem bK.YM{k:T}(zh:aD Z H)(h:bK K CL H Z t v fp)(i:t.YM s=some k):∃w f1 f2 d,ro H v s w/\fp=f1++(f2++d)/\bK K CL H Z k w f2 ∧
  ∀{H':Hp} {n:T} {g:BS},(∀c∈f1++d,H' c=H c)->bK K CL H' Z n w g->bK K CL H' Z (t.Tp s n) v (f1++(g++d)):=by
 cases s with
 | ix j=>
  cases h with
  | @lst a us ts g b rs=>
   obtain⟨w,f1,f2,d,h1,h2,m,l⟩:=rs.at i;subst h2;refine⟨w,a::f1,f2,d,⟨a,us,rfl,.inl b,h1⟩,rfl,m,λ{H' n g} kk e=>?_⟩;have q:=l (λc o=>kk c (i8 _ o)) e;rw[f9 h1]at q;exact .lst ((kk a fX).trans b) q
  | @tup a us ts g b rs=>
   obtain⟨w,f1,f2,d,h1,h2,m,l⟩:=rs.at i;subst h2;refine⟨w,f1,f2,d,⟨a,us,rfl,.inr (zh _ _ b),h1⟩,rfl,m,λ{H' n g} kk e=>?_⟩;have q:=l kk e;rw[f9 h1]at q;exact .tup b q
  | _=>cases i
 | fld f=>
  cases h with
  | @ins a dx c gs fs g b rs=>
   obtain⟨w,f1,f2,d,h1,h2,m,l⟩:=dz.at fs rs i;subst h2;refine⟨w,a::f1,f2,d,⟨a,_,dx,gs,rfl,b,h1⟩,rfl,m,λ{H' n g} kk e=>?_⟩;exact .ins ((kk a fX).trans b) (l (λc o=>kk c (i8 _ o)) e)
  | _=>cases i
 | key x=>
  cases h with
  | @dct a gs kvs g b rs=>
   obtain⟨w,f1,f2,d,h1,h2,m,l⟩:=rs.YM i;subst h2;refine⟨w,a::f1,f2,d,⟨a,gs,rfl,b,h1⟩,rfl,m,λ{H' n g} kk e=>?_⟩;exact .dct ((kk a fX).trans b) (l (λc o=>kk c (i8 _ o)) e)
  | _=>cases i
theorem bK.focus(zh:aD Z H):∀(p:List DH) {t u:T} {v:V} {fp:BS},bK K CL H Z t v fp->T.jf p t=some u->∃w f1 f2 a,Bo H v p w/\fp=f1++(f2++a)/\bK K CL H Z u w f2 ∧
  ∀{H':Hp} {b:T} {g:BS},(∀c∈f1++a,H' c=H c)->bK K CL H' Z b w g->bK K CL H' Z (T.kG p b t) v (f1++(g++a))
 | [],t,u,v,fp,h,e=>by
  obtain⟨h1,h2⟩:=h.Tq;cases e;exact⟨v,[],fp,[],rfl,Wm,h1,λ{H' b g} _ r=>by rw[km];exact h2 r⟩
 | s::p,t,u,v,fp,h,e=>by
  obtain⟨h1,h2⟩:=h.Tq;rw[T.jf]at e;cases d:t.core.YM s with
  | none=>rw[d]at e;cases e
  | some k=>
   rw[d]at e;obtain⟨f,a1,a2,a3,z,y,x,o⟩:=h1.YM zh d;obtain⟨w,f1,f2,a,m,l,j,i⟩:=bK.focus zh p x e;subst y l;refine⟨w,a1++f1,f2,a++a3,⟨f,z,m⟩,Wm,j,λ{H' b g} kk n=>?_⟩;rw[T.kG,d];have q:=h2 (o (λc A=>kk c WA) (i (λc A=>kk c WA) n));simpa [List.append_assoc] using q
theorem bB.BG(S:Qam)(ev:σ[i]? = some Qbx)(hi:δ[i]? = some QaT)(O:T.jf p t0=some u)(I:Bo H v0 p w):∃f2 gp,bK K CL H Z u w f2/\aS K CL H Z ts vs gp/\(f2++gp).Nodup ∧
  ∀{a:Addr} {o:HO} {y:T} {j:B1} {C:BY} {g l:BS},w=.ref a->a∈f2->lP o=false->bK K CL QbF Z y w g->aS K CL QbF Z j C l->(g++l).Nodup->(∀c∈g++l,c∈f2++gp) →
   bB K CL b QbF Z (δ.set i (some (T.kG p y t0))) σ j C:=by
 obtain⟨fp,gp,e,r,nd,k⟩:=S.rep;obtain⟨v1,e1,e2,s,hv,F,rt,put,_⟩:=e.get hi;rw[ev]at hv;cases hv;obtain⟨P,f1,f2,q,at',hf,G,put2⟩:=rt.focus S.zh p O;have hw:=at'.inj I;subst hw;subst hf;subst F;have n:((e1++((f1++(f2++q))++s))++gp).Perm ((e1++(f1++(q++s)))++(f2++gp)):=q9.2 λc=>by
  simp only[xw];lia
 have A:=n.nodup_iff.1 nd;have x:=la.1 A;refine⟨f2,gp,G,r,x.2.1,λ{a o y j C g l} L E hm M N B v=>?_⟩;have m:∀c∈e1++(f1++(q++s)),upd H a o c=H c:=λc f=>aq λz=>x.2.2 c f a (j1 _ E) z;have J:=put2 (H':=upd H a o) (λc f=>m c (by
  obtain h|h:=i3.1 f
  .simp[h]
  .simp[h])) M
 have D:=put (H':=upd H a o) Ql (λc f=>m c (by
  obtain h|h:=i3.1 f
  .simp[h]
  .simp[h])) J
 rw[f9 ev]at D;have t:((e1++((f1++(g++q))++s))++l).Perm ((e1++(f1++(q++s)))++(g++l)):=q9.2 λc=>by
  simp only[xw];lia
 refine S.Sx hm k (by simp[E]) D N (t.nodup_iff.2 (la.2 ⟨x.1,B,λc f d hd=>x.2.2 c f d (v d hd)⟩)) λc f=>?_;refine n.mem_iff.2 ?_;obtain h|h:=i3.1 (t.mem_iff.1 f)
 .exact j1 _ h
 .exact js _ (v c h)
theorem bB.Tr(S:Qam)(ev:σ[i]? = some Qbx)(hi:δ[i]? = some QaT)(d:T.jf p t0=some u):∃w f2,Bo H v0 p w/\bK K CL H Z u w f2:=by
 obtain⟨fp,gp,e,r,nd,k⟩:=S.rep;obtain⟨v1,e1,e2,h,hv,f,rt,put,_⟩:=e.get hi;rw[ev]at hv;cases hv;obtain⟨a,f1,f2,g,at',hf,c,put2⟩:=rt.focus S.zh p d;exact⟨a,f2,at',c⟩
theorem bB.agf(S:QbS)(ev:σ[i]? = some Qbx)(hi:δ[i]? = some QaT)(n:T.jf p t0=some Qbi)(k:Bo H v0 p w) :
  ∃a us,w=.ref a/\H a=some (.lst us)/\us.length=tl.length/\bB K CL b (upd H a (.lst (us++[v]))) Z (δ.set i (some (T.kG p QcF t0))) σ ts vs:=by
 obtain⟨f2,gp,h,j,nd,go⟩:=S.BG ev hi n k;obtain⟨a,us,g,rfl,rfl,o,rs⟩:=h.gR;cases j with
 | @cons _ _ _ _ f e m l=>
  have ne:∀c∈g++(f++e),c≠a:=λc d z=>by subst z;simp_all
  have pm:((a::(g++(f++[])))++e).Perm ((a::g)++(f++e)):=q9.2 λc=>by simp
  exact⟨a,us,rfl,o,rs.length.symm,go rfl fX rfl (.lst aV (aS.app (rs.mono Ql λc d=>aq (ne c (by simp[d]))) (.cons (m.mono Ql λc d=>aq (ne c (by simp[d]))) .nil)))
   (l.mono Ql λc d=>aq (ne c (by simp[d]))) (pm.nodup_iff.2 nd) λc d=>pm.mem_iff.1 d⟩
theorem bB.abV{ds:BA}(S:Qam)(j:az K CL Z ds us)(ev:σ[i]? = some Qbx)(hi:δ[i]? = some QaT)(k:T.jf p t0=some Qbi)(h:Bo H v0 p w) :
  ∃a ws,w=.ref a/\H a=some (.lst ws)/\ws.length=tl.length/\bB K CL b (upd H a (.lst (ws++us))) Z (δ.set i (some (T.kG p (.lst (tl++ds.map T.sh)) t0))) σ ts vs:=by
 obtain⟨f2,gp,e,f,nd,go⟩:=S.BG ev hi k h;obtain⟨a,ws,g,rfl,rfl,l,rs⟩:=e.gR;have ne:∀c∈g++gp,c≠a:=λc d z=>by subst z;simp_all
 exact⟨a,ws,rfl,l,rs.length.symm,go rfl fX rfl (.lst aV (aS.app (rs.mono Ql λc d=>aq (ne c (by simp[d]))) (aS.Oe j)))
  (f.mono Ql λc d=>aq (ne c (by simp[d]))) (by rw[km];exact nd) λc d=>by rw[km]at d;exact d⟩
variable{j:Nat}
theorem bB.alB(S:QbS)(ev:σ[i]? = some Qbx)(hi:δ[i]? = some QaT)(r:T.jf p t0=some Qbi)(n:Bo H v0 p w)(s:j<tl.length) :
  ∃a us,w=.ref a/\H a=some (.lst us)/\us.length=tl.length/\bB K CL b (upd H a (.lst (us.set j v))) Z (δ.set i (some (T.kG p (.lst (tl.set j t)) t0))) σ ts vs:=by
 obtain⟨f2,gp,l,m,nd,go⟩:=S.BG ev hi r n;obtain⟨a,us,g,rfl,rfl,u,rs⟩:=l.gR;cases m with
 | @cons _ _ _ _ f e q o=>
  obtain⟨w0,g1,g2,g3,h1,h2,y,x⟩:=rs.at (l9 s);subst h2;have ne:∀c∈(g1++(g2++g3))++(f++e),c≠a:=λc d z=>by subst z;simp_all
  have k:((a::(g1++g3))++(f++e)).Sublist ((a::(g1++(g2++g3)))++(f++e)):=by simp
  have pm:((a::(g1++(f++g3)))++e).Perm ((a::(g1++g3))++(f++e)):=q9.2 λc=>by simp[xw,List.count_cons];lia
  exact⟨a,us,rfl,u,rs.length.symm,go rfl fX rfl (.lst aV (x (λc d=>aq (ne c (by
    obtain h|h:=i3.1 d
    .simp[h]
    .simp[h]))) (q.mono Ql λc d=>aq (ne c (by simp[d])))))
   (o.mono Ql λc d=>aq (ne c (by simp[d]))) (pm.nodup_iff.2 (nd.sublist k)) λc d=>k.subset (pm.mem_iff.1 d)⟩
theorem bB.auv(S:Qam)(ev:σ[i]? = some Qbx)(hi:δ[i]? = some QaT)(l:T.jf p t0=some QcF)(k:Bo H v0 p w) :
  ∃a us x,w=.ref a/\H a=some (.lst (us++[x]))/\bB K CL b (upd H a (.lst us)) Z (δ.set i Qem) σ (t::ts) (x::vs):=by
 obtain⟨f2,gp,e,f,nd,go⟩:=S.BG ev hi l k;obtain⟨a,us,g,rfl,rfl,m,rs⟩:=e.gR;obtain⟨n,x,g1,g2,e1,e2,j,h⟩:=Tj rs;subst e1;subst e2;have ne:∀c∈(g1++g2)++gp,c≠a:=λc d z=>by subst z;simp_all
 have pm:((a::g1)++(g2++gp)).Perm ((a::(g1++g2))++gp):=q9.2 λc=>by simp
 exact⟨a,n,x,rfl,m,go rfl fX rfl (.lst aV (j.mono Ql λc d=>aq (ne c (by simp[d]))))
  (.cons (h.mono Ql λc d=>aq (ne c (by simp[d]))) (f.mono Ql λc d=>aq (ne c (by simp[d])))) (pm.nodup_iff.2 nd) λc d=>pm.mem_iff.1 d⟩
theorem bB.ap1(S:Qam)(ev:σ[i]? = some Qbx)(hi:δ[i]? = some QaT)(l:T.jf p t0=some (.lst (t::tl)))(k:Bo H v0 p w) :
  ∃a us x,w=.ref a/\H a=some (.lst (x::us))/\bB K CL b (upd H a (.lst us)) Z (δ.set i Qem) σ (t::ts) (x::vs):=by
 obtain⟨f2,gp,e,f,nd,go⟩:=S.BG ev hi l k;obtain⟨a,us,g,rfl,rfl,m,rs⟩:=e.gR;cases rs with
 | @cons _ x _ us g2 g1 h j=>
  have ne:∀c∈(g2++g1)++gp,c≠a:=λc d z=>by subst z;simp_all
  have pm:((a::g1)++(g2++gp)).Perm ((a::(g2++g1))++gp):=q9.2 λc=>by simp[List.count_cons];lia
  exact⟨a,us,x,rfl,m,go rfl fX rfl (.lst aV (j.mono Ql λc d=>aq (ne c (by simp[d]))))
   (.cons (h.mono Ql λc d=>aq (ne c (by simp[d]))) (f.mono Ql λc d=>aq (ne c (by simp[d])))) (pm.nodup_iff.2 nd) λc d=>pm.mem_iff.1 d⟩
theorem bB.YN{c f:Str}{fs:BN}(S:QbS)(ev:σ[i]? = some Qbx)(hi:δ[i]? = some QaT)(r:T.jf p t0=some QaF)(n:Bo H v0 p w) :
  ∃a dx gs,w=.ref a/\H a=some Qc2/\gs.length=fs.length/\bB K CL b (upd H a (.ins (CL c) dx (r9 f v gs))) Z (δ.set i (some (T.kG p (.ins c (yF f t fs)) t0))) σ ts vs:=by
 obtain⟨f2,gp,l,m,nd,go⟩:=S.BG ev hi r n;obtain⟨a,dx,gs,g,rfl,rfl,s,rs⟩:=l.DB;cases m with
 | @cons _ _ _ _ h e q o=>
  have ne:∀c∈g++(h++e),c≠a:=λc d z=>by subst z;exact(nk.1 nd).1 d
  obtain⟨g',k,h1,h2,u⟩:=dz.put (f:=f) (q.mono (H':=upd H a (.ins (CL c) dx (r9 f v gs))) Ql λc d=>aq (ne c (by simp[d]))) (rs.mono (H':=upd H a (.ins (CL c) dx (r9 f v gs))) Ql λc d=>aq (ne c (by simp[d])));have j:((a::k)++(h++e)).Sublist ((a::g)++(h++e)):=pw (List.Sublist.cons₂ _ h2) (n7 _);have pm:((a::g')++e).Perm ((a::k)++(h++e)):=((u.cons a).append_right e).trans (q9.2 λc=>by simp only[xw,List.count_cons];lia);exact⟨a,dx,gs,rfl,s,rs.length.symm,go rfl fX rfl (.ins aV h1) (o.mono Ql λc d=>aq (ne c (by simp[d]))) (pm.nodup_iff.2 (nd.sublist j)) λc d=>j.subset (pm.mem_iff.1 d)⟩
theorem bB.M1(S:Qam)(ev:σ[i]? = some Qbx)(hi:δ[i]? = some QaT)(l:T.jf p t0=some u)(j:Bo H v0 p w):bB K CL b H Z (δ.set i (some (T.kG p Qbv t0))) σ (u::ts) (w::vs):=by
 obtain⟨fp,gp,e,r,nd,k⟩:=S.rep;obtain⟨v1,e1,e2,f,hv,g,rt,put,_⟩:=e.get hi;rw[ev]at hv;cases hv;obtain⟨n,f1,f2,d,at',hf,h,put2⟩:=rt.focus S.zh p l;have hw:=at'.inj j;subst hw;subst hf;subst g;have a:=put Ql QbK (put2 QbK (.sh (.any _)));rw[f9 ev]at a;have pm:((e1++((f1++([]++d))++f))++(f2++gp)).Perm ((e1++((f1++(f2++d))++f))++gp):=q9.2 λc=>by simp[xw,List.count_nil];lia
 exact⟨⟨_,_,a,.cons h r,pm.nodup_iff.2 nd,λc m=>k c (pm.mem_iff.1 m)⟩,S.bh,S.zz,S.zh,S.new,S.tp,S.tab⟩
section
variable{X:Cx}{δ1:BB}{e e0 e2:Expr}{t1:T}{tl0:B1}{d:L3.D}{D:gF}{pos pa pb ps:Pos}{x c f:Str}{gO:Co}{fs:BN}
def RQ(X:Cx)(CL:BC)(b:Bx)(e:Expr)(δ:BB)(i:Nat)(p:List DH):Prop:=
 ∀(H Z:Hp) (σ:L2.St) (ts:B1) (vs:BY) (Q:VK),bB X.K CL b H Z δ σ ts vs->(∀v0 v H' Z',aD Z Z'->aD H H'->bB X.K CL b H' Z' δ σ ts vs->σ[i]? = some Qbx->Bo H' v0 p v->Q v H')->Iw X e σ H Q
def bE(n:Vn X i x)(h:δ[i]? = some Qan):RQ X CL b Qau δ i []:=λH Z σ ts vs Q S k=>by
 obtain⟨v,hv,_⟩:=S.look h;exact cM QcT ⟨v,hv,k v v H Z Ql Ql S hv rfl⟩
def LZ(q:jh X.K (CL c))(n:aC X.K (CL c) f)(h:Qc6)(hi:δ[i]? = some Qan)(o:T.jf p t=some QaF)(m:fs.lookup f=some u)(x:AS X e f:=by rfl) :
  RQ X CL b Qdr δ i (p++[.fld f]):=λH Z σ ts vs Q S k=>
 cM (Sb dI x) (h H Z σ ts vs _ S λv0 v H' Z' z s l ev d=>by
  obtain⟨w,f2,at',r⟩:=l.Tr ev hi o;have:=at'.inj d;subst this;obtain⟨a,dx,gs,g,rfl,rfl,j,rs⟩:=r.DB;obtain⟨w,_,_,_,hw,_,_,_⟩:=dz.at fs rs m;exact⟨a,CL c,dx,gs,w,rfl,j,q,n,hw,k v0 w H' Z' z s l ev (d.snoc ⟨a,_,dx,gs,rfl,j,hw⟩)⟩)
def j6{z:Int}(h:Qc6)(hi:δ[i]? = some Qan)(u:T.jf p t=some Qbi)(h2:dM X CL b e2 δ (.int z) δ)(c:Dy tl.length z=some j)(q:qE e2:=by exactλ_ _=>rfl) :
  RQ X CL b (.Subscript e e2 pos) δ i (p++[.ix j]):=λH Z σ ts vs Q S k=>
 cM (E8 D9 dI dI q) (h H Z σ ts vs _ S λv0 v H' Z' m s1 x ev o=>h2 H' Z' σ ts vs _ x λv2 H2 Z2 l s2 f n=>by
  have at2:=o.mono s2;obtain⟨w,f2,at',r⟩:=f.Tr ev hi u;have:=at'.inj at2;subst this;obtain⟨a,us,g,rfl,rfl,d,rs⟩:=r.gR;have s:=(zN c).2.1;obtain⟨w,_,_,_,hw,_,_,_⟩:=rs.at (l9 s);refine⟨a,us,z,w,rfl,n.sc rfl,nT.of d,?_,k v0 w H2 Z2 (m.trans l) (s1.trans s2) f ev (at2.snoc ⟨a,us,rfl,.inl d,hw⟩)⟩;unfold vf;rw[← rs.length,c];exact hw)
def iM{z:Int}(h:Qc6)(hi:δ[i]? = some Qan)(s:T.jf p t=some (.tup tl))(h2:dM X CL b e2 δ (.int z) δ)(d:Dy tl.length z=some j)(o:qE e2:=by exactλ_ _=>rfl) :
  RQ X CL b (.Subscript e e2 pos) δ i (p++[.ix j]):=λH Z σ ts vs Q S k=>
 cM (E8 Sh dI dI o) (h H Z σ ts vs _ S λv0 v H' Z' l s1 u ev n=>h2 H' Z' σ ts vs _ u λv2 H2 Z2 g s2 c m=>by
  have at2:=n.mono s2;obtain⟨w,f2,at',r⟩:=c.Tr ev hi s;have:=at'.inj at2;subst this;obtain⟨a,us,rfl,f,rs⟩:=r.Sl;have q:=(zN d).2.1;obtain⟨w,_,_,_,hw,_,_,_⟩:=rs.at (l9 q);refine⟨a,us,z,w,rfl,m.sc rfl,zK.of (c.zh _ _ f),?_,k v0 w H2 Z2 (l.trans g) (s1.trans s2) c ev (at2.snoc ⟨a,us,rfl,.inr (c.zh _ _ f),hw⟩)⟩;unfold vf;rw[← rs.length,d];exact hw)
def xq(h:Qc6)(hi:δ[i]? = some Qan)(f:T.jf p t=some (.sh d)):cO X CL b e δ (.sh d) δ:=λH Z σ ts vs Q S k=>
 h H Z σ ts vs _ S λv0 v H' Z' z s a ev c=>by
  obtain⟨w,f2,at',r⟩:=a.Tr ev hi f;have:=at'.inj c;subst this;replace r:=r.Iu;obtain⟨rfl,r⟩:=r;exact k _ H' Z' z s (a.push r)
def L0(h:Qc6)(hi:δ[i]? = some Qan)(f:T.jf p t=some u)(hd:u.fB=d):dM X CL b e δ d δ:=λH Z σ ts vs Q S k=>
 h H Z σ ts vs _ S λv0 v H' Z' z s a ev c=>by
  obtain⟨w,f2,at',r⟩:=a.Tr ev hi f;have:=at'.inj c;subst this;subst hd;exact k _ H' Z' z s a (r.fB a.zh λ_ _=>rfl)
noncomputable def jb(h:Qc6)(hi:δ[i]? = some Qan)(c:T.jf p t=some u):cO X CL b e δ u (δ.set i (some (T.kG p Qbv t))):=λH Z σ ts vs Q S k=>
 h H Z σ ts vs _ S λv0 v H' Z' z s d ev a=>k v H' Z' z s (d.M1 ev hi c a)
def yK(u:RQ X CL b e0 δ i p)(h0:δ[i]? = some QaT)(f:T.jf p t0=some (.lst tl0))(h:QaL)(h1:δ1[i]? = some (some t1))(d:T.jf p t1=some Qbi)(s:tl.length<=1000000)(k:eW X CL b gO (δ1.set i (some (T.kG p QcF t1))) D)
  (o:attributeBase e0 "append" X.env (eval e0 X.env)=eval e0 X.env:=by rfl)
  (G:AB X pb e:=by rfl)
  (c:Qel:=by rfl) (hs:Qah:=by exact aW rfl) (C:swapsWith (.Call (.Attribute e0 "append" pa) [e] [] pb) none pos.line X.env=pure false:=by rfl) :
  eW X CL b (.Expr (.Call (.Attribute e0 "append" pa) [e] [] pb) pos::gO) δ D:=cZ λH Z σ ts vs E S M=>
 tO (D6 (Pj FA PySem.F.slot_list_append PySem.F.type_list_append Br dI QaE o G c hs rfl) C) (u H Z σ ts vs _ S λv0 v B y n s0 l ev j=>by
  obtain⟨w,f2,at',r⟩:=l.Tr ev h0 f;have:=at'.inj j;subst this;refine⟨?_,h B y σ ts vs _ l λv2 H1 Z1 m k1 A=>?_⟩
  .obtain⟨_,_,_,rfl,rfl,g,_⟩:=r.gR;exact .inl ⟨rfl,_,nT.of g⟩
  .obtain⟨a,us,x,g,q,z⟩:=A.agf ev h1 d (j.mono k1);exact⟨a,us,v2,x,rfl,g,by rw[q];exact q7 s Wl,M.nx _ σ _ Z1 (n.trans m) z k⟩)
def yL{z:Int}(h:QaL)(x:RQ X CL b e0 δ1 i p)(h2:dM X CL b e2 δ1 (.int z) δ1)(h1:δ1[i]? = some (some t1))(c:T.jf p t1=some Qbi)(g:Dy tl.length z=some j)(kk:eW X CL b gO (δ1.set i (some (T.kG p (.lst (tl.set j t)) t1))) D)
  (u:∀v,assign (.Subscript e0 e2 ps) X.env v=(do
   let I ← holding [v] (eval e0 X.env)
   let U ← holding [v,I] (eval e2 X.env)
   standAt ps
   holding [v,I,U] (setItem I U v)
   release [v,I,U] []):=by intro _;rfl)
  (hs:swapsWithSole [.Subscript e0 e2 ps] e pos.line X.env=pure false:=by rfl) (hw:swappedStores [.Subscript e0 e2 ps] e X.env=pure none:=by rfl) (d:(assignEach [.Subscript e0 e2 ps] X.env).map (·.2)=[assign (.Subscript e0 e2 ps) X.env]:=by rfl) :
  eW X CL b (.Assign [.Subscript e0 e2 ps] e pos::gO) δ D:=by
 refine cZ λH Z σ ts vs E S M=>tO (ake dI (akd dI dI set_list u) hs hw d) (h H Z σ ts vs _ S λv H1 Z1 m k1 F=>?_);have s:=(zN g).2.1;refine x H1 Z1 σ _ _ _ F λv0 w H2 Z2 l k2 C ev o=>h2 H2 Z2 σ _ _ _ C λv2 G Z3 k q B n=>?_;obtain⟨a,us,y,f,r,A⟩:=B.alB ev h1 c (o.mono q) s;exact⟨a,us,z,j,y,n.sc rfl,f,r▸g,M.nx _ σ _ Z3 (m.trans (l.trans k)) A kk⟩
def Ws(l:RQ X CL b e0 δ i p)(h:δ[i]? = some QaT)(j:T.jf p t0=some QcF)(g:attributeBase e0 "pop" X.env (eval e0 X.env)=eval e0 X.env:=by rfl)(c:(pa.endLine==pos.line)=true:=by rfl) :
  lI X CL b (.Call (.Attribute e0 "pop" pa) [] [] pos) δ t (δ.set i Qem):=λH Z σ ts vs Q S k=>
 cM (aky FA PySem.F.slot_list_pop PySem.F.type_list_pop akz dI g c) (l H Z σ ts vs _ S λv0 w r n e s0 q ev f=>by
  obtain⟨a,us,x,m,d,o⟩:=q.auv ev h j f;subst m;refine⟨.inl ⟨rfl,_,.inl (.inl d)⟩,a,_,x,rfl,rfl,d,Wm,?_⟩;rw[List.dropLast_concat];exact k x _ n e o)
def abX{kj:Nat}{pc:Pos}(l:RQ X CL b e0 δ i p)(h:δ[i]? = some QaT)(j:T.jf p t0=some (.lst (t::tl)))(g:attributeBase e0 "pop" X.env (eval e0 X.env)=eval e0 X.env:=by rfl)
  (r:((backTo pos (starEach [.Constant (.int 0) kj pc] X.env)).all (λx=>!x.1)&&(backToKw pos (keywordEach [] X.env)).all (λx=>x.1.isSome)&&decide ([Expr.Constant (.int 0) kj pc].length+([]:ET).length+QdL<30))=true:=by rfl)
  (c:(pa.endLine==pos.line)=true:=by rfl) (hs:starEach [.Constant (.int 0) kj pc] X.env=(false,eval (.Constant (.int 0) kj pc) X.env)::starEach [] X.env:=by exact aW rfl) :
  lI X CL b (.Call (.Attribute e0 "pop" pa) [.Constant (.int 0) kj pc] [] pos) δ t (δ.set i Qem):=λH Z σ ts vs Q S k=>
 cM (Pj FA PySem.F.slot_list_pop PySem.F.type_list_pop aaS dI (bZ aap d7 hs) g r c hs rfl) (l H Z σ ts vs _ S λv0 w s n e s0 q ev f=>by
  obtain⟨a,us,x,m,d,o⟩:=q.ap1 ev h j f;subst m;refine⟨.inl ⟨rfl,_,.inl (.inl d)⟩,a,_,0,0,x,rfl,rfl,d,Wl,Wl,?_,rfl,?_⟩
  .unfold seqIndex?;simp
  .exact k x _ n e o)
end
theorem dz.none{m:Str}:∀{fs:BN} {gs:Bz} {fp:BS},dz K CL H Z fs gs fp->fs.lookup m=none->gs.lookup m=none:=by
 intro fs
 induction fs with
 | nil=>intro gs fp r _;cases r;rfl
 | cons p fs a=>
  intro gs fp r h;cases r with
  | cons q r=>
   rw[l5]at h ⊢;split at h
   .cases h
   .exact a r h
section
variable{X:Cx}{δ1:BB}{e o:Expr}{es:Cc}{pos pp apos:Pos}{x c m:Str}{is:CO}{fx:BS->Prop}{al:BS->B1}{y:Addr}{fs:BN}{A:Type}{k n:Nat}{f:Addr}{fd:QaC}{ps:At}{arg:Qaf}{Pre:Q4}{res:Qab}{out:Qaf}
abbrev XK0:XK:=λ_ _ _=>True
theorem Kn{H1 Z1:Hp}{al:B1}{ys:BS}{ns:B1}{Q:VK}{E:XK}(a:A)(j:arg a=al)(h:Qbq)(x:Pre a)(e:res a=t)(f:yd (out a) ys ns)(G:KI σ is ys)(D:∀i∈is,i<δ1.length)(y:us.length=al.length)
  (l:bB X.K CL b H1 Z1 δ1 σ (al.reverse++ts) Qb1) (kk:∀v H' Z',aD Z1 Z'->bB X.K CL b H' Z' (Yz δ1 is ns) σ (t::ts) QaN->Q v H'):oe X.K CL n arg Pre res out us H1 Q E:=by
 obtain⟨g,r,nd,k⟩:=l.cut WA;obtain⟨g',m,pm⟩:=r.rev;have C:sF H1 g=sF H1 g':=funext λc=>by
  by_cases d:c∈g
  .rw[kN d,kN (pm.mem_iff.2 d)]
  .rw[gZ d,gZ QdY]
 rw[C]at k;rw[← j]at m;refine⟨Z1,a,g',k.zh,l.tp,m,pm.nodup_iff.2 nd,h,x,l.Lh,λv H' W' fp B ww u nw tp rt F own=>?_⟩;cases rt with
 | @cons _ _ _ _ f1 f2 w o=>
  have s:(f2++(f1++[])).Perm (f1++f2):=by rw[km];exact mN
  have q:=k.P7 B ww u nw tp (aS.app o (.cons w .nil)) (s.nodup_iff.2 F) λc d=>own c (s.mem_iff.1 d);rw[jw,jw]at q;have p:=q.Pf o.length G f D;rw[e]at p;exact kk v H' W' ww p
inductive Recv(δ:BB)(i:Nat)(c:Str)(fs:BN):(Addr->Prop)->Prop where
 | own:δ[i]? = some (some QaF)->Recv δ i c fs (λ_=>True)
 | pin {y:Addr}:δ[i]? = some (some (.pin y QaF))->Recv δ i c fs (λz=>z=y)
theorem bB.recv{g:Addr->Prop}(S:bB X.K CL b H Z δ σ ts vs)(h:Recv δ i c fs g):∃y dx gs,g y/\σ[i]? = some (some (.ref y))/\H y=some Qc2/\(∀m,fs.lookup m=none->gs.lookup m=none)/\bB X.K CL b H Z (δ.set i none) σ (.pin y QaF::ts) (.ref y::vs):=by
 cases h with
 | own h=>
  obtain⟨v,e,k⟩:=S.move h;obtain⟨y,rfl,f⟩:=k.Td rfl;obtain⟨fp,gp,_,r,_,_⟩:=f.rep;cases r with
  | cons r _=>
   replace r:=r.Iv;obtain⟨a,r⟩:=r;cases a;obtain⟨_,_,_,_,a,d,j,rs⟩:=r.DB;cases a;cases d;exact⟨y,_,_,trivial,e,j,λm hm=>rs.none hm,f⟩
 | @pin y h=>
  obtain⟨v,e,f⟩:=S.move h;obtain⟨fp,gp,_,r,_,_⟩:=f.rep;cases r with
  | cons r _=>
   replace r:=r.Iv;obtain⟨rfl,r⟩:=r;obtain⟨_,_,_,_,a,d,j,rs⟩:=r.DB;cases a;cases d;exact⟨y,_,_,rfl,e,j,λm hm=>rs.none hm,f⟩
theorem abY{pl:Sem Bool}{g:Addr->Prop}(a:Addr->BS->A)(ns:B1)(L:jh X.K (CL c))(hm:Meth X.K (CL c) m f)(F:fz X.prog X.w X.K X.mg X.base lO k f fd ps Qdc)(s:eO k X.A)(B:Qci)
  (nm:Vn X i x) (hi:Recv δ i c fs g) (hf:Qcn) (h:oI X CL b Qaa (δ.set i none) is fx al δ1)
  (C:∀y ys,g y->ys.length=is.length->fx ys->arg (a y ys)=.pin y QaF::al ys/\(arg (a y ys)).length=n/\Pre (a y ys)/\res (a y ys)=t/\yd (out (a y ys)) (y::ys) ns) (O:∀j∈i::is,j<δ1.length)
  (he:Qad:=by exact aW rfl) (hpl:Qap:=by rfl)
  (r:eval QcP X.env=(do
   let I ← eval QaH X.env
   standAt apos.atName
   let (f,first) ← holding [I] QbY
   callWith pos f first (backTo pos QbX) Qa6):=by rfl) :
  lI X CL b QcP δ t (Yz δ1 (i::is) ns):=λH Z σ ts vs Q S kk=>by
 obtain⟨y,dx,gs,q,ev,D,u,M⟩:=S.recv hi;refine cM (Lc (nS nm.hi nm.hv nm.hd nm.kH) L hm F s B .nil qF Fb he hpl r) ⟨_,ev,y,dx,gs,rfl,D,u m hf,h H Z σ _ _ _ M λys us H1 Z1 d P o l p k1 R=>?_⟩;obtain⟨h1,h2,J,G,E⟩:=C y ys q d o;refine Kn (is:=i::is) _ h1 h2 J G E ⟨ev,P⟩ O (by simp[l]) ?_ λv H' Z' z N=>kk v H' Z' (p.trans z) N;simp_all
structure wx(X:Cx)(CL:BC)(c m:Str)(k n:Nat){A:Type}(arg:Qaf)(Pre:Q4)(res:Qab)(out:Qaf):Prop where
 ex:∃f fd ps,Meth X.K (CL c) m f/\fz X.prog X.w X.K X.mg X.base lO k f fd ps Qdc/\Binds X.K fd ps []
 room:eO k X.A
 cls:jh X.K (CL c)
theorem qM{pl:Sem Bool}{g:Addr->Prop}{dl:BA}(a:Addr->A)(nt:T)(F:wx X CL c m k n arg Pre res out)(nm:Vn X i x)(hi:Recv δ i c fs g)(h:IB X CL b Qaa (δ.set i none) (dl.map T.sh) δ1)(q:∀y,g y->Pre (a y))(B:∀y,g y->res (a y)=t)(w:∀y,g y->yd (out (a y)) [y] [nt])
  (hf:Qcn:=by rfl) (o:∀y,g y->arg (a y)=.pin y QaF::dl.map T.sh:=by intros;rfl) (hlen:∀y,(arg (a y)).length=n:=by intros;rfl) (D:Qbu:=by exact jj rfl)
  (he:Qad:=by exact aW rfl) (hpl:Qap:=by rfl)
  (p:eval QcP X.env=(do
   let I ← eval QaH X.env
   standAt apos.atName
   let (f,first) ← holding [I] QbY
   callWith pos f first (backTo pos QbX) Qa6):=by rfl) :
  lI X CL b QcP δ t (δ1.set i (some nt)):=by
 obtain⟨⟨f,fd,ps,M,G,bd⟩,r,u⟩:=F;have h':oI X CL b _ _ [] (λ_=>True) (λ_=>dl.map T.sh) δ1:=λH Z σ ts vs Q S k=>h H Z σ ts vs Q S λus H' Z' l z s v=>k [] us H' Z' rfl trivial trivial l z s v;exact abY (λy _=>a y) [nt] u M G r bd nm hi hf h' (λy ys d l _=>by
  cases ND.1 l;exact⟨o y d,hlen y,q y d,B y d,w y d⟩) (λj C=>by simp_all) he hpl p
end
end L3
namespace L2
open PySem PySem.Spec PyProof.Rows
section
variable{X:Cx}{CX:tI}{k:Nat}{f C:Addr}{fd:QaC}{ps:At}{sp:Sp}{D7:BY}{ds:B0}{E:XK}{x m:Str}{p pos apos:Pos}{e:Expr}{es:Cc}{t:TA}
structure RF(K:Frag)(C:Addr)(m:Str)(f:Addr):Prop where
 ga:specialIn K QaU "__getattribute__" = some (some (.builtin "type.__getattribute__"))
 rd:readsIn K C (.type "type")=true
 fnd:findCls K QaU (.type "type") m=some (.val QR)
 kp:keepIn K QR=true
def abZ{pl:Sem Bool}(a:RF X.K C m f)(F:Qb4)(q:eO k X.A)(y:Qal)(b:X.mg x=some QaU)(z:Qch)(hd:Vals D7 ds)(n:Qcs)(B:PA X Qaa t)
  (g:AD x:=by decide) (l:Qad:=by rfl) (hpl:Qap:=by rfl)
  (o:eval (.Call (.Attribute (.Name x p) m apos) Qaa [] pos) X.env=(do
   let U ← eval (.Name x p) X.env
   standAt apos.atName
   let (f,first) ← holding [U] (getMethod U m pl)
   callWith pos f first (backTo pos QbX) Qa6):=by rfl) :
  PE X (.Call (.Attribute (.Name x p) m apos) Qaa [] pos) (Nl sp D7 E t):=by
 intro pins s σ H Q I h;refine JE (f6 (K9 (v:=.ref C) y b rfl g pins s σ H (λv H1=>v=.ref C/\H1=H) I ⟨rfl,rfl⟩) λu s1 ⟨x,H1,c,i,ex,D⟩=>?_) o;subst ex;subst D;obtain rfl:u=Value.ref C:=i;refine PySem.W.method_cls c.OO a.ga (PySem.W.cls_value c.OO a.rd a.fnd rfl ?_);have G:=c.tok (s1.toks+1);refine JU I.ok.mod.xk a.kp (f6 (B pos pins _ σ H1 _ G h) λus s2 ⟨vs,H2,d,r,j⟩=>⟨d.OO,?_⟩) l hpl;exact E4 F q z hd n d r j
end
end L2
namespace L3
open PySem PySem.Spec PyProof.Rows L2
section
variable{X:Cx}{CL:BC}{b:Bx}{δ δ1:BB}{e:Expr}{es:Cc}{t:T}{pos pp apos:Pos}{i:Nat}{x m:Str}{is:CO}{fx:BS->Prop}{al:BS->B1}{y:Addr}{A:Type}{k n:Nat}{arg:Qaf}{Pre:Q4}{res:Qab}{out:Qaf}
structure FkM(X:Cx)(CL:BC)(x m:Str)(k n:Nat){A:Type}(arg:Qaf)(Pre:Q4)(res:Qab)(out:Qaf):Prop where
 ex:∃f fd ps,RF X.K (CL x) m f/\fz X.prog X.w X.K X.mg X.base lO k f fd ps Qdc/\X.mg x=some (.ref (CL x))/\Binds X.K fd ps []
 room:eO k X.A
theorem kM1{pl:Sem Bool}(a:Addr->A)(nt:T)(F:FkM X CL x m k n arg Pre res out)(w:Qal)(h:oI X CL b Qaa δ [i] fx al δ1)(u:∀y,fx [y]->Pre (a y))(E:∀y,fx [y]->res (a y)=t)(D:∀y,fx [y]->yd (out (a y)) [y] [nt])
  (o:∀y,fx [y]->arg (a y)=al [y]:=by intros;rfl) (hlen:∀y,(arg (a y)).length=n:=by intros;rfl) (K:Qbu:=by exact jj rfl)
  (q:AD x:=by decide) (he:Qad:=by exact aW rfl) (hpl:Qap:=by rfl)
  (s:eval QcP X.env=(do
   let I ← eval QaH X.env
   standAt apos.atName
   let (f,first) ← holding [I] QbY
   callWith pos f first (backTo pos QbX) Qa6):=by rfl) :
  lI X CL b QcP δ t (δ1.set i (some nt)):=λH Z σ ts vs Q S kk=>by
 obtain⟨⟨f,fd,ps,C,G,mg,bd⟩,r⟩:=F;refine cM (abZ C G r w mg bd .nil qF Fb q he hpl s) (h H Z σ ts vs _ S λys us H1 Z1 d l hf c p k1 g=>?_);rw[km]
 match ys,d,hf,l,g,c with
 | [y],_,hf,l,g,c=>exact Kn _ (o y hf) (hlen y) (u y hf) (E y hf) (D y hf) l (λj J=>by simp_all) c g λv H' Z' z B=>kk v H' Z' (p.trans z) B
end
theorem ng.none{K:Frag}{CL:BC}{Z:Hp}{m:Str}:∀{fs:D2} {gs:Bz},ng K CL Z fs gs->fs.lookup m=none->gs.lookup m=none:=by
 intro fs
 induction fs with
 | nil=>intro gs r _;cases r;rfl
 | cons p fs a=>
  intro gs r h;cases r with
  | cons q r=>
   rw[l5]at h ⊢;split at h
   .cases h
   .exact a r h
section
abbrev _root_.DO:=List (Str×L3.D)
variable{X:Cx}{CL:BC}{b:Bx}{δ δ1 δ2:BB}{e e1 e2 o:Expr}{es:Cc}{pos apos pos':Pos}{i:Nat}{x c m:Str}{fs:DO}{ds:BA}{D:gF}{gO:Co}{A:Type}{k n:Nat}{arg:Qay}{Pre:Q4}{res:Qab}
def q_{pl:Sem Bool}(a:A)(F:Fq X CL c m k n arg Pre res)(i:Qd0)(hf:Qcn)(h:X4 X CL b Qaa δ1 ds δ2)(q:arg a=.ins c fs::ds)(g:Pre a)(l:QcE)(j:Qbq:=by rfl)
  (he:Qad:=by exact aW rfl) (hpl:Qap:=by rfl)
  (d:eval Qca X.env=(do
   let I ← eval o X.env
   standAt apos.atName
   let (f,first) ← holding [I] QbY
   callWith pos f first (backTo pos QbX) Qa6):=by rfl) :
  cO X CL b Qca δ (res a) δ2:=by
 obtain⟨⟨f,fd,ps,M,G,bd⟩,r,p⟩:=F;exact afL a p M G r bd i hf h q j g l he hpl d
def q0_{pl:Sem Bool}(a:A)(F:Fq X CL c m k n arg Pre res)(g:Qd0)(hf:Qcn)(l:arg a=[.ins c fs])(e:Pre a)(i:QcE)(h:Qbq:=by rfl)
  (d:eval Qcb X.env=(do
   let I ← eval o X.env
   standAt apos.atName
   let (f,first) ← holding [I] QbY
   callWith pos f first (backTo pos Qc1) Qa6):=by rfl) :
  cO X CL b Qcb δ (res a) δ1:=by
 obtain⟨⟨f,fd,ps,M,G,bd⟩,r,j⟩:=F;exact abh a j M G r bd g (λq=>q.none hf) l h e i d
theorem alF{z w:Int}(g:Gx X)(nm:Ln X i x)(d:δ[i]? = some (some (.sh (.int z))))(h:dM X CL b e δ (.int w) δ)(k:eW X CL b gO (δ.set i (some (.sh (.int (z+w))))) D) :
  eW X CL b (.AugAssign QbA .Add e pos::gO) δ D:=cZ λH Z σ ts vs E S M=>
 tO (akf g.nd nm.hi nm.loc dI akg nm.hf) (by
  obtain⟨v,hv,r⟩:=S.V7 d;cases r;refine⟨_,hv,h H Z σ ts vs _ S λv2 H1 Z1 a k1 j c=>?_⟩;cases c;have f:i<δ.length:=by
   obtain h|h:=Nat.lt_or_ge i _
   .exact h
   simp_all
  exact⟨z,w,rfl,rfl,M.nx _ _ H1 Z1 a ((j.push (.int _)).set f) k⟩)
theorem agg{Yc:BA}(h1:cO X CL b e1 δ (.lst QaP) δ1)(h2:lI X CL b e2 δ1 (.lst (Yc.map T.sh)) δ2)(hz:ds.length+Yc.length<=sizeLine) :
  lI X CL b QcV δ (.lst ((ds++Yc).map T.sh)) δ2:=λH Z σ ts vs Q S k=>
 cM (O7 Wf dI dI) (h1 H Z σ ts vs _ S λv1 H1 Z1 i k1 s=>h2 H1 Z1 σ _ _ _ s λv2 H2 Z2 h g=>by
  obtain⟨fp,gp,_,r,_,_⟩:=g.rep;cases r with
  | cons m r=>
   cases r with
   | cons n _=>
    obtain⟨a2,j,g2,rfl,rfl,e,a⟩:=m.gR;obtain⟨a1,l,g1,rfl,rfl,f,d⟩:=n.gR;have f1:=(aS.toF d).1;have f2:=(aS.toF a).1;refine⟨_,_,_,_,rfl,rfl,nT.of f,nT.of e,by rw[← f1.length,← f2.length];exact hz,λp o=>?_⟩;have rc:=az.app f1 f2;obtain⟨c,q⟩:=(bB.oH rc g.pop.pop).j4 (g0:=[]) (by simp[f1.length,f2.length]) o;exact k _ _ _ (i.trans h) q)
end
theorem kO{p:T}{δ:BB}{ds:BA}:Keeps (some p::δ) (p::ds.map T.sh):=λj y t h=>by
 cases j with
 | zero=>cases h;rfl
 | succ j=>
  simp_all
end L3
namespace L2
open PySem PySem.Spec PyProof.Rows
noncomputable def oR{α:Type}(xs:Q3)(lo hi st:CU):List α:=
 (sliceRange (sliceBounds lo hi st xs.length).1 (sliceBounds lo hi st xs.length).2.1 (sliceBounds lo hi st xs.length).2.2).filterMap (xs[·]?)
theorem Ko(its:B0)(lo hi st:CU):slicePick its.toArray lo hi st=(oR its lo hi st).toArray:=by
 unfold slicePick oR;simp_all
theorem ab0{α:Type}(f:α->Value)(xs:Q3)(lo hi st:CU):(oR xs lo hi st).length<=xs.length:=by
 have h:=slicePick_size_le (xs.map f).toArray lo hi st;rw[Ko]at h;have e:(oR (xs.map f) lo hi st)=(oR xs lo hi st).map f:=by
  unfold oR;rw[List.map_filterMap];simp_all
 simp_all
theorem Vals.oR{xs:BY}{us:B0}(r:Vals xs us)(lo hi st:CU):Vals (oR xs lo hi st) (oR us lo hi st):=by
 unfold L2.oR;rw[r.length];generalize sliceRange _ _ _=l
 induction l with
 | nil=>exact .nil
 | cons i l b=>
  rw[nc,nc];cases e:xs[i]? with
  | none=>
   have e2:us[i]? = none:=v3 (by
    have:=r.length;simp_all)
   simp_all
  | some x=>
   obtain⟨u,e2,a⟩:=r.get e;rw[e2];exact .cons a b
variable{X:Cx}{e st:Expr}{lo hi:Option Expr}{te:TE}{tl th tk:TO}{pos p2:Pos}
theorem YQ(he:PE X e te)(E:PO X lo tl)(D:PO X hi th)(F:PO X (some st) tk):PE X (.Subscript e (.Slice lo hi (some st) p2) pos) (λσ H Q=>te σ H λx H1=>tl σ H1 λl H2=>th σ H2 λu g=>tk σ g λk c=>∃a xs,x=.ref a/\nT X.K c a xs/\k≠some 0/\∀p,c p=none->Q (.ref p) (upd c p (.lst (oR xs l u k)))):=by
 intro pins s σ H Q I h;refine Subscript_ (f6 Qbz λv s1 ⟨x,H1,N,o,z⟩=>?_);refine wpAny_Slice (f6 (E pins s1 σ H1 _ N z) λm s2 ⟨l,H2,M,pl,y⟩=>f6 (D pins s2 σ H2 _ M y) λj s3 ⟨u,g,L,pu,w⟩=>f6 (F pins s3 σ g _ L w) λn s4 ⟨k,c,J,A,t⟩=>?_);obtain⟨a,xs,rfl,C,d,q⟩:=t;cases o;have f:Inv X pins σ c {s4 with heap:=s4.heap.push {cls:=.type "slice",data:=.fields #[m,j,n]}}:=J.kept λb B q=>kv _ q;obtain⟨its,r,i,hz⟩:=f.list C;have hlen:=r.length;refine tail_any i.isList.typeIs slot_list_getitem.lookup ?_ (rfl);refine wpAny_getItem_list_slice i.isList (Heap.IsSliceOf.new ..) pl pu A d ?_ WA;rw[Ko];have G:=ab0 (λ_=>Value.none) xs l u k;refine⟨.ref _,_,f.laid (λb B q=>kv _ q) (i5 _) ?_,rfl,q _ (f.f7.fresh (i5 _))⟩;exact⟨kM G hz,_,0,r.oR l u k,mi _ rfl⟩
end L2
namespace L3
open PySem PySem.Spec PyProof.Rows L2
variable{α:Type}
theorem ab1{β:Type}{f:α->β}{l:Q3}{lo hi st:CU}:oR (l.map f) lo hi st=(oR l lo hi st).map f:=by
 unfold oR;rw[List.map_filterMap];simp_all
variable{X:Cx}{CL:BC}{b:Bx}{δ δ1 δ2 δ3 δ4:BB}{e st:Expr}{lo hi:Option Expr}{l u k:CU}{ds:BA}{pos p2:Pos}{K:Frag}{Z:Hp}
theorem az.oR{us:BY}(r:az K CL Z ds us)(lo hi st:CU):az K CL Z (oR ds lo hi st) (oR us lo hi st):=by
 unfold L2.oR;rw[r.length];generalize sliceRange _ _ _=l
 induction l with
 | nil=>exact .nil
 | cons i l b=>
  rw[nc,nc];cases e:ds[i]? with
  | none=>
   have e2:us[i]? = none:=v3 (by
    have:=r.length;simp_all)
   simp_all
  | some x=>
   obtain⟨u,e2,a⟩:=r.get e;rw[e2];exact .cons a b
def YR(h1:QbT)(g:QbE)(h2:wj X CL b lo δ1 l δ2)(C:wj X CL b hi δ2 u δ3)(B:wj X CL b (some st) δ3 k δ4)(A:k≠some 0) :
  cO X CL b (.Subscript e (.Slice lo hi (some st) p2) pos) δ (.lst ((oR ds l u k).map T.sh)) δ4:=by
 intro H Z σ ts vs Q S kk;obtain⟨t2,f,w⟩:=h2;obtain⟨t3,d,t⟩:=C;obtain⟨K,a,s⟩:=B;refine cM (YQ dI f d a) (h1 H Z σ ts vs _ S λv H1 Z1 q k1 I r=>w H1 Z1 σ ts vs _ I λH2 Z2 o k2 G=>t H2 Z2 σ ts vs _ G λJ Z3 n i F=>s J Z3 σ ts vs _ F λM L m h j=>?_);have r:=r.mono (k2.trans (i.trans h));obtain⟨_,_,rfl,y,x⟩:=r.gR;refine⟨_,_,rfl,y,A,λp z=>?_⟩;have rc:=(az.tQ j.tp g x).oR l u k;obtain⟨c,E⟩:=(bB.oH rc j).j4 (g0:=[]) (by simp[rc.length]) z;exact kk _ _ _ (q.trans (o.trans (n.trans m))) (k1.trans (k2.trans (i.trans (h.trans c)))) E
section
variable{p q:Bool}{D:gF}{gO a c:Co}
def GS(X:Cx)(CL:BC)(b:Bx)(e:Expr)(δ:BB)(p:Bool)(δ':BB):Prop:=
 ∀(H Z:Hp) (σ:L2.St) (ts:B1) (vs:BY) (Q:Do),bB X.K CL b H Z δ σ ts vs->(∀H' Z',aD Z Z'->bB X.K CL b H' Z' δ' σ ts vs->Q p H')->BD X e σ H Q
def Kb(X:Cx)(CL:BC)(b:Bx)(e:Expr)(δ:BB)(p:Bool)(δ':BB):Prop:=
 ∀(H Z:Hp) (σ:L2.St) (ts:B1) (vs:BY) (Q:Do),bB X.K CL b H Z δ σ ts vs->(∀H' Z',aD Z Z'->bB X.K CL b H' Z' δ' σ ts vs->Q p H')->IF X e σ H Q
def Bk(h:QbI)(a:p=q):wZ X CL b e δ q δ1:=a▸h
noncomputable def ap5(h:Kb X CL b e δ p δ1):GS X CL b e δ p δ1:=λH Z σ ts vs Q S k pins s I=>h H Z σ ts vs Q S k _ pins s I
theorem alG(h:GS X CL b e δ p δ1)(h1:p=true->eW X CL b a δ1 D)(h2:p=false->eW X CL b c δ1 D):Ss X CL b (.If e a c pos) δ D:=λH Z σ ts vs E S M=>
 tO (S1 og Z6 Z6) (h H Z σ ts vs _ S λH1 Z1 d f=>by
  cases p with
  | true=>exact Pp (h1 rfl H1 Z1 σ ts vs E f (M.mono d))
  | false=>exact Sj (h2 rfl H1 Z1 σ ts vs E f (M.mono d)))
def ap6(h:GS X CL b e δ p δ1)(h1:p=true->eW X CL b a δ1 {D with nx:=λδ2=>eW X CL b gO δ2 D})(h2:p=false->eW X CL b c δ1 {D with nx:=λδ2=>eW X CL b gO δ2 D}):eW X CL b (.If e a c pos::gO) δ D:=cZ (alG h h1 h2)
end
def LI{α:Type}:Nat->(List α->Prop)->Prop
 | 0,P=>P []
 | n+1,P=>∀a,LI n λr=>P (a::r)
variable{n:Nat}
def lU{P:List α->Prop}(h:LI n P):∀us:List α,us.length=n->P us:=by
 intro us b
 induction us generalizing n P with
 | nil=>subst b;exact h
 | cons a r c=>subst b;exact c (h a) rfl
abbrev InG(K:Frag)(x:Str)(f:Addr):Prop:=nsIn K mainGlobals x=some (some QR)
structure FG(N P G:At)(sc:Scope):Prop extends c6 N P sc where
 lc:(N.all λx=>sc.names.lookup x==some .local)=true
 gb:(G.all λx=>sc.names.lookup x==some .globalImplicit)=true
variable{N:At}
def fG{P G:At}{sc:Scope}(h:c6 N P sc:=by exact jN)(lc:(N.all λx=>sc.names.lookup x==some .local)=true:=by decide +kernel)(gb:(G.all λx=>sc.names.lookup x==some .globalImplicit)=true:=by decide +kernel):FG N P G sc:=⟨h,lc,gb⟩
variable{i:Nat}{x:Str}{P G:At}
def gL(c:FG N P G X.env.scope)(j:Nat)(a:N[j]? = some x:=by rfl)(hi:X.N[i]? = some x:=by rfl)(hf:X.fn x=true:=by rfl)(hd:AD x:=by decide)(b:AE x:=by decide):Ln X i x:=Of hi (eq_of_beq (vr.1 c.lc _ (l3 a))) hf hd b
def gG(c:FG N P G X.env.scope)(j:Nat)(a:G[j]? = some x:=by rfl):Gl X x:=eq_of_beq (vr.1 c.gb _ (l3 a))
variable{e1 e2:Expr}{es:Cc}{t:T}{d d1 d2:L3.D}{tl:B1}{pp:Pos}
def yA(X:Cx)(CL:BC)(b:Bx)(es:Cc)(δ:BB)(tl:B1)(δ':BB):Prop:=
 ∀(H Z:Hp) (σ:L2.St) (ts:B1) (vs:BY) (Q:EN),bB X.K CL b H Z δ σ ts vs →
  (∀us H' Z',us.length=tl.length->aD Z Z'->bB X.K CL b H' Z' δ' σ (tl.reverse++ts) Qb1->Q us H')->Sn X es σ H Q
theorem IB.m(h:IB X CL b es δ tl δ1):yA X CL b es δ tl δ1:=λH Z σ ts vs Q S k=>h H Z σ ts vs Q S λv H' Z' l z _ a=>k v H' Z' l z a
def tY:yA X CL b [] δ [] δ:=aQ.m
theorem fh(h1:QbJ)(h2:yA X CL b es δ1 tl δ2)(hs:Qad:=by exact aW rfl):yA X CL b Qaa δ (t::tl) δ2:=λH Z σ ts vs Q S k=>
 IA (bZ dI Fb hs) (h1 H Z σ ts vs _ S λv H1 Z1 c f=>h2 H1 Z1 σ _ _ _ f λus H2 Z2 d a g=>k _ H2 Z2 (by simp[d]) QbP Wp)
def L4{op:Operator}{r:R2}{e c w:V}(l:zL X (binaryOp op) r)(h1:lI X CL b e1 δ (.sh d1) δ1)(h2:lI X CL b e2 δ1 (.sh d2) δ2)(s1:o8 d1=some e)(s2:o8 d2=some c)(s3:o8 d=some w)
  (j:∀(H:Hp) (Q:VK),Q w H->r e c H Q):lI X CL b (.BinOp e1 op e2 pos) δ (.sh d) δ2:=λH Z σ ts vs Q S k=>by
 refine cM (O7 l dI dI) (h1 H Z σ ts vs _ S λv1 H1 Z1 g m=>h2 H1 Z1 σ _ _ _ m λv2 H2 Z2 f a=>?_);have h:=a.view;have i:=a.pop.view;rw[i.sc s1,h.sc s2];exact j H2 Q (k w H2 Z2 (g.trans f) (a.pop.pop.push (V9 s3)))
noncomputable def Eh{i j:Int}(h1:lI X CL b e1 δ (.sh Qaw) δ1)(h2:lI X CL b e2 δ1 Qce δ2):lI X CL b QcV δ (.sh (.int (i+j))) δ2:=L4 aaz h1 h2 rfl rfl rfl λ_ _ q=>⟨i,j,rfl,rfl,q⟩
noncomputable def Ei{i j:Int}(h1:lI X CL b e1 δ (.sh Qaw) δ1)(h2:lI X CL b e2 δ1 Qce δ2):lI X CL b (.BinOp e1 .Sub e2 pos) δ (.sh (.int (i-j))) δ2:=L4 aaA h1 h2 rfl rfl rfl λ_ _ q=>⟨i,j,rfl,rfl,q⟩
noncomputable def ab3{y:Str}(h1:lI X CL b e1 δ (.sh Qa0) δ1)(h2:lI X CL b e2 δ1 (.sh (.str y)) δ2)(c:x.length+y.length<=sizeLine):lI X CL b QcV δ (.sh (.str (x++y))) δ2:=L4 E3 h1 h2 rfl rfl rfl λ_ _ q=>⟨x,y,rfl,rfl,c,q⟩
def agh(h:QbJ):lI X CL b e δ (.sh t.fB) δ1:=λH Z σ ts vs Q S k=>h H Z σ ts vs Q S λv H1 Z1 c f=>by
 obtain⟨Z2,a,d⟩:=f.Li;exact k v H1 Z2 QbP d
variable{j:Nat}
def agi(h:yA X CL b es δ tl δ1)(g:tl.length<=sizeLine):lI X CL b (.Tuple es j pos) δ (.tup tl) δ1:=λH Z σ ts vs Q S k=>
 cM (aaF Fb) (h H Z σ ts vs _ S λus H1 Z1 d e l=>⟨ d▸g,λp f=>by
  obtain⟨a,c,i⟩:=l.Lq d f;exact k _ _ _ (e.trans a) i⟩)
theorem pY(h:yA X CL b es δ (ds.map T.sh) δ1)(a:QbB):lI X CL b (.Tuple es j pos) δ (.sh (.tup ds)) δ1:=by
 have:=agh (agi (pos:=pos) (j:=j) h Wp)
 rwa [T.fB,kJ]at this
def xr{k:Int}(h1:lI X CL b e1 δ (.sh (.lst ds)) δ1)(h2:lI X CL b e2 δ1 (.sh (.int k)) δ2)(j:vf ds k=some d)(hs:qE e2:=by exactλ_ _=>rfl):lI X CL b Qdm δ (.sh d) δ2:=λH Z σ ts vs Q S kk=>
 cM (E8 D9 dI dI hs) (h1 H Z σ ts vs _ S λv1 H1 Z1 e l=>h2 H1 Z1 σ _ _ _ l λv2 H2 Z2 c a=>by
  have h:=a.view;obtain⟨fp,gp,_,r,_,_⟩:=a.pop.rep;cases r with
  | cons r _=>
   replace r:=r.Iu;obtain⟨rfl,r⟩:=r;obtain⟨_,_,rfl,i,g⟩:=r.gR;obtain⟨v,hv,f⟩:=zQ g j;exact⟨_,_,k,v,rfl,h.sc rfl,a.zh.seq i,hv,kk v H2 Z2 (e.trans c) (a.pop.pop.push f)⟩)
def ab4{i:Int}(hm:X.mg "str" = none)(d:Gl X "str")(h:lI X CL b e δ (.sh Qaw) δ1)(hi:i.natAbs.log2<1920)(hs:Qah:=by exact aW rfl) :
  lI X CL b (.Call (.Name "str" pp) [e] [] pos) δ (.sh (.str (toString i))) δ1:=λH Z σ ts vs Q S k=>
 cM (kB zM d hm boot_str QaE (he:=hs)) (h H Z σ ts vs _ S λv H1 Z1 c a=>by
  have r:=a.view;rw[r.sc rfl];exact⟨i,rfl,hi,k _ H1 Z1 c (a.pop.push (.str _))⟩)
variable{A:Type}{y:Addr}
def r8{k:Nat}{al:BS->B1}{arg:Qaf}{Pre:Q4}{res:Qab}{out:Qaf}(a:A)(nt:T)(F:Qd5)(g:Qal)(h:oI X CL b Qaa δ [i] (λys=>ys.headD 0=y/\True) al δ1)(f:Pre a)(m:res a=t)(j:yd (out a) [y] [nt])
  (c:arg a=al [y]:=by rfl) (hlen:Qbq:=by rfl) (l:Qbu:=by exact jj rfl)
  (d:AD x:=by decide) (he:Qad:=by exact aW rfl) (hpl:Qap:=by rfl) :
  lI X CL b Qbf δ t (δ1.set i (some nt)):=
 cM1 _ nt F g h (λ_ _=>f) (λ_ _=>m) (λz hz=>(show z=y from hz.1)▸j) (λz hz=>(show z=y from hz.1)▸c) (λ_=>hlen) l d he hpl
def Ac(δ:BB)(ix:CO)(i:Nat)(t:T):BB:=ix.map λk=>if k=i then some t else ue δ[k]?
variable{H H' Z':Hp}{σ:L2.St}{ts:B1}{vs:BY}{v:V}{fp:BS}{d:D}
def ab5{ix:CO}(h:i∉ix):Ac δ ix i t=Bu δ ix:=oC λk a=>dP λ(e:k=i)=>h (e▸a)
theorem agj{o:Option (Option T)}{w:Option V}{r:BB}{σ':L2.St}(S:Qam)(zz:aD Z Z')(k:Nat)(a:fU K CL H' Z' r σ' fp):fU K CL H' Z' (ue δ[k]?::r) ((σ[k]?).getD none::σ') fp:=by
 cases e:δ[k]? with
 | none=>exact .skip a
 | some o=>
  cases o with
  | none=>exact .skip a
  | some t=>
   cases t with
   | sh d=>
    obtain⟨v,hv,c⟩:=S.V7 e;rw[hv];exact fU.cons (fp:=[]) (.sh (c.mono zz)) a
   | _=>exact .skip a
theorem Qi(S:Qam)(zz:aD Z Z')(hv:σ[i]? = some Qav)(rt:bK K CL H' Z' t v fp):∀{ix:CO},i∈ix->ix.Nodup->fU K CL H' Z' (Ac δ ix i t) (ix.map λk=>(σ[k]?).getD none) fp
 | [],h,_=>absurd h kf
 | k::r,h,nd=>by
  have nd:=nk.1 nd;show fU K CL H' Z' ((if k=i then some t else ue δ[k]?)::Ac δ r i t) (((σ[k]?).getD none)::r.map λk=>(σ[k]?).getD none) fp;by_cases e:k=i
  .subst e;rw[dX rfl,hv,ab5 nd.1];have q:fU K CL H' Z' (Bu δ r) (r.map λk=>(σ[k]?).getD none) []:=(Fg S r H').mono zz λa c=>absurd c kf;have:=fU.cons (δ:=Bu δ r) rt q
   rwa [km]at this
  .rw[dP e];exact agj (o:=none) (w:=none) S zz k (Qi S zz hv rt ((fO.1 h).resolve_left λz=>e z.symm) nd.2)
theorem FI(hv:σ[i]? = some Qav):∀{ix:CO} {fp:BS},i∈ix->fU K CL H Z (Ac δ ix i t) (ix.map λk=>(σ[k]?).getD none) fp->∃a,bK K CL H Z t v a/\a.Sublist fp
 | [],_,h,_=>absurd h kf
 | k::r,fp,h,q=>by
  have q:fU K CL H Z ((if k=i then some t else ue δ[k]?)::Ac δ r i t) (((σ[k]?).getD none)::r.map λk=>(σ[k]?).getD none) fp:=q;by_cases e:k=i
  .subst e;rw[dX rfl,hv]at q;cases q with
   | cons rt _=>exact⟨_,rt,NH _ _⟩
  .rw[dP e]at q;have hm:=(fO.1 h).resolve_left λz=>e z.symm;generalize ue δ[k]? = o at q;generalize (σ[k]?).getD none=w at q;cases q with
   | skip q=>exact FI hv hm q
   | cons _ b=>
    obtain⟨a,h1,h2⟩:=FI hv hm b;exact⟨a,h1,h2.trans (vy _ _)⟩
theorem bB.alI{D:Addr}(S:bB K CL b H Z δ σ (.sh d::.lst tl::ts) (v::.ref D::vs)):∃us,H D=some (.lst us)/\us.length=tl.length/\bB K CL b (upd H D (.lst (us++[v]))) Z δ σ (.lst (tl++[.sh d])::ts) (.ref D::vs):=by
 obtain⟨fp,gp,e,r,nd,k⟩:=S.rep;cases r with
 | cons n h=>
  obtain⟨rfl,rd⟩:=n.Iu;cases h with
  | cons h m=>
   obtain⟨a,us,g,j,i,o,rs⟩:=h.gR;cases j;cases i;rename_i l;rw[pX]at nd k;have pm:(fp++((D::g)++l)).Perm (D::(fp++(g++l))):=by
    rw[n4];exact List.perm_middle
   have ne:∀c∈fp++(g++l),c≠D:=λc f z=>by
    subst z;exact(nk.1 (pm.nodup_iff.1 nd)).1 f
   refine⟨us,o,rs.length.symm,S.Sx rfl k Wm (e.mono Ql λc f=>aq (ne c (by simp[f]))) (.cons (.lst aV (aS.app (rs.mono Ql λc f=>aq (ne c (by simp[f]))) (.cons (.sh rd) .nil))) (m.mono Ql λc f=>aq (ne c (by simp[f])))) ?_ λc f=>?_⟩
   .simpa using nd
   .simpa using f
variable{scope:Scope}{Nc:At}{ix:CO}{elt:Expr}{px pr pc:Pos}
theorem ab6(t:Nat->T)(d:Nat->L3.D)(sc:Qc5)(a:QaK)(hm:Qcl)(hg:Gl X "range")(h:lI X CL b e δ (.sh (.int n)) δ1)(hn:n<=1000)(hi:δ1[i]? = some (some (.pin y (t 0))))(Wt:i∈ix)(aa:ix.Nodup)
  (inner:∀C s0 H0 f0 b' (j:Nat),j<n->lI Qee CL b' elt QeC (.sh (d j)) Qex)
  (pM:QdM) (IC:Qah)
  {RR:QeD} {pins:BM} {s:Qb} (S:bB X.K CL b H Z δ σ ts vs) (I:Qba)
  (fin:∀D C s' H' Z',(∃m,s'.heap.Ns C m)->(∃o,s'.heap.get? C=some o/\∀v,o.data ≠ .cell v)->H' C=none->(C≠X.env.locals/\C∉X.fs/\X.jx.heap.objs.size<=C/\(∀y c,X.env.cells.lookup y=some c->c≠C)/\∀q∈X.pn++pins,q.1≠C)->(∀h',Heap.SameBut C s'.heap h'->L2.Inv X pins σ H' {s' with heap:=h'})->aD Z Z'->bB X.K CL b H' Z' (δ1.set i (some (.pin y (t n)))) σ (.lst ((List.range n).map λj=>T.sh (d j))::ts) (.ref D::vs)->RR (.ref D) C (.ok .next) s') :
  wpAny Qr X.A (eval Qdj X.env) (λv p=>wpAny Qr X.A (pyIter v) (λit l=>wpAny Qr X.A (newList []) (λacc k=>wpAny Qr X.A Qen (λPR g=>
   codeAny Qr X.A (.compStart QcH 0 it acc {PR with scope:=relabel scope X.env}) (RR acc PR.locals) g) X.xe k) X.xe l) X.xe p) X.xe s:=by
 refine f6 ((J1 (tg:=.Name x px) hg hm (bZ dI d7 IC) pM) pins s σ H (λJ H1=>J=Ha 0 n/\∃Z1,aD Z Z1/\bB X.K CL b H1 Z1 δ1 σ ts vs) I (h H Z σ ts vs _ S λv H1 Z1 O N=>?_)) λv s1 h1=>f6 h1 λar s2 zz=>?_
 .have r:=N.view;rw[T.fB]at r;exact⟨n,by rw[r.sc rfl],Wc,Wc,by rw[ky],Z1,O,N.pop⟩
 obtain⟨it,fp,tn,J,H1,e0,I1,Tn,st,hf,rfl,Z1,O,N⟩:=zz;subst e0;have Km:i<δ1.length:=by
  obtain h|h:=Nat.lt_or_ge i δ1.length
  .exact h
  .rw[v3 h]at hi;cases hi
 refine yG (xs:=[x]) (G:=λD H'=>∃Z',aD Z1 Z'/\bB X.K CL b H' Z' (δ1.set i (some (.pin y (t n)))) σ (.lst ((List.range n).map λj=>T.sh (d j))::ts) (.ref D::vs)) (RR:=RR) (Ar sc) a I1 Tn st hf (λD hD=>?_) λD C' s' H' m io nC ch ci ⟨Z',M,S'⟩=>?_
 .refine⟨λj m H2=>m=n-j/\j<=n/\∃Z2,aD Z1 Z2/\bB X.K CL b H2 Z2 (δ1.set i (some (.pin y (t j)))) σ (.lst ((List.range j).map λj=>T.sh (d j))::ts) (.ref D::vs),⟨n,rfl,kr _,Z1,.refl _,?_⟩,?_⟩
  .rw[f9 hi];exact(bB.j4 (tl:=[]) (us:=[]) (g0:=[]) N rfl hD).2
  rintro j m H2 ⟨rfl,hj,Z2,z2,f⟩;by_cases U:j<n
  .refine .inr ⟨U,λH'=>∃Z2,aD Z1 Z2/\bB X.K CL b H' Z2 (δ1.set i (some (.pin y (t QA)))) σ (.lst ((List.range QA).map λj=>T.sh (d j))::ts) (.ref D::vs),λH' h=>⟨n-QA,Wc,rfl,U,h⟩,λxv L yy C s0 H0 f0 os ho=>?_⟩;obtain⟨o,rfl⟩:=List.length_eq_one_iff.1 ho;refine⟨JZ 0,tM sc.nd (by show Nc[0]? = some x;rw[sc.hd];rfl) (.inl (E5 sc.own)) (.inr (E5 sc.own)),[some xv],rfl,rfl,?_⟩;obtain⟨rfl,rfl⟩:=yy;unfold ID;dsimp only;rw[dX rfl];obtain⟨v0,ev,Sm⟩:=f.move (pE Km);have V:v0=.ref y:=by
    obtain⟨_,_,_,r,_,_⟩:=Sm.rep;cases r with
    | cons r _=>cases r;rfl
   subst V;rw[x4]at Sm;obtain⟨gp,r,nd,Sc⟩:=bB.cut (tl:=[.pin y (t j)]) (us:=[.ref y]) Sm rfl;have ag:∀u:T,Ac (δ1.set i (some (.pin y (t j)))) ix i u=Ac δ1 ix i u:=λu=>oC λq _=>by
    by_cases e:q=i
    .rw[dX e,dX e]
    .rw[dP e,dP e,Fh λz=>e z.symm]
   obtain⟨g1,P,ab⟩:∃g1,bK X.K CL L Z2 (.pin y (t j)) (.ref y) g1/\gp=g1:=by
    cases r with
    | cons P r2=>
     cases r2;exact⟨_,P,by rw[km]⟩
   subst ab;have zn:∀c∈gp,Z2 c=none:=λc a=>by
    cases q:Z2 c with
    | none=>rfl
    | some o=>exact absurd a (lS (Sc.zh c o q)).1
   have E:=Qi (ix:=ix) f Ql ev P Wt aa;rw[ag]at E;have S0:bB X.K CL ⟨sF L gp,Z2⟩ L Z2 (some (.sh (.int (j:Int)))::Ac δ1 ix i (.pin y (t j))) (yC σ ix (some (.int (0+(j:Int))))) [] []:=
    ⟨⟨[]++gp,[],.cons (by rw[vw];exact .sh (.int _)) E,.nil,by rw[km];exact nd,λc a=>by
     have a:c∈gp:=by simpa using a
     exact⟨zn c a,kN a⟩⟩,λc o q=>(lS q).2,.refl _,f.zh,λc o q z=>(by have M:Z2 c=none:=z;rw[show Z2 c=some o from q]at M;cases M),f.tp,f.Lh⟩
   refine inner C s0 H0 f0 ⟨sF L gp,Z2⟩ j U L Z2 _ [] [] _ S0 λyv H5 Z5 z5 F=>?_;obtain⟨f1,g5,e1,r5,R,ae⟩:=F.rep;cases r5 with
   | cons B rn=>
    cases rn;replace B:=B.Iu;obtain⟨rfl,B⟩:=B;cases e1 with
    | @cons _ _ _ _ f0 f2 rk e2=>
     obtain⟨f3,rp,sb⟩:=FI ev Wt e2;have nf:f2.Nodup:=by
      have:=(la.1 R).1;exact(la.1 this).2.1
     have S6:=Sc.P7 (H':=H5) (W':=Z5) (tl:=[.pin y (t QA),.sh (d j)]) (us:=[.ref y,yv]) (fp:=f3++([]++[])) F.bh z5 F.zh F.new F.tp (.cons rp (.cons (.sh B) .nil)) (by simpa using nf.sublist sb) (λc a=>by
      have a:c∈f3:=by simpa using a
      exact ae c (j1 _ (js _ (sb.subset a))))
     have S7:=bB.set (i:=i) S6 (by rw[n3];exact Km);rw[f9 ev,x4]at S7;obtain⟨us,W,Y,S8⟩:=bB.alI S7;refine⟨us,W,?_,Z5,z2.trans z5,?_⟩
     .rw[Y,e7,n6];have:=mv;exact mu (show j<1000 by lia) (by rw[mv];decide)
     .rw[List.range_succ,kc];exact S8
  .have ej:j=n:=by lia
   subst ej;exact .inl ⟨i5 _,Z2,z2,f⟩
 .exact fin D C' s' H' Z' m io nC ch ci (O.trans M) S'
def Kp(t:Nat->T)(d:Nat->L3.D)(sc:Qc5)(p:QaK)(hm:Qcl)(o:Gl X "range")(h:lI X CL b e δ (.sh (.int n)) δ1)(l:n<=1000)(hi:δ1[i]? = some (some (.pin y (t 0))))(u:i∈ix)(a:ix.Nodup)
  (inner:∀C s0 B f0 q (j:Nat),j<n->lI (cR X scope Nc C s0 B f0) CL q elt QeC (.sh (d j)) Qex)
  (g:QdM:=by rfl) (z:Qah:=by exact aW rfl)
  (hs:∀x,foldedSetIterable Qdj X.env x=pure x:=by intro _;rfl) :
  lI X CL b QcH δ (.lst ((List.range n).map λj=>T.sh (d j))) (δ1.set i (some (.pin y (t n)))):=λH Z σ ts vs Q S k pins s I=>by
 rw[eval_ListComp];refine FC (use:=none) rfl hs (Fj sc I) sc.kind sc.names ?_;exact ab6 (RR:=λacc C=>compPost Qr X.A X.xe none Qa2 acc C) t d sc p hm o h l hi u a inner g z S I λD F s' H' Z' ⟨m,c⟩ io E ch ci f v=>⟨m,c,λh' r=>⟨.ref D,H',ci h' r,rfl,k _ H' Z' f v⟩⟩
variable{gO:Co}
def Wu{D:gF}{c:Nat}{u:Str}{py G:Pos}(t:Nat->T)(l:Nat->L3.D)(g:Gx X)(nm:Ln X c u)(sc:Qc5)(hm:Qcl)(U:Gl X "range")(h:lI X CL b e δ (.sh (.int n)) δ1)(P:n<=1000)(hi:δ1[i]? = some (some (.pin y (t 0))))(W:i∈ix)(f:ix.Nodup)
  (inner:∀C s0 H0 f0 b' (j:Nat),j<n->lI Qee CL b' elt QeC (.sh (l j)) Qex)
  (kk:eW X CL b gO ((δ1.set i (some (.pin y (t n)))).set c (some (.lst ((List.range n).map λj=>T.sh (l j))))) D) (R:c<δ1.length)
  (k:swapsWith QcH (some (.Name u py)) G.line X.env=pure true\/swapsWith QcH (some (.Name u py)) G.line X.env=pure false)
  (N:QdM:=by rfl) (Y:Qah:=by exact aW rfl)
  (hs:∀x,foldedSetIterable Qdj X.env x=pure x:=by intro _;rfl):eW X CL b (.Assign [.Name u py] QcH G::gO) δ D:=by
 obtain k|k:=k
 case inr=>exact gC g nm (Kp t l sc g.calm hm U h P hi W f inner N Y hs) kk (by rw[n3];exact R) k
 refine cZ λH Z σ ts vs E S M pins s I=>?_;rw[exec_Assign_Name_used _ _ _ _ k];refine i9 (GG (i9 ?_));show wpAny _ X.A (do let _ ← comprehension QcH scope X.env _ (newList []) false (eval Qdj X.env) (some (assign (.Name u py) X.env))) _ _ s;refine i9 (m3 (FC (use:=some (assign (.Name u py) X.env)) (Q:=λ_ s'=>SP X pins E .next s') rfl hs (Fj sc I) sc.kind sc.names ?_) (λ_ s' d=>kA (kA d)) λ_ _ e=>e);refine ab6 (RR:=λacc C=>compPost Qr X.A X.xe (some (assign (.Name u py) X.env)) (λ_ s'=>SP X pins E .next s') acc C) t l sc g.calm hm U h P hi W f inner N Y S I λD' p s' H' Z' m io nC ch ci z' S'=>?_;obtain⟨m,v⟩:=m;obtain⟨o,O,uX⟩:=io;have I':L2.Inv X pins σ H' s':=ci s'.heap (.refl ..);have I2:L2.Inv X (pins++[(p,o)]) σ H' s':=I'.wW λq d=>by
  obtain z|z:=i3.1 d
  .exact I'.pin q (js _ z)
  .have e:q=(p,o):=by simpa using z
   subst e;exact⟨O,nC,ch.1,ch.2.1,uX⟩
 show wpAny _ X.A (assign (.Name u py) X.env (.ref D')) _ _ s';refine f6 ((tM g.nd nm.hi nm.loc nm.hf) _ s' σ H' (.ref D') (.ref D') (λa H8=>a=σ.set c (some (.ref D'))/\H8=H') I2 rfl ⟨rfl,rfl⟩) λ_ L zz=>?_;obtain⟨a,H8,J,e8,F⟩:=zz;subst e8;subst F;obtain⟨B,r,_⟩:=J.pin (p,o) (js _ (js _ Wm));refine⟨m,v.at' λo' V=>by rw[O]at V;cases V;exact B,λh' Yh=>?_⟩;have I9:L2.Inv X pins (σ.set c (some (.ref D'))) _ L:=J.wW λq d=>J.pin q (js _ (j1 _ d));have K:=I9.turned (it:=p) (h':=h') (t':=L.toks) (λb o hb e=>(Yh.2 b hb).trans e) r ch.1.symm.symm (.inr ch.2.2.1) ch.2.2.2.1 ch.2.2.2.2;exact⟨_,_,K,M.nx _ _ _ Z' z' (S'.set (by rw[n3];exact R)) kk⟩
def FJ{C:Addr}{s:Qb}{k:Nat}{arg out:Qaf}{Pre:Q4}{res:Qab}(F:Qd5):OS Qa8 CL x k n arg Pre res out:=⟨F.ex,F.room⟩
variable{t0:T}
def qZ{t2:T}(h:QbJ)(q:t=t2):lI X CL b e δ t2 δ1:=q▸h
def ab7(hm:X.mg "tuple" = none)(h:lI X CL b e δ (.lst QaP) δ1)(hi:QbE)(p:Gl X "tuple")(hs:Qah:=by exact aW rfl):lI X CL b (.Call (.Name "tuple" pp) [e] [] pos) δ (.sh (.tup ds)) δ1:=λH Z σ ts vs Q S k=>
 cM (kB yb p hm C1 QaE (he:=hs)) (h H Z σ ts vs _ S λv H1 Z1 m i=>by
  have r:=i.view;rw[T.fB,kJ]at r;have g:=i.pop;obtain⟨_,_,rfl,n,d⟩:=r.gR;refine⟨_,_,rfl,.inl ⟨n,λl o=>?_⟩⟩;obtain⟨a,c,q⟩:=(bB.oH (az.tQ g.tp hi d) g).Lq (by simp[d.length]) o;obtain⟨Z3,j,f⟩:=q.Li;rw[T.fB,kJ]at f;exact k _ _ Z3 (m.trans (a.trans j)) f)
def YS{h:Int}(h1:QdR)(a:QbE)(q:lI X CL b e2 δ1 (.sh (.int h)) δ2):lI X CL b (.Subscript e (.Slice none (some e2) none p2) pos) δ (.lst ((cutD ds none (some h)).map T.sh)) δ2:=λH Z σ ts vs Q S k=>by
 refine cM (Pb V5 dI V2 (V3 dI)) (h1 H Z σ ts vs _ S λv H1 Z1 j k1 t=>q H1 Z1 σ _ _ _ t λv2 H2 Z2 i f=>?_);have m:=f.view;refine⟨h,m.sc rfl,?_⟩;have r:=f.pop.view;have g:=f.pop.pop;obtain⟨_,_,rfl,n,l⟩:=r.gR;refine⟨_,_,rfl,n,λp o=>?_⟩;have rc:=az.tQ g.tp (iK λd hd=>gY a d (Wd hd)) (l.cut none (some h));obtain⟨c,s⟩:=(bB.oH rc g).j4 (g0:=[]) (by simp[rc.length]) o;exact k _ _ _ (j.trans i) s
def cT1{k:Nat}{arg:Qaf}{Pre:Q4}{res:Qab}{out:Qaf}(a:Addr->A)(F:Qd5)(P:Qal)(h:cO X CL b e δ t0 δ1)(j:t0.isRef=true)(h2:IB X CL b es δ1 QaP δ2)(N:∀y,Pre (a y))(W:∀y,res (a y)=t)
  (u:∀y,arg (a y)=.pin y t0::ds.map T.sh:=by intros;rfl) (hlen:ds.length+1=n:=by rfl)
  (E:AD x:=by decide) (he:Qad:=by exact aW rfl) (hpl:Qap:=by rfl) :
  lI X CL b Qbf δ t δ2:=by
 obtain⟨⟨f,fd,ps,G,m,q,bd⟩,r⟩:=F;intro H Z σ ts vs Q S kk;refine cM (D8 G r P m q bd .nil qF Fb E he hpl) ((ay h h2 he) H Z σ ts vs _ S λus H1 Z1 l C k1 p=>?_);rw[km];obtain⟨g,I,nd,o⟩:=p.cut (by simp[l]);obtain⟨g',L,pm⟩:=I.rev;have U:sF H1 g=sF H1 g':=funext λc=>by
  by_cases d:c∈g
  .rw[kN d,kN (pm.mem_iff.2 d)]
  .rw[gZ d,gZ QdY]
 rw[U]at o;obtain⟨y,s,R,w⟩:∃y s,us=.ref y::s/\aS X.K CL H1 Z1 (.pin y t0::ds.map T.sh) (.ref y::s) g':=by
  cases L with
  | cons J i=>
   cases J with
   | sh r=>cases j
   | tup r _=>cases j
   | pin r=>cases j
   | CY r _ _=>cases j
   | lst r q=>exact⟨_,_,rfl,.cons (.pin (.lst r q)) i⟩
   | ins r q=>exact⟨_,_,rfl,.cons (.pin (.ins r q)) i⟩
   | rZ r q=>exact⟨_,_,rfl,.cons (.pin (.rZ r q)) i⟩
   | dct r q=>exact⟨_,_,rfl,.cons (.pin (.dct r q)) i⟩
 subst R;rw[← u y]at w;refine⟨Z1,a y,g',o.zh,p.tp,w,pm.nodup_iff.2 nd,by rw[u,lr,e7];exact hlen,N y,p.Lh,λv H' W' fp O ww D nw tp rt V own=>?_⟩;cases rt with
 | @cons _ _ _ _ f1 f2 M Y=>
  have B:=o.P7 (tl:=[res (a y)]) (us:=[v]) (fp:=f1++[]) O ww D nw tp (.cons M .nil) (by rw[List.append_nil];exact(List.nodup_append.1 V).1) λc d=>own c (List.mem_append_left _ (by simpa using d));rw[W]at B;exact kk v H' W' (C.trans ww) B
def Conv(Z Z':Hp):Prop:=∀c o,Z c=some o->Z' c=some o\/(∃gs a,o=.dT gs/\Z' c=some (.fB a (.dT gs)))\/∃gs a,o=.fB a (.dT gs)/\Z' c=some (.dT gs)
variable{a:Addr}
theorem Conv.keep{o:HO}(e:Conv Z Z')(h:Z a=some o)(h1:∀gs,o ≠ .dT gs)(h2:∀gs b,o ≠ .fB b (.dT gs)):Z' a=some o:=by
 obtain q|⟨gs,b,q,_⟩|⟨gs,b,q,_⟩:=e a o h
 .exact q
 .exact absurd q (h1 gs)
 .exact absurd q (h2 gs b)
def T.L5:List DH->T->Option T
 | [],t=>some t
 | s::p,t=>(t.core.YM s).bind (T.L5 p)
def T.Tt:List DH->T->T->T
 | [],u,_=>u
 | s::p,u,t=>match t.core.YM s with
  | some k=>t.yJ (t.core.Tp s (T.Tt p u k))
  | none=>t
variable{u:T}{p:List DH}
theorem bK.raw(zh:aD Z H):∀(p:List DH) {t u:T} {v:V} {fp:BS},bK K CL H Z t v fp->T.L5 p t=some u->∃w f2,Bo H v p w/\bK K CL H Z u w f2/\∀{b:T},bK K CL H Z b w f2->bK K CL H Z (T.Tt p b t) v fp
 | [],t,u,v,fp,h,e=>by
  cases e;exact⟨v,fp,rfl,h,λr=>r⟩
 | s::p,t,u,v,fp,h,e=>by
  obtain⟨h1,h2⟩:=h.Tq;rw[T.L5]at e;cases a:t.core.YM s with
  | none=>rw[a]at e;cases e
  | some k=>
   rw[a]at e;obtain⟨c,a1,a2,a3,n,m,l,j⟩:=h1.YM zh a;obtain⟨w,f2,g,f,d⟩:=bK.raw zh p l e;refine⟨w,f2,⟨c,n,g⟩,f,λ{b} i=>?_⟩;rw[T.Tt,a,m];exact h2 (j QbK (d i))
theorem bB.loose(S:Qam)(hi:δ[i]? = some QaT)(f:T.L5 p t0=some (.pin y u)):bB K CL b H Z (δ.set i (some (T.Tt p u t0))) σ ts vs:=by
 obtain⟨fp,gp,e,r,nd,k⟩:=S.rep;obtain⟨v1,e1,e2,g,hv,c,rt,put,_⟩:=e.get hi;obtain⟨w,f2,at',d,put2⟩:=rt.raw S.zh p f;have a:=put Ql QbK (put2 (by cases d with|pin r=>exact r));rw[f9 hv]at a;subst c;exact⟨⟨_,gp,a,r,nd,k⟩,S.bh,S.zz,S.zh,S.new,S.tp,S.tab⟩
theorem bB.auy(S:Qam)(hi:δ[i]? = some Qan)(a:t.isRef=true):∃y,bB K CL b H Z (δ.set i (some (.pin y t))) σ ts vs:=by
 obtain⟨fp,gp,e,r,nd,k⟩:=S.rep;obtain⟨v1,e1,e2,f,hv,d,rt,put,_⟩:=e.get hi;have:∃y,v1=.ref y:=by
  cases rt with
  | sh r=>cases a
  | tup r _=>cases a
  | pin r=>cases a
  | CY r _ _=>cases a
  | lst r q=>exact⟨_,rfl⟩
  | ins r q=>exact⟨_,rfl⟩
  | rZ r q=>exact⟨_,rfl⟩
  | dct r q=>exact⟨_,rfl⟩
 obtain⟨y,rfl⟩:=this;have c:=put Ql QbK (bK.pin rt);rw[f9 hv]at c;subst d;exact⟨y,⟨_,gp,c,r,nd,k⟩,S.bh,S.zz,S.zh,S.new,S.tp,S.tab⟩
section
variable{o:Expr}{d:L3.D}{D:gF}{m:Nat}
def L6(h:δ[i]? = some Qan)(k:∀y,eW X CL b gO (δ.set i (some (.pin y t))) D)(a:t.isRef=true:=by rfl):eW X CL b gO δ D:=λH Z σ ts vs E S M=>by
 obtain⟨y,c⟩:=S.auy h a;exact k y H Z σ ts vs E c M
theorem ab8(n:Vn X i x)(h:δ[i]? = some (some (.pin y t))):cO X CL b Qau δ (.pin y t) (δ.set i (some (.sh (.val (.ref y))))):=λH Z σ ts vs Q S k=>by
 have f:i<δ.length:=by
  obtain z|z:=Nat.lt_or_ge i _
  .exact z
  simp_all
 obtain⟨v,e,c⟩:=S.move h;have hv:v=.ref y:=by
  obtain⟨_,_,_,r,_,_⟩:=c.rep;cases r with
  | cons r _=>cases r;rfl
 subst hv;have a:=(c.push (d:=.val (.ref y)) (.val _)).set (i:=i) Wp;rw[f9 e,x4]at a;exact cM QcT ⟨_,e,k _ H Z Ql Ql a⟩
def YT(n:Vn X m x)(hm:δ[m]? = some (some (.sh (.val (.ref y)))))(hi:δ[i]? = some QaT)(f:T.L5 p t0=some (.pin y u))(hd:u.fB=d):dM X CL b Qau δ d δ:=λH Z σ ts vs Q S k=>by
 obtain⟨v,hv,r⟩:=S.look hm;cases r;obtain⟨fp,gp,e,h,nd,kk⟩:=S.rep;obtain⟨v1,e1,e2,j,c,g,rt,put,_⟩:=e.get hi;obtain⟨w,f2,at',a,_⟩:=rt.raw S.zh p f;replace a:=a.Iv;obtain⟨rfl,a⟩:=a;subst hd;exact cM QcT ⟨_,hv,k _ H Z Ql Ql S (a.fB S.zh λ_ _=>rfl)⟩
noncomputable def ab9(p:List DH)(h:QaL)(hi:δ1[i]? = some QaT)(c:T.L5 p t0=some (.pin y u)):cO X CL b e δ t (δ1.set i (some (T.Tt p u t0))):=λH Z σ ts vs Q S k=>h H Z σ ts vs Q S λv H1 Z1 a k1 d=>k v H1 Z1 a k1 (d.loose hi c)
def ap9(h:QaL)(q:δ1=δ2):cO X CL b e δ t δ2:=q▸h
end
instance ax8:DecidableEq D:=λa b=>Classical.propDecidable (a=b)
mutual
inductive NV(h:Heap):D->Value->Prop where
 | int (i:Int) (t:Tok):NV h Qaw (.int i t)
 | str (x:Str) (t:Tok):NV h Qa0 (.str x t)
 | tup {a:Addr} {o:Obj} {its:CI} {m:Nat} {ds:BA}:h.get? a=some o->o.cls=.type "tuple"->o.data=.seq its m->rl h ds its.toList->NV h (.tup ds) Qaq
inductive rl(h:Heap):BA->B0->Prop where
 | nil:rl h [] []
 | cons {d:D} {v:Value} {ds:BA} {vs:B0}:NV h d v->rl h ds vs->rl h (d::ds) QaN
end
theorem rl.snoc{h:Heap}{ds:BA}{vs:B0}{d:D}{v:Value}(q:rl h ds vs)(r:NV h d v):rl h (ds++[d]) (vs++[v]):=
 rl.rec (motive_1:=λ_ _ _=>True) (motive_2:=λds vs _=>rl h (ds++[d]) (vs++[v])) Qcg Qcg Qek (.cons r .nil) (λa _ _ b=>.cons a b) q
variable{ds:BA}{d:D}
theorem az.snoc{ds:BA}{d:D}(h:az K CL Z ds vs)(q:Qct):az K CL Z (ds++[d]) (vs++[v]):=
 az.ind (P:=λds vs=>az K CL Z (ds++[d]) (vs++[v])) (.cons q .nil) (λa _ i=>.cons a i) h
section
variable{d:D}
def aj{i:Int}:dM X CL b (.Constant Qaw j pos) δ (.int i) δ:=aE aZ
def cg:dM X CL b (.Constant Qa0 j pos) δ (.str x) δ:=aE eS
def aL(h:Nat.ble n 1000=true:=by rfl):n<=sizeLine:=Kc h
variable{l:Q3}{u0 u1 u2 v:α}
def yM:vf (v::l) 0=some v:=dQ rfl
def FL:vf (u0::v::l) 1=some v:=dQ rfl
def zv:vf (u0::u1::v::l) 2=some v:=dQ rfl
def OP:vf (u0::u1::u2::v::l) 3=some v:=dQ rfl
section
variable{C:Addr}{s:Qb}(i:Nat)
def BH(h1:Nc[i]? = some x:=by rfl)(h2:QdW:=by decide +kernel)(hd:AD x:=by decide)(kH:AE x:=by decide):Vn Qa8 i x:=aa9 h1 h2 hd kH
def IL(h1:Nc[i]? = some x:=by rfl)(h2:scope.names.lookup x=some .free:=by decide +kernel)(hd:AD x:=by decide)(kH:AE x:=by decide):Vn Qa8 i x:=akV h1 h2 hd kH
def kP(h:δ[i]? = some QbM:=by rfl)(n:Vn Qa8 i x:=by exact BH _):dM Qa8 CL b Qau δ d δ:=aE (v_ n h)
def gH(h:δ[i]? = some QbM:=by rfl)(n:Vn Qa8 i x:=by exact IL _):dM Qa8 CL b Qau δ d δ:=aE (v_ n h)
def sH(h2:QeB:=by decide +kernel):Gl Qa8 x:=afF h2
end
def auz{l:At}{od:Db}{its:CI}{sl:Ch}(h1:X.mg x=some Qaq)(h2:X.K.lookup a=some ⟨.type "tuple",od,.seq its n,sl⟩)(c:its.size<=sizeLine:=by exact Kc rfl)(b:Vals (l.map V.str) its.toList:=by repeat (first|exact .nil|refine .cons ⟨_,rfl⟩ ?_)):GT X x l:=apN h1 h2 c b
abbrev lV(X:Cx)(CL:BC)(b:Bx)(st:Stmt)(N:At)(arg:Qay)(Pre:Q4)(res:Qab):Prop:=∀ ⦃a:A⦄,Pre a->eW X CL b (d9 st) (entry N (arg a)) {nx:=λ_=>res a=.sh .non,rt:=λc _=>c=res a}
end
abbrev lJ(X:Cx)(s:Str):Prop:=X.mg s=none
abbrev Ad(X:Cx)(s:Str):Prop:=X.env.kindOf s=some .cell
def ace{p:Bool}(h:GS X CL b e δ p δ1):Kb X CL b (.BoolOp .And [e] pos) δ p δ1:=λH Z σ ts vs Q S k=>X5 (VN og) Qdl
def acf{q:Bool}(h:wZ X CL b e δ true δ1)(h2:Kb X CL b (.BoolOp .And (e2::es) pos) δ1 q δ2):Kb X CL b (.BoolOp .And (e::e2::es) pos) δ q δ2:=λH Z σ ts vs Q S k=>
 X5 (aaq og KU) (h H Z σ ts vs _ S λH1 Z1 c k1 f=>Pp (h2 H1 Z1 σ ts vs _ f λH2 Z2 a d=>k H2 Z2 QbP d))
def agl{i j:Int}(h1:lI X CL b e1 δ (.sh Qaw) δ1)(h2:Qbg):GS X CL b (.Compare e1 [.Gt] [e2] pos) δ (decide (j<i)) δ2:=λH Z σ ts vs Q S k=>
 Iz (tN SO dI dI (qW _)) (h1 H Z σ ts vs _ S λv1 H1 Z1 d g=>h2 H1 Z1 σ _ _ _ g λv2 H2 Z2 c s2 a e=>by
  have f:=a.view;rw[f.sc rfl,e.sc rfl];exact⟨i,j,rfl,rfl,_,rfl,k H2 Z2 (d.trans c) a.pop⟩)
structure Wq(n:Nat)(p:Prop):Prop where
 h:p
structure lK(K:Frag)(x:Str)(st:Stmt)(f:Addr)(fd:QaC):Prop extends ZZ K x x st f fd where
 m:InG K x f
structure RT(K:Frag)(C:Addr)(x qual:Str)(st:Stmt)(f:Addr)(fd:QaC):Prop extends ZZ K x qual st f fd where
 a:findIn K QaU x=some (some QR)
 i:isFn K QR=true
abbrev oT(X:Cx)(CL:BC)(b:Bx)(st:Stmt)(N:At)(arg:Qaf)(Pre:Q4)(res:Qab)(out:Qaf):Prop:=
 ∀a,Pre a->eW X CL b (d9 st) (S9 N (arg a)) {nx:=λδ=>res a=.sh .non/\Keeps δ (out a),rt:=λc δ=>c=res a/\Keeps δ (out a)}
section
variable{qual:Str}{st:Stmt}{f C:Addr}{oc kV doc pm gE ct:Value}{od an:Db}{Sg:Ch}
def fn1(m:nsIn K mainGlobals x=some (some QR))(l:K.lookup f=some ⟨oc,od,.func (fnOf x x (oO st) (d9 st) QaB .none kV doc pm an gE ct),Sg⟩)(c:codeIn K gE x=true)(k:keepIn K QR=true):lK K x st f (fnOf x x (oO st) (d9 st) QaB .none kV doc pm an gE ct):=⟨aaU l c k,m⟩
def fn2(a:findIn K QaU x=some (some QR))(i:isFn K QR=true)(l:K.lookup f=some ⟨oc,od,.func Qc7,Sg⟩)(c:codeIn K gE qual=true)(k:keepIn K QR=true):RT K C x qual st f Qc7:=⟨aaU l c k,a,i⟩
end
abbrev Wv(x qual:Str)(st:Stmt)(ps:At):Prop:=∀(kV doc pm:Value) (an:Db) (gE ct:Value),LI ps.length λus=>bindArgs (W.fnOf x qual (oO st) (d9 st) QaB Value.none kV doc pm an gE ct) {pos:=us}=pure (ps.zip us)
def aqb(P:Qax)(w:World)(mg:Bi)(base:Heap){K:Frag}{h:Heap}(CL:BC)(l:K.In h)(G:h.Ns mainGlobals mg){x:Str}{st:Stmt}{f:Addr}{fd:QaC}{N ps:At}(k:Nat){A:Type}(arg:Qay)(Pre:Q4)(res:Qab)(F:lK K x st f fd)(S:QbO)
  (j:∀{gE:Value} {i:Qat} {outer:Da} {s:Qb} {H:Hp} {E:XK} {b:Bx} {a:A},eO k (i.deeper (envOfC x QaB s.heap.objs.size f gE))->bD (se lO P w K mg base N x QaB f gE i outer s H E).La->Pre a →
   eW (se lO P w K mg base N x QaB f gE i outer s H E).La CL b (d9 st) (entry N (arg a)) {nx:=λ_=>res a=.sh .non,rt:=λt _=>t=res a})
  (q:Wv x x st ps:=by(repeat intro _);rfl) :
  ∃f fd g,fz P w K mg base lO (k+1) f fd g QdU/\mg x=some QR/\keepIn K QR=true/\Binds K fd g []:=⟨f,fd,ps,Eb F.1 S λ_ _ _ _ _ _ _ _ r p=>j r ⟨⟨S.nd,rfl,.never⟩,r.units⟩ p,ma l G F.m,F.kp,F.binds λa b c d e f=>lU (q a b c d e f)⟩
def aqc(P:Qax)(w:World)(mg:Bi)(base:Heap){K:Frag}{h:Heap}(CL:BC)(n:K.In h)(G:h.Ns mainGlobals mg){x:Str}{st:Stmt}{f:Addr}{fd:QaC}{N ps:At}(k:Nat){A:Type}(arg:Qaf)(Pre:Q4)(res:Qab)(out:Qaf)(F:lK K x st f fd)(S:QbO)
  (l:∀{gE:Value} {i:Qat} {outer:Da} {s:Qb} {H:Hp} {E:XK} {b:Bx},eO k (i.deeper (envOfC x QaB s.heap.objs.size f gE))->bD (se lO P w K mg base N x QaB f gE i outer s H E).La →
   oT (se lO P w K mg base N x QaB f gE i outer s H E).La CL b st N arg Pre res out)
  (j:∀a,Yy (arg a) (out a):=by intro a;repeat (first|exact trivial|refine⟨rfl,?_⟩)) (q:Wv x x st ps:=by(repeat intro _);rfl) :
  ∃f fd g,fz P w K mg base lO (k+1) f fd g (oe K CL ps.length arg Pre res out)/\mg x=some QR/\keepIn K QR=true/\Binds K fd g []:=⟨f,fd,ps,Tc F.1 S (λa _=>j a) λ_ _ _ _ _ _ _ a r p=>l r ⟨⟨S.nd,rfl,.never⟩,r.units⟩ a p,ma n G F.m,F.kp,F.binds λa b c d e f=>lU (q a b c d e f)⟩
variable{c:Str}{f:Addr}{fd:QaC}{ps:At}
def Kq(P:Qax)(w:World)(mg:Bi)(base:Heap)(CL:BC){qual:Str}{st:Stmt}(k:Nat)(arg:Qay)(Pre:Q4)(res:Qab)(F:RT K (CL c) x qual st f fd)(S:QbO)
  (j:∀{gE:Value} {h:Qat} {outer:Da} {s:Qb} {H:Hp} {E:XK} {b:Bx} {a:A},eO k (h.deeper Qb5)->bD (se lO P w K mg base N qual QaB f gE h outer s H E).La->Pre a →
   eW (se lO P w K mg base N qual QaB f gE h outer s H E).La CL b (d9 st) (entry N (arg a)) {nx:=λ_=>res a=.sh .non,rt:=λt _=>t=res a})
  (q:Wv x qual st ps:=by(repeat intro _);rfl) :
  ∃f fd g,Meth K (CL c) x f/\fz P w K mg base lO (k+1) f fd g QdU/\Binds K fd g []:=⟨f,fd,ps,⟨F.a,F.i,F.kp⟩,Eb F.1 S λ_ _ _ _ _ _ _ _ r p=>j r ⟨⟨S.nd,rfl,.never⟩,r.units⟩ p,F.binds λa b c d e f=>lU (q a b c d e f)⟩
def Tw(P:Qax)(w:World)(mg:Bi)(base:Heap)(CL:BC){qual:Str}{st:Stmt}(k:Nat)(arg:Qaf)(Pre:Q4)(res:Qab)(out:Qaf)(F:RT K (CL c) x qual st f fd)(S:QbO)
  (l:∀{gE:Value} {h:Qat} {outer:Da} {s:Qb} {H:Hp} {E:XK} {b:Bx},eO k (h.deeper Qb5)->bD (se lO P w K mg base N qual QaB f gE h outer s H E).La →
   oT (se lO P w K mg base N qual QaB f gE h outer s H E).La CL b st N arg Pre res out)
  (j:∀a,Yy (arg a) (out a):=by intro a;repeat (first|exact trivial|refine⟨rfl,?_⟩)) (q:Wv x qual st ps:=by(repeat intro _);rfl) :
  ∃f fd g,Meth K (CL c) x f/\fz P w K mg base lO (k+1) f fd g (oe K CL ps.length arg Pre res out)/\Binds K fd g []:=⟨f,fd,ps,⟨F.a,F.i,F.kp⟩,Tc F.1 S (λa _=>j a) λ_ _ _ _ _ _ _ a r p=>l r ⟨⟨S.nd,rfl,.never⟩,r.units⟩ a p,F.binds λa b c d e f=>lU (q a b c d e f)⟩
section
variable{y:Str}{pos':Pos}{D:gF}
theorem FN(F:α->L3.D)(f:Nat->α)(g:Gx X)(l:Ln X i x)(sc:QcD)(hm:Qcl)(q:Gl X "range")(h:dM X CL b e δ (.int n) δ1)(s:n<=1000)
  (inner:∀C s0 j f0 a (k:Nat),k<n->cO (cR X scope Nc C s0 j f0) CL a elt (some (.sh (.int k))::Bu δ1 ix) (.sh (F (f k))) (some (.sh (.int k))::Bu δ1 ix))
  (k:eW X CL b gO (δ1.set i (some (.lst ((((List.range n).map f).map F).map T.sh)))) D) (o:Qbu:=by exact jj rfl)
  (r:∃c,swapsWith (.ListComp elt [⟨.Name y px,.Call Qc9 [e] [] pc,[],0⟩] scope pp) (some QbA) pos.line X.env=pure c:=by exact⟨_,rfl⟩) (hs:∀x,foldedSetIterable Qdj X.env x=pure x:=by intro _;rfl)
  (h1:AD y:=by decide) (h2:AE y:=by decide) (s1:QdM:=by rfl) (s2:Qah:=by exact aW rfl) :
  eW X CL b (.Assign [.Name x pos'] (.ListComp elt [⟨.Name y px,.Call Qc9 [e] [] pc,[],0⟩] scope pp) pos::gO) δ D:=by
 have e1:∀k:Nat,L3.D.int (0+(k:Int))=.int k:=λk=>by rw[vw]
 refine LN (p:=λ_=>true) (gg:=λd=>T.sh (F (f d.yc.toNat))) g l sc (sA hm h Wc q s1 s2) QaG (λC s0 j f0 a d hd=>?_) (l0 (cL (by simp[fD];lia))) ?_ o (sC r) hs h1 h2
 .obtain⟨k,m,rfl⟩:=j0.1 hd;have m:=mD.1 m;rw[e1];exact⟨rfl,λ_=>inner C s0 j f0 a k Wc⟩
 .have e2:((fD 0 (n:Int).toNat).filter λ_=>true).map (λd=>T.sh (F (f d.yc.toNat)))=(((List.range n).map f).map F).map T.sh:=by
   rw[List.filter_eq_self.2 λ_ _=>rfl];unfold fD;rw[kq,kq,kq,ky];exact oC λk _=>by show T.sh (F (f (L3.D.int (0+(k:Int))).yc.toNat))=_;rw[e1];rfl
  rw[e2];exact k
end
def agm:yB X "list.extend" (λx vs H Q=>RI X.K x vs H Q\/RS X.K x vs H Q):=by
 intro pins s σ H x vs v us Q I a b h;obtain h|h:=h
 .exact agd _ _ _ _ _ _ _ _ _ I a b h
 .exact af4 _ _ _ _ _ _ _ _ _ I a b h
section
variable{tl0:B1}{sq:BA->L3.D}{ds:BA}{D:gF}{pa pb:Pos}{f:Str}{gs:BN}
def nV(n:Vn X i x)(h0:δ[i]? = some (some (.lst tl0)))(h:dM X CL b e δ (sq ds) δ1)(u:L3.D.bP ds=true)(h1:δ1[i]? = some (some Qbi))(q:tl.length+ds.length<=1000000)(k:eW X CL b gO (δ1.set i (some (.lst (tl++ds.map T.sh)))) D)
  (hd:sq=.lst\/sq=.tup:=by first|exact .inl rfl|exact .inr rfl) (t:attributeBase QaH "extend" X.env (eval QaH X.env)=eval QaH X.env:=by rfl)
  (w:AB X pb e:=by rfl)
  (d:Qel:=by rfl) (hs:Qah:=by exact aW rfl) (v:swapsWith (.Call (.Attribute QaH "extend" pa) [e] [] pb) none pos.line X.env=pure false:=by rfl) :
  eW X CL b (.Expr (.Call (.Attribute QaH "extend" pa) [e] [] pb) pos::gO) δ D:=cZ λH Z σ ts vs E S M=>
 tO (D6 (Pj FA PySem.F.slot_list_extend PySem.F.type_list_extend agm QcT QaE t w d hs rfl) v) (by
  obtain⟨v0,e0,s⟩:=S.look h0;refine⟨v0,e0,?_,h H Z σ ts vs _ S λv2 H1 Z1 o k1 r c=>?_⟩
  .obtain⟨_,_,rfl,f,_⟩:=s.gR;exact .inl ⟨rfl,_,f⟩
  .have go:∀{us},az X.K CL H1 ds us->_:=λ{us} c=>r.abV (p:=[]) (az.tQ r.tp u c) e0 h1 rfl rfl;obtain rfl|rfl:=hd
   .replace c:=c.gR;obtain⟨_,_,rfl,f,c⟩:=c;obtain⟨a,ws,l,j,g,m⟩:=go c;exact .inl ⟨a,_,ws,_,l,rfl,j,f,by rw[g,← c.length];exact l0 (q7 q Wl),M.nx _ σ _ Z1 o m k⟩
   .replace c:=c.Sl;obtain⟨_,_,rfl,f,c⟩:=c;obtain⟨a,ws,l,j,g,m⟩:=go c;exact .inr ⟨a,_,ws,_,l,rfl,j,f,by rw[g,← c.length];exact l0 (q7 q Wl),M.nx _ σ _ Z1 o m k⟩)
def ja(l:jh X.K (CL c))(n:aC X.K (CL c) f)(nm:Vn X i x)(h:QbJ)(h1:δ1[i]? = some (some (.pin a (.ins c gs))))(j:gs.length<1000)(k:eW X CL b gO (δ1.set i (some (.pin a (.ins c (yF f t gs))))) D)
  (hs:swapsWith e (some (.Attribute (.Name x pa) f pb)) pc.line X.env=pure false:=by rfl):eW X CL b (.Assign [.Attribute (.Name x pa) f pb] e pc::gO) δ D:=cZ λH Z σ ts vs E S M=>
 tO (akr (nS nm.hi nm.hv nm.hd nm.kH) dI hs) (h H Z σ ts vs _ S λv H' Z' z d=>by
  obtain⟨v0,e0,_⟩:=d.look h1;obtain⟨o,dx,ws,m,g,hlen,q⟩:=d.YN (p:=[]) (f:=f) e0 h1 rfl rfl;exact⟨_,e0,o,CL c,dx,ws,m,g,l,n,hlen▸j,M.nx _ σ _ Z' z q k⟩)
end
variable{v0 u:V}{t1 nt:T}
theorem bB.aqd(S:bB K CL b H Z δ σ (.pin y nt::ts) (u::vs))(ev:σ[i]? = some Qbx)(hi:δ[i]? = some (some t1))(m:T.jf p t1=some Qbv)(SR:Bo H v0 p (.ref y)):bB K CL b H Z (δ.set i (some (T.kG p nt t1))) σ ts vs:=by
 obtain⟨fp,gp,e,r,nd,k⟩:=S.rep;cases r with
 | @cons _ _ _ _ f d r rs=>
  replace r:=r.Iv.2;obtain⟨v1,e1,e2,h,hv,j,rt,put,_⟩:=e.get hi;rw[ev]at hv;cases hv;obtain⟨o,f1,f2,g,at',hf,l,put2⟩:=rt.focus S.zh p m;have hw:=at'.inj SR;subst hw;obtain⟨rfl,_⟩:=l.Iu;subst hf;subst j;have a:=put Ql QbK (put2 QbK r);rw[f9 ev]at a;have pm:((e1++((f1++(f++g))++h))++d).Perm ((e1++((f1++([]++g))++h))++(f++d)):=q9.2 λc=>by simp[xw,List.count_nil];lia
  exact⟨⟨_,_,a,rs,pm.nodup_iff.2 nd,λc n=>k c (pm.mem_iff.1 n)⟩,S.bh,S.zz,S.zh,S.new,S.tp,S.tab⟩
variable{o:Expr}{apos:Pos}{m:Str}{fs:BN}{dl:BA}{k:Nat}{arg:Qaf}{Pre:Q4}{res:Qab}{out:Qaf}
def LH:B1->Addr->T->Prop
 | .pin z u::l,y,nt=>z=y/\u=nt/\∃ds:BA,l=ds.map T.sh
 | _,_,_=>False
theorem Ww{K:Frag}{H Z:Hp}{σ:L2.St}:∀{ds:BA} {us:BY} {ts:B1} {vs:BY} {tt:T} {w:V},us.length=ds.length->bB K CL b H Z δ σ (tt::(ds.map T.sh++ts)) (w::(us++vs))->bB K CL b H Z δ σ (tt::ts) (w::vs)
 | [],us,ts,vs,tt,w,h,S=>by
  cases ND.1 h;exact S
 | d::ds,[],_,_,_,_,h,_=>by cases h
 | d::ds,u::us,ts,vs,tt,w,h,S=>by
  obtain⟨fp,gp,e,r,nd,kk⟩:=S.rep;cases r with
  | @cons _ _ _ _ g f r rs=>
   cases rs with
   | @cons _ _ _ _ c fd a rs=>
    obtain⟨rfl,_⟩:=a.Iu;exact Ww (Nat.succ.inj h) ⟨⟨fp,_,e,.cons r rs,nd,kk⟩,S.bh,S.zz,S.zh,S.new,S.tp,S.tab⟩
theorem Kr{H1 Z1:Hp}{us:BY}{al:B1}{Q:VK}{E:XK}(a:A)(m:arg a=al)(l:Qbq)(L:Pre a)(k:res a=t)(e:LH (out a) y nt)(M:us.length=al.length)
  (s:bB X.K CL b H1 Z1 δ1 σ (al.reverse++ts) Qb1) (ev:σ[i]? = some Qbx) (hi:δ1[i]? = some (some t1)) (D:T.jf p t1=some Qbv) (SR:Bo H1 v0 p (.ref y))
  (kk:∀v H' Z',aD Z1 Z'->bB X.K CL b H' Z' (δ1.set i (some (T.kG p nt t1))) σ (t::ts) QaN->Q v H'):oe X.K CL n arg Pre res out us H1 Q E:=by
 obtain⟨g,r,nd,h⟩:=s.cut WA;obtain⟨g',x,pm⟩:=r.rev;have N:sF H1 g=sF H1 g':=funext λc=>by
  by_cases d:c∈g
  .rw[kN d,kN (pm.mem_iff.2 d)]
  .rw[gZ d,gZ QdY]
 rw[N]at h;rw[← m]at x;have at2:Bo (sF H1 g') v0 p (.ref y):=by
  obtain⟨w,_,at',_⟩:=h.Tr ev hi D;have:=(at'.mono λc o q=>(lS q).2).inj SR;exact this▸at'
 refine⟨Z1,a,g',h.zh,s.tp,x,pm.nodup_iff.2 nd,l,L,s.Lh,λv H' W' fp C ww G nw tp rt P own=>?_⟩;cases rt with
 | @cons _ _ _ _ f1 f2 I j=>
  have F:(f2++(f1++[])).Perm (f1++f2):=by rw[km];exact mN
  have f:=h.P7 C ww G nw tp (aS.app j (.cons I .nil)) (F.nodup_iff.2 P) λc d=>own c (F.mem_iff.1 d);rw[k]at f;cases eo:out a with
  | nil=>rw[eo]at e;cases e
  | cons J ol=>
   rw[eo]at e j f;cases j with
   | @cons _ u1 _ H _ _ p1 p2=>
    cases J with
    | pin z u=>
     obtain⟨rfl,rfl,ds,rfl⟩:=e;have B:=p2.length;rw[e7]at B;simp only[n4,jw,pX]at f;have O:=Ww B.symm f;exact kk v H' W' ww (O.aqd ev hi D (at2.mono C))
    | _=>cases e
theorem qMQ{pl:Sem Bool}(a:Addr->A)(nt:T)(F:wx X CL c m k n arg Pre res out)(L:RQ X CL b o δ i p)(hi:δ[i]? = some QaT)(J:T.jf p t0=some QaF)(h:IB X CL b Qaa (δ.set i (some (T.kG p Qbv t0))) (dl.map T.sh) δ1)(C:∀y,Pre (a y))(V:∀y,res (a y)=t)(D:∀y,LH (out (a y)) y nt)
  (h1:δ1[i]? = some (some t1)) (g:T.jf p t1=some Qbv) (hf:Qcn) (q:∀y,arg (a y)=.pin y QaF::dl.map T.sh:=by intros;rfl) (hlen:∀y,(arg (a y)).length=n:=by intros;rfl)
  (he:Qad:=by exact aW rfl) (hpl:Qap:=by rfl)
  (B:eval Qca X.env=(do
   let I ← eval o X.env
   standAt apos.atName
   let (f,first) ← holding [I] QbY
   callWith pos f first (backTo pos QbX) Qa6):=by rfl) :
  lI X CL b Qca δ t (δ1.set i (some (T.kG p nt t1))):=λH Z σ ts vs Q S kk=>by
 obtain⟨⟨f,fd,ps,M,G,bd⟩,r,N⟩:=F;refine cM (Lc dI N M G r bd .nil qF Fb he hpl B) (L H Z σ ts vs _ S λv0 w U O u s0 P ev j=>?_);obtain⟨y,rfl,l⟩:=(P.M1 ev hi J j).Td rfl;obtain⟨fp,gp,_,d,_,_⟩:=l.rep;cases d with
 | cons d _=>
  obtain⟨_,dx,gs,_,x,_,K,rs⟩:=d.Iv.2.DB;cases x;refine⟨y,dx,gs,rfl,K,rs.none hf,h U O σ _ _ _ l λus H1 Z1 E s k1 W=>?_⟩;refine Kr (a y) (q y) (hlen y) (C y) (V y) (D y) (by simp[E]) ?_ ev h1 g (j.mono k1) λv H' Z' z R=>kk v H' Z' (u.trans (s.trans z)) R;simp_all
def auA{pl:Sem Bool}(a:Addr->A)(nt:T)(F:wx X CL c m k n arg Pre res out)(J:RQ X CL b o δ i p)(hi:δ[i]? = some QaT)(C:T.jf p t0=some QaF)(x:∀y,Pre (a y))(P:∀y,res (a y)=t)(B:∀y,LH (out (a y)) y nt)
  (e:T.jf p (T.kG p Qbv t0)=some Qbv) (N:T.kG p nt (T.kG p Qbv t0)=T.kG p nt t0) (hf:Qcn) (l:∀y,arg (a y)=[.pin y QaF]:=by intros;rfl) (hlen:∀y,(arg (a y)).length=n:=by intros;rfl)
  (O:i<δ.length:=by exact jj rfl)
  (u:eval Qcb X.env=(do
   let I ← eval o X.env
   standAt apos.atName
   let (f,first) ← holding [I] QbY
   callWith pos f first (backTo pos Qc1) Qa6):=by rfl) :
  lI X CL b Qcb δ t (δ.set i (some (T.kG p nt t0))):=λH Z σ ts vs Q S kk=>by
 obtain⟨⟨f,fd,ps,M,G,bd⟩,r,K⟩:=F;refine cM (O8 dI K M G r bd .nil qF u) (J H Z σ ts vs _ S λv0 w U R q s0 L ev g=>?_);obtain⟨y,rfl,h⟩:=(L.M1 ev hi C g).Td rfl;obtain⟨fp,gp,_,d,_,_⟩:=h.rep;cases d with
 | cons d _=>
  obtain⟨_,dx,gs,_,s,_,D,rs⟩:=d.Iv.2.DB;cases s;refine⟨y,dx,gs,rfl,D,rs.none hf,?_⟩;refine Kr (E:=XK0) (us:=[.ref y]) (a y) (l y) (hlen y) (x y) (P y) (B y) rfl h ev (pE O) e g λv H' Z' z j=>kk v H' Z' (q.trans z) ?_;rw[N,x4]at j;exact j
end L3
namespace Law
open PySem L2 L3
noncomputable def top(i:Nat):Stmt:=PySem.Challenge.pw_moodtree_k48_two_runs_apart.main.body.getD i (.Pass ⟨0,0,0,0⟩)
noncomputable def Ej:Nat->AT->Int->AT
 | 0,_,_=>[]
 | n+1,es,k=>if k=-1 then [] else k::Ej n es (es.getD k.toNat 0)
def bL(es:AT)(m:Int):AT:=Ej (es.length+1) es (es.getD m.toNat 0)
def fj(es:AT):Prop:=∀k:Nat,k<es.length->-1<=es.getD k 0/\es.getD k 0<k
variable{es:AT}{k:Int}
theorem fj.at(h:fj es)(h0:0<=k)(h1:k<es.length):-1<=es.getD k.toNat 0/\es.getD k.toNat 0<k:=by
 have:=h k.toNat Wc;lia
noncomputable def dY(ks:At)(es ss:AT):D:=.ins "Tree" [("kinds",.lst (ks.map .str)),("elders",.lst QbV),("starts",.lst (ss.map .int))]
variable{ks:At}{ss:AT}
def jn:List.lookup ("kinds":Str) [(("kinds":Str),D.lst (ks.map .str)),("elders",.lst QbV),("starts",.lst (ss.map .int))]=some (.lst (ks.map .str)):=Ly
def kC:List.lookup ("elders":Str) [(("kinds":Str),D.lst (ks.map .str)),("elders",.lst QbV),("starts",.lst (ss.map .int))]=some (.lst QbV):=rfl
def C9:List.lookup ("starts":Str) [(("kinds":Str),D.lst (ks.map .str)),("elders",.lst QbV),("starts",.lst (ss.map .int))]=some (.lst (ss.map .int)):=rfl
def cz(ds:BA):T.fB (.lst QaP)=.lst ds:=by rw[T.fB,kJ]
def aM(l:AT):(T.lst ((l.map D.int).map T.sh)).clean=true:=w9▸qJ _
theorem Tz(l:At):(T.lst ((l.map D.str).map T.sh)).clean=true:=by
 induction l with
 | nil=>rfl
 | cons x l a=>exact a
noncomputable def Ae(ks:At)(es ss:AT):BN:=[("kinds",.lst ((ks.map .str).map T.sh)),("elders",.lst ((es.map .int).map T.sh)),("starts",.lst ((ss.map .int).map T.sh))]
def YV(ks:At)(es ss:AT):T.fB (.ins "Tree" (Ae ks es ss))=dY ks es ss:=by
 unfold Ae;rw[T.fB,T.vd,T.vd,T.vd,cz,cz,cz];rfl
def Dc(ks:At)(es ss:AT):T.fV (Ae ks es ss)=true:=by
 unfold Ae;rw[T.fV,T.fV,T.fV,Tz,aM,aM];rfl
theorem L7{es:AT}(h:fj es):∀(n:Nat) {k x:Int},-1<=k->k<es.length->x∈Ej n es k->0<=x/\x<=k
 | 0,k,x,_,_,a=>by cases a
 | n+1,k,x,h0,h1,a=>by
  rw[Ej]at a;split at a
  .cases a
  .have b:=h.at Wc h1;obtain rfl|a:=fO.1 a
   .lia
   .have:=L7 h n Wc Wc a;lia
theorem FP{es:AT}(h:fj es):∀(a b:Nat) {k:Int},-1<=k->k<es.length->k<a->k<b->Ej a es k=Ej b es k
 | 0,0,_,_,_,_,_=>rfl
 | 0,b+1,k,h0,_,e,_=>by
  rw[Ej,Ej,dX Wc]
 | a+1,0,k,h0,_,_,d=>by
  rw[Ej,Ej,dX Wc]
 | a+1,b+1,k,h0,h1,e,d=>by
  rw[Ej,Ej];split
  .rfl
  .have c:=h.at Wc h1;rw[FP h a b c.1 Wc Wc Wc]
variable{m:Int}
theorem gi(h:fj es)(h0:0<=m)(h1:m<es.length):bL es m=if es.getD m.toNat 0=-1 then [] else es.getD m.toNat 0::bL es (es.getD m.toNat 0):=by
 have hm:=h.at h0 h1;unfold bL;rw[Ej];split
 .rfl
 .rename_i b;have a:=h.at (k:=es.getD m.toNat 0) Wc Wc;rw[FP h es.length (es.length+1) a.1 Wc Wc Wc]
variable{x:Int}
theorem bF(h:fj es)(h0:0<=m)(h1:m<es.length)(a:x∈bL es m):0<=x/\x<m/\x<es.length:=by
 have hm:=h.at h0 h1;have:=L7 h _ hm.1 Wc a;lia
theorem sI{es:AT}(h:fj es):∀(n:Nat) {m x:Int},0<=m->m<es.length->m<n->x∈bL es m->∃pre,bL es m=pre++x::bL es x/\∀y∈pre,y∈bL es m/\x∈bL es y
 | 0,m,x,h0,_,d,_=>by lia
 | n+1,m,x,h0,h1,d,a=>by
  have hm:=h.at h0 h1;have e:=gi h h0 h1;generalize f:es.getD m.toNat 0=k at hm e;by_cases c:k=-1
  .rw[e,dX c]at a;cases a
  .rw[dP c]at e;rw[e]at a;obtain rfl|a:=fO.1 a
   .exact⟨[],by rw[e];rfl,λy b=>by cases b⟩
   .obtain⟨pre,p1,p2⟩:=sI h n (m:=k) Wc Wc Wc a;refine⟨k::pre,by rw[e,p1];rfl,λy b=>?_⟩;obtain rfl|b:=fO.1 b
    .exact⟨by rw[e];exact fX,a⟩
    .exact⟨by rw[e];exact i8 _ (p2 y b).1,(p2 y b).2⟩
variable{y:Int}
theorem lW(h:fj es)(h0:0<=m)(h1:m<es.length)(b:x∈bL es m)(a:y∈bL es x):y∈bL es m:=by
 obtain⟨pre,p1,_⟩:=sI h (m.toNat+1) h0 h1 Wc b;exact p1▸js _ (i8 _ a)
theorem tZ(h:fj es)(h0:0<=m)(h1:m<es.length)(b:x∈bL es m)(a:y∈bL es m):x=y\/x∈bL es y\/y∈bL es x:=by
 obtain⟨pre,p1,p2⟩:=sI h (m.toNat+1) h0 h1 Wc b;rw[p1]at a;obtain a|a:=i3.1 a
 .exact .inr (.inl (p2 y a).2)
 .obtain e|a:=fO.1 a
  .exact .inl e.symm
  .exact .inr (.inr a)
theorem yN{es:AT}(h:fj es):∀(n:Nat) {m:Int},0<=m->m<es.length->m<n->(bL es m).Pairwise (λa b=>b<a)
 | 0,m,h0,_,d=>by lia
 | n+1,m,h0,h1,d=>by
  have hm:=h.at h0 h1;rw[gi h h0 h1];split
  .exact .nil
  .have hs:=yN h n (m:=es.getD m.toNat 0) Wc Wc Wc;refine l7.2 ⟨λx c=>?_,hs⟩;have:=bF h Wc Wc c;lia
def Ks(h:fj es)(h0:0<=m)(h1:m<es.length)(a:es.getD m.toNat 0 ≠ -1):es.getD m.toNat 0∈bL es m:=by
 rw[gi h h0 h1,dP a];exact fX
def nh(es:AT):Prop:=fj es/\∀k:Nat,k+1<es.length->es.getD (k+1) 0=k\/es.getD (k+1) 0∈bL es k
theorem nh.down(h:nh es){k:Nat}(c:k+1<es.length)(a:x∈bL es ((k+1:Nat):Int)):x=k\/x∈bL es k:=by
 have e:=gi h.1 (m:=((k+1:Nat))) Wc Wc;rw[ky]at e;have b:=h.2 k c;rw[e]at a;split at a
 .cases a
 .obtain a|a:=fO.1 a
  .obtain b|b:=b
   .exact .inl (a.trans b)
   .exact a ▸ .inr b
  .obtain b|b:=b
   .rw[b]at a;exact .inr a
   .exact .inr (lW h.1 Wc Wc b a)
def cS(es:AT)(u m:Int):AT:=(m::(bL es m).takeWhile Qb7).reverse
def Af(es:AT):Int->AT->Int->Prop
 | a,[],m=>a=m
 | a,x::l,m=>(0<=x/\x<es.length/\es.getD x.toNat 0=a)/\Af es x l m
theorem Af.snoc{es:AT}{m:Int}(h0:0<=m)(h1:m<es.length):∀{l:AT} {a:Int},Af es a l (es.getD m.toNat 0)->Af es a (l++[m]) m
 | [],a,h=>⟨⟨h0,h1,Eq.symm h⟩,rfl⟩
 | x::l,a,h=>⟨h.1,Af.snoc h0 h1 h.2⟩
variable{u:Int}
theorem DI(h:fj es)(h0:0<=m)(h1:m<es.length)(c:u∈bL es m)(b:x∈(bL es m).takeWhile Qb7):u∈bL es x:=by
 obtain⟨pre,p1,p2⟩:=sI h (m.toNat+1) h0 h1 Wc c;rw[p1]at b;have ne:∀y∈pre,decide (y≠u)=true:=λy a=>by
  have:=bF h (m:=y) (by have:=bF h h0 h1 (p2 y a).1;lia) (by have:=bF h h0 h1 (p2 y a).1;lia) (p2 y a).2;simp;lia
 have:(pre++u::bL es u).takeWhile Qb7=pre:=by
  rw[NA ne,List.takeWhile_cons,dP Wm,km]
 rw[this]at b;exact(p2 x b).2
def L8(bY:CA)(es:AT)(a b:Int):Int:=((bL es a).find? (λx=>bY x&&decide (x∈bL es b))).getD (-1)
theorem FQ{α:Type}{p:α->Bool}:∀{l:Q3} {x:α},l.find? p=some x->∃pre a,l=pre++x::a/\p x=true/\∀y∈pre,p y=false
 | [],_,h=>by cases h
 | y::l,x,h=>by
  rw[sr]at h;cases e:p y with
  | true=>
   rw[e]at h;cases h;exact⟨[],l,rfl,e,Wm ⟩
  | false=>
   rw[e]at h;obtain⟨pre,a,h1,h2,b⟩:=FQ h;refine⟨y::pre,a,Wp,h2,λz hz=>?_⟩;obtain rfl|hz:=fO.1 hz
   .exact e
   simp_all
def Wx(bY:CA)(es:AT)(a b t:Int):Prop:=
 (t=-1/\∀x∈bL es a,x∈bL es b->bY x=false)\/(t∈bL es a/\t∈bL es b/\bY t=true/\∀x∈bL es a,x∈bL es b->bY x=true->x=t\/x∈bL es t)
variable{bY:CA}
theorem agn(h:fj es){a b:Int}(h0:0<=a)(h1:a<es.length):Wx bY es a b (L8 bY es a b):=by
 unfold L8;cases e:(bL es a).find? _ with
 | none=>
  refine .inl ⟨rfl,λx d k=>?_⟩;have:=List.find?_eq_none.1 e x d;simp_all
 | some t=>
  obtain⟨pre,i,p1,p2,j⟩:=FQ e;have g:t∈bL es a:=by simp_all
  simp at p2;refine .inr ⟨g,p2.2,p2.1,λx d k n=>?_⟩;obtain c|c|c:=tZ h h0 h1 d g
  .exact .inl c
  .exact .inr c
  .exfalso;have hs:=yN h (a.toNat+1) h0 h1 Wc;rw[p1]at d hs;have m:=by
    have f:x∈bL es a:=p1▸d;have l:=bF h h0 h1 f;exact(bF h Wc Wc c).2.1
   obtain d|d:=i3.1 d
   .have:=j x d;lia
   .obtain e2|d:=fO.1 d
    .lia
    .have:=(l7.1 (xy.1 hs).2.1).1 x d;lia
variable{t:Int}
theorem Wx.symm{a b:Int}(h:Wx bY es a b t):Wx bY es b a t:=by
 obtain⟨e,h⟩|⟨h1,h2,g,f⟩:=h
 .exact .inl ⟨e,λx d c=>h x c d⟩
 .exact .inr ⟨h2,h1,g,λx d c=>f x c d⟩
theorem Wy{es:AT}{x:Int}(h:fj es):∀(n:Nat) {k:Int},-1<=k->k<es.length->Ej n (es++[x]) k=Ej n es k
 | 0,_,_,_=>rfl
 | n+1,k,h0,h1=>by
  rw[Ej,Ej];split
  .rfl
  .have a:=h.at Wc h1;have e:(es++[x]).getD k.toNat 0=es.getD k.toNat 0:=by
    rw[lj,Nw Wc,← lj]
   rw[e,Wy h n a.1 Wc]
def FT{k:Nat}(h:k<es.length):(es++[x]).getD k 0=es.getD k 0:=by
 rw[lj,Nw h,← lj]
theorem ago(h:fj es)(h0:0<=m)(h1:m<es.length):bL (es++[x]) m=bL es m:=by
 have hm:=h.at h0 h1;unfold bL;rw[FT Wc,Wy h _ hm.1 Wc,FP h _ (es.length+1) hm.1 Wc WA Wc]
theorem fj.snoc(h:fj es)(h0:-1<=x)(h1:x<es.length):fj (es++[x]):=λk a=>by
 simp at a;by_cases e:k<es.length
 .exact FT e▸h k e
 .have:k=es.length:=by lia
  simp_all
theorem nh.snoc(h:nh es){k:Nat}(d:k+1=es.length)(b:x=k\/x∈bL es k):nh (es++[x]):=by
 have a:-1<=x/\x<es.length:=by
  obtain e|e:=b
  .lia
  .have:=bF h.1 Wc Wc e;lia
 refine⟨h.1.snoc a.1 a.2,λj c=>?_⟩;simp at c;rw[ago h.1 Wc Wc];by_cases e:j+1<es.length
 .exact FT e▸h.2 j e
 .have:j=k:=by lia
  simp_all
structure agp(es:AT)(m:Int)(L:Nat):Prop where
 le:m+1+L<=es.length
 iff:∀i:Nat,i<es.length->((m=-1\/m∈bL es i)↔m<i/\(i:Int)<m+1+L)
 eld:∀i:Nat,m<i->(i:Int)<m+1+L->m<=es.getD i 0
 beh:m+1+L=es.length\/es.getD (m+1+L).toNat 0<m
theorem TF(h:nh es)(h0:-1<=m)(h1:m<es.length):∃L,agp es m L:=by
 by_cases hm:m=-1
 .subst hm;refine⟨es.length,Wc,λi hi=>⟨λ_=>by lia,λ_=>.inl rfl⟩,λi hi d=>(h.1 i Wc).1,.inl Wc⟩
 .have h0:0<=m:=by lia
  have o:∀i:Nat,i<es.length->m∈bL es i->m<i:=λi hi b=>(bF h.1 Wc Wc b).2.1;have go:∀(r L:Nat),m+1+L+r=es.length->(∀i:Nat,m<i->(i:Int)<m+1+L->m∈bL es i)->∃n:Nat,m+1+n<=es.length/\(∀i:Nat,m<i->(i:Int)<m+1+n->m∈bL es i)/\(m+1+n=es.length\/m∉bL es (m+1+n)):=by
   intro r
   induction r with
   | zero=>intro L e l;exact⟨L,Wc,l,.inl Wc⟩
   | succ r q=>
    intro L e l;by_cases hw:m∈bL es (m+1+L)
    .refine q (L+1) Wc λi f d=>?_;by_cases hi:(i:Int)<m+1+L
     .exact l i f hi
     .have:(i:Int)=m+1+L:=by lia
      rw[this];exact hw
    .exact⟨L,Wc,l,.inr hw⟩
  obtain⟨L,t,k,qr⟩:=go (es.length-(m.toNat+1)) 0 Wc (λi f d=>by lia);have out:∀(r i:Nat),(i:Int)=m+1+L+r->i<es.length->m∉bL es i:=by
   intro r
   induction r with
   | zero=>
    intro i hi x b;obtain e|e:=qr
    .lia
    .rw[show(i:Int)=m+1+L by lia]at b;exact e b
   | succ r q=>
    intro i hi x b;obtain⟨j,rfl⟩:∃j,i=j+1:=⟨i-1,Wc⟩;obtain e|e:=h.down x b
    .lia
    .exact q j Wc Wc e
  refine⟨L,t,λi hi=>⟨λhw=>?_,λ⟨a,c⟩=>.inr (k i a c)⟩,λi f d=>?_,?_⟩
  .have b:=hw.resolve_left hm;have:=o i hi b;refine⟨this,?_⟩;by_cases A:(i:Int)<m+1+L
   .exact A
   .exact absurd b (out (i-(m.toNat+1+L)) i Wc hi)
  .have b:=k i f d;have hi:i<es.length:=by lia
   have e:=gi h.1 (m:=(i:Int)) Wc Wc;rw[ky]at e;rw[e]at b;split at b
   .cases b
   .rename_i B;have y:=h.1 i hi;obtain e2|b:=fO.1 b
    .lia
    .have:=bF h.1 (m:=es.getD i 0) Wc Wc b;lia
  .by_cases u:m+1+L=es.length
   .exact .inl u
   .refine .inr ?_;obtain⟨j,C⟩:∃j:Nat,(j:Int)=m+L:=⟨(m+L).toNat,Wc⟩;have g:j+1<es.length:=by lia
    have nw:m∉bL es ((j+1:Nat):Int):=out 0 QA Wc g;have v:m=j\/m∈bL es j:=by
     by_cases e:m=j
     .exact .inl e
     .exact .inr (k j Wc Wc)
    have et:(m+1+L).toNat=j+1:=by lia
    rw[et];have e:=gi h.1 (m:=((j+1:Nat):Int)) Wc Wc;rw[ky]at e;have y:=h.1 QA g;by_cases s:es.getD QA 0=-1
    .lia
    .rw[dP s]at e;rw[e]at nw;have n1:m≠es.getD QA 0:=λz=>nw (by rw[← z];exact fX);have p:m∉bL es (es.getD QA 0):=λz=>nw (i8 _ z);obtain z|z:=h.2 j g
     .rw[z]at n1 p;obtain w|w:=v
      .exact absurd w n1
      .exact absurd w p
     .obtain w|w:=v
      .have:=bF h.1 (m:=(j:Int)) Wc Wc z;lia
      .rcases tZ h.1 (m:=(j:Int)) Wc Wc w z with c|c|c
       .exact absurd c n1
       .exact absurd c p
       .have:=bF h.1 (m:=m) Wc Wc c;lia
theorem xu:∀(n:Nat) (es:AT) (k:Int),(Ej n es k).length<=n
 | 0,_,_=>i5 _
 | n+1,es,k=>by
  rw[Ej];split
  .exact kr _
  .exact Nat.succ_le_succ (xu n es _)
noncomputable def cA(ks:At)(x:Int):Bool:=decide (ks.getD x.toNat Str.empty="one")
noncomputable def jo(es:AT)(m:Int):AT:=((List.range es.length).filter (λ(i:Nat)=>decide (es.getD i 0=m))).map (λ(i:Nat)=>(i:Int))
def aci(es:AT)(m:Int):(((List.range es.length).map λ(i:Nat)=>D.tup [.int i,.int (es.getD i 0)]).filter (λd=>decide (d.at2.yc=m))).map (λd=>T.sh d.SR)=((jo es m).map D.int).map T.sh:=by
 unfold jo;rw[so,kq,kq,kq];rfl
def Wz(es:AT)(m:Int):(jo es m).length<=es.length:=by
 unfold jo;rw[e7];exact kM (pz _ _) Wm
theorem xx(h:x∈jo es m):0<=x/\x<es.length/\es.getD x.toNat 0=m:=by
 obtain⟨i,hi,rfl⟩:=j0.1 h;obtain⟨h1,h2⟩:=k3.1 hi;have h1:=mD.1 h1;have h2:=ko h2;exact⟨Wc,Wc,‹_› ⟩
theorem Ma(h0:0<=x)(h1:x<es.length)(h2:es.getD x.toNat 0=m):x∈jo es m:=by
 refine List.mem_map.2 ⟨x.toNat,List.mem_filter.2 ⟨List.mem_range.2 Wc,by simpa using h2⟩,Wc⟩
def FU(es:AT)(m:Int):(jo es m).Pairwise (· < ·):=by
 refine List.Pairwise.map _ (λa b h=>?_) (IS _ JJ);exact Int.ofNat_lt.2 h
noncomputable def Qj(s:AT)(k:Int):Int:=if s.length=0 then k else s.getD (k % (s.length:Nat)).toNat 0 % 1000000007 / (1+k / (s.length:Nat))+k / (s.length:Nat)*k
def Hc(es:AT)(m:Int)(n:Nat):Int:=(m::bL es m).getD n 0
variable{n:Nat}
theorem ags(a:n<=(bL es m).length):Hc es m n=m\/Hc es m n∈bL es m:=by
 cases n with
 | zero=>exact .inl rfl
 | succ n=>
  refine .inr ?_;unfold Hc;show(bL es m).getD n 0∈_;rw[lj,l9 Wc];exact List.getElem_mem _
def FW(n:Int)(es:AT)(j:Nat):Int:=if n % 3=0 then(if 2<((bL es j).length:Int)+1 then 2 else((bL es j).length:Int)+1) else((bL es j).length:Int)+1
def Hn(s:AT)(n:Int)(es:AT)(j:Nat):Int:=if ((bL es j).length:Int)=12 then(if 1 > Qj s (1+(j:Int)) % FW n es j then 1 else Qj s (1+(j:Int)) % FW n es j) else Qj s (1+(j:Int)) % FW n es j
theorem acj(n:Int)(es:AT)(j:Nat):0<FW n es j/\FW n es j<=((bL es j).length:Int)+1:=by
 unfold FW;split
 .split<;>lia
 .lia
theorem alK(s:AT)(n:Int)(es:AT)(j:Nat):0<=Hn s n es j/\Hn s n es j<=((bL es j).length:Int):=by
 obtain⟨h1,h2⟩:=acj n es j;have a:=me (Qj s (1+(j:Int))) (b:=FW n es j) Wc;have b:=l2 (Qj s (1+(j:Int))) h1;unfold Hn;split
 .split<;>lia
 .lia
def qs(s:AT)(n:Int):Nat->AT
 | 0=>[-1]
 | j+1=>qs s n j++[Hc (qs s n j) j (Hn s n (qs s n j) j).toNat]
theorem alL(s:AT)(n:Int):∀j,(qs s n j).length=j+1/\nh (qs s n j)
 | 0=>⟨rfl,⟨λk a=>by
   have:(qs s n 0).length=1:=rfl;have:k=0:=by lia
   subst this;exact⟨Int.le_refl _,show(-1)<0 by decide⟩,λk a=>by
   have:(qs s n 0).length=1:=rfl;lia⟩⟩
 | j+1=>by
  obtain⟨h1,h2⟩:=alL s n j;refine⟨by show(qs s n j++_).length=_;simp_all,?_⟩;have b:=alK s n (qs s n j) j;exact h2.snoc h1.symm (ags Wc)
noncomputable def iH(isAll:CA)(es ch:AT):Nat->AT
 | 0=>[0]
 | j+1=>if es.getD QA 0∈iH isAll es ch j/\(isAll (es.getD QA 0)=true\/ch.getD (es.getD QA 0).toNat 0=((j+1:Nat):Int)) then iH isAll es ch j++[((j+1:Nat):Int)] else iH isAll es ch j
theorem jO{isAll:CA}{es ch:AT}:∀(j:Nat) {x:Int},x∈iH isAll es ch j->0<=x/\x<=j
 | 0,x,h=>by simp_all [iH]
 | j+1,x,h=>by
  rw[iH]at h;split at h
  .obtain h|h:=i3.1 h
   .have:=jO j h;lia
   .have:=by simpa using h
    lia
  .have:=jO j h;lia
theorem Ag{isAll:CA}{es ch:AT}:∀(j:Nat),(iH isAll es ch j).length<=j+1
 | 0=>i5 _
 | j+1=>by
  have:=Ag (isAll:=isAll) (es:=es) (ch:=ch) j;rw[iH];split
  .simp;lia
  .lia
noncomputable def av(ks:At)(x:Int):Bool:=decide (ks.getD x.toNat Str.empty="all")
noncomputable def aY(ks:At)(x:Int):Bool:=decide (ks.getD x.toNat Str.empty="leaf")
noncomputable def t6(bY:CA)(es gj acc:AT)(m:Int):AT:=if es.getD m.toNat 0∈gj/\bY (es.getD m.toNat 0)=true then acc.set (es.getD m.toNat 0).toNat m else acc
def TH(bY:CA)(es gj acc ops:AT):AT:=ops.foldl (t6 bY es gj) acc
theorem Ek(bY:CA)(es gj:AT):∀(ops acc:AT),(TH bY es gj acc ops).length=acc.length
 | [],acc=>rfl
 | m::ops,acc=>by
  show(TH _ es _ _ ops).length=_;rw[Ek _ es _ _];unfold t6;split
  .rw[n3]
  .rfl
def ack(bY:CA)(es gj acc ops:AT)(m:Int):TH bY es gj acc (ops++[m])=t6 bY es gj (TH bY es gj acc ops) m:=by
 unfold TH;simp
noncomputable def setStep(bY:CA)(ch acc:AT)(m:Int):AT:=if bY m=true then acc.set m.toNat (ch.getD m.toNat 0) else acc
def YW(bY:CA)(ch acc some:AT):AT:=some.foldl (setStep bY ch) acc
theorem FY(bY:CA)(ch:AT):∀(some acc:AT),(YW bY ch acc some).length=acc.length
 | [],acc=>rfl
 | m::ops,acc=>by
  show(YW _ ch _ ops).length=_;rw[FY _ ch _];unfold setStep;split
  .rw[n3]
  .rfl
theorem X2{bY:CA}{es gj ch:AT} :
  ∀(ops acc:AT),(∀m∈ops,∀e,es.getD m.toNat 0=e->bY e=true->ch.getD e.toNat 0=m)->(∀e∈gj,0<=e/\e<acc.length)->∀i:Nat,i<acc.length →
   (TH bY es gj acc ops).getD i 0=if (i:Int)∈gj/\bY i=true/\∃m∈ops,es.getD m.toNat 0=(i:Int) then ch.getD i 0 else acc.getD i 0
 | [],acc,_,_,i,_=>by
  simp;rfl
 | m::ops,acc,h,hm,i,hi=>by
  show(TH bY es gj (t6 bY es gj acc m) ops).getD i 0=_;have g:(t6 bY es gj acc m).length=acc.length:=by
   unfold t6;split
   .rw[n3]
   .rfl
  rw[X2 ops _ (λk a=>h k (i8 _ a)) (by rw[g];exact hm) i (by rw[g];exact hi)];by_cases h1:(i:Int)∈gj/\bY i=true/\∃m∈ops,es.getD m.toNat 0=(i:Int)
  .rw[dX h1,dX ⟨h1.1,h1.2.1,h1.2.2.imp λk a=>⟨i8 _ a.1,a.2⟩⟩]
  .rw[dP h1];unfold t6;by_cases h2:es.getD m.toNat 0∈gj/\bY (es.getD m.toNat 0)=true
   .rw[dX h2];have j:=hm _ h2.1;by_cases c:es.getD m.toNat 0=(i:Int)
    .rw[dX ⟨by rw[← c];exact h2.1,by rw[← c];exact h2.2,m,fX,c⟩];have:=h m fX _ c (by rw[← c];exact h2.2);rw[ky]at this;rw[this,c,ky,lj,pE hi];rfl
    .rw[dP (λz=>by
      obtain⟨f,d,k,a,b⟩:=z;obtain e|a:=fO.1 a
      .rw[e]at b;exact c b
      .exact h1 ⟨f,d,k,a,b⟩)]
     rw[lj,Fh Wc,← lj]
   .rw[dP h2];rw[dP (λz=>by
     obtain⟨f,d,k,a,b⟩:=z;obtain e|a:=fO.1 a
     .rw[e]at b;exact h2 ⟨by rw[b];exact f,by rw[b];exact d⟩
     .exact h1 ⟨f,d,k,a,b⟩)]
theorem Mb{bY:CA}{ch:AT}:∀(some acc:AT),(∀e∈some,0<=e/\e<acc.length)->∀i:Nat,i<acc.length →
   (YW bY ch acc some).getD i 0=if (i:Int)∈some/\bY i=true then ch.getD i 0 else acc.getD i 0
 | [],acc,_,i,_=>rfl
 | m::ops,acc,hm,i,hi=>by
  show(YW _ ch _ ops).getD i 0=_;have a:(setStep bY ch acc m).length=acc.length:=by
   unfold setStep;split
   .rw[n3]
   .rfl
  rw[Mb _ _ (a▸λe he=>hm e (i8 _ he)) i (a▸hi)];have c:=hm m fX;by_cases h1:(i:Int)∈ops/\bY i=true
  .rw[dX h1,dX ⟨i8 _ h1.1,h1.2⟩]
  .rw[dP h1];unfold setStep;by_cases h2:bY m=true
   .rw[dX h2];by_cases b:m=i
    .subst b;rw[dX ⟨ Wm,h2⟩,ky,lj,pE hi];rfl
    .rw[dP (λz=>by
      obtain e|e:=fO.1 z.1
      .exact b e.symm
      .exact h1 ⟨e,z.2⟩)]
     rw[lj,Fh Wc,← lj]
   .rw[dP h2,dP (λz=>by
     obtain e|e:=fO.1 z.1
     .rw[← e]at h2;exact h2 z.2
     simp_all)]
def acn{a b:AT}(c:a.length=b.length)(h:∀i:Nat,i<a.length->a.getD i 0=b.getD i 0):a=b:=by
 apply List.ext_getElem c;intro i h1 h2;have:=h i h1;rw[lj,lj,l9 h1,l9 h2]at this;exact this
theorem t7{isAll:CA}{es ch:AT}(g:fj es):∀(j:Nat) {k:Nat},k<=j->j<es.length->(((k:Int)∈iH isAll es ch j)↔(k=0\/(es.getD k 0∈iH isAll es ch j/\(isAll (es.getD k 0)=true\/ch.getD (es.getD k 0).toNat 0=(k:Int)))))
 | 0,k,n,h=>by
  have:k=0:=by lia
  subst this;simp[iH]
 | j+1,k,n,h=>by
  have mono:∀{x:Int},x∈iH isAll es ch j->x∈iH isAll es ch QA:=λ{x} a=>by
   rw[iH];split
   .exact j1 _ a
   .exact a
  have back:∀{x:Int},x<((j+1:Nat):Int)->x∈iH isAll es ch QA->x∈iH isAll es ch j:=λ{x} p a=>by
   rw[iH]at a;split at a
   .obtain z|z:=i3.1 a
    .exact z
    .have:x=((j+1:Nat):Int):=by simpa using z
     lia
   .exact a
  by_cases e:k=j+1
  .subst e;have o:=g QA h;have m:((j+1:Nat):Int)∉iH isAll es ch j:=λz=>by
    have:=jO j z;lia
   constructor
   .intro z;rw[iH]at z;split at z
    .rename_i c;exact .inr ⟨mono c.1,c.2⟩
    .exact absurd z m
   .rintro(z|⟨d,b⟩)
    .lia
    .rw[iH,dX ⟨back Wc d,b⟩];exact js _ Wm
  .have f:=t7 (isAll:=isAll) (ch:=ch) g j (k:=k) Wc Wc;have o:=g k Wc;constructor
   .intro z;obtain w|⟨l,i⟩:=f.1 (back Wc z)
    .exact .inl w
    .exact .inr ⟨mono l,i⟩
   .rintro(z|⟨d,b⟩)
    .exact mono (f.2 (.inl z))
    .exact mono (f.2 (.inr ⟨back Wc d,b⟩))
theorem j7{isAll:CA}{es ch:AT}:∀j,(iH isAll es ch j).Pairwise (· < ·)
 | 0=>rh _ _
 | j+1=>by
  rw[iH];split
  .refine xy.2 ⟨j7 j,rh _ _,λa d b c=>?_⟩;have:=jO j d;have:=by simpa using c
   lia
  .exact j7 j
theorem FZ:∀{a b:AT},a.Pairwise (· < ·)->b.Pairwise (· < ·)->(∀x,x∈a↔x∈b)->a=b
 | [],[],_,_,_=>rfl
 | [],y::b,_,_,h=>absurd ((h y).2 Wm) Wm
 | x::a,[],_,_,h=>absurd ((h x).1 fX) Wm
 | x::a,y::b,g,f,h=>by
  obtain⟨a1,a2⟩:=l7.1 g;obtain⟨b1,b2⟩:=l7.1 f;have e:x=y:=by
   obtain e|d:=fO.1 ((h x).1 fX)
   .exact e
   .obtain e|c:=fO.1 ((h y).2 fX)
    .exact e.symm
    .have:=a1 y c;have:=b1 x d;lia
  subst e;rw[FZ a2 b2 λz=>⟨λhz=>by
   obtain e|e:=fO.1 ((h z).1 (i8 _ hz))
   .have:=a1 z hz;lia
   .exact e,λhz=>by
   obtain e|e:=fO.1 ((h z).2 (i8 _ hz))
   .have:=b1 z hz;lia
   .exact e⟩]
noncomputable def kD(ss mem:AT)(a:Bool)(e:Int):Int:=if a=true/\mem.getD e.toNat 0 ≠ -1 then mem.getD e.toNat 0 else ss.getD e.toNat 0
def OU(aB isAll:CA)(es ss mem:AT)(a:Bool)(m:Int):AT:=if aB m=true then [] else if isAll m=true then jo es m else [kD ss mem a m]
def jP(aB isAll:CA)(es ss mem:AT)(far:Bool):Nat->Bool->Int->AT
 | 0,_,m=>[m]
 | d+1,near,m=>m::(OU aB isAll es ss mem (far || near) m).flatMap (λp=>jP aB isAll es ss mem far d false p)
structure dG(aB isAll:CA)(es ss mem:AT):Prop where
 pre:nh es
 leaf:∀k:Nat,k<es.length->aB k=true->jo es k=[]
 one:∀k:Nat,k<es.length->aB k=false->isAll k=false->ss.getD k 0∈jo es k/\(mem.getD k 0=-1\/mem.getD k 0∈jo es k)
variable{aB isAll:CA}{mem:AT}
def WB(h:QaI){u:Bool}{k:Nat}(b:k<es.length)(h1:aB k=false)(h2:isAll k=false):kD ss mem u k∈jo es k:=by
 obtain⟨a,c⟩:=h.one k b h1 h2;unfold kD;split
 .rename_i z;exact c.resolve_left z.2
 .exact a
variable{p:Int}
def sJ(h:QaI){u:Bool}{k:Nat}(b:k<es.length)(a:p∈OU aB isAll es ss mem u k):p∈jo es k:=by
 unfold OU at a;split at a
 .cases a
 .rename_i h1;split at a
  .exact a
  .rename_i h2;have:=by simpa using a
   exact this▸WB h b (by simpa using h1) (by simpa using h2)
def X1(h:QaI){u:Bool}{k:Nat}(c:k<es.length)(a:p∈jo es k):p∈OU aB isAll es ss mem u k↔(isAll k=true\/kD ss mem u k=p):=by
 have b:aB k=false:=by
  cases e:aB k with
  | false=>rfl
  | true=>rw[h.leaf k c e]at a;cases a
 unfold OU;rw[dP (by rw[b];decide)];cases e:isAll k with
 | true=>rw[dX rfl];exact⟨λ_=>.inl rfl,λ_=>a⟩
 | false=>
  rw[dP Wl,j2];exact⟨λz=>.inr z.symm,λz=>z.elim (λz=>by cases z) (λz=>z.symm)⟩
theorem cu(h:nh es)(b:p∈jo es k):0<=p/\p<es.length/\es.getD p.toNat 0=k/\k<p:=by
 have a:=xx b;have:=h.1 p.toNat Wc;refine⟨a.1,a.2.1,a.2.2,?_⟩;lia
theorem Qk(h:QaI){far:Bool}:∀(a c:Nat) {near:Bool} {k:Nat},k<es.length->es.length<=k+a+1->es.length<=k+c+1->jP aB isAll es ss mem far a near k=jP aB isAll es ss mem far c near k
 | 0,0,_,_,_,_,_=>rfl
 | 0,c+1,near,k,d,f,_=>by
  have:OU aB isAll es ss mem (far || near) k=[]:=List.eq_nil_iff_forall_not_mem.2 λp b=>by
   have:=cu h.pre (sJ h d b);lia
  rw[jP,jP,this];rfl
 | a+1,0,near,k,d,_,e=>by
  have:OU aB isAll es ss mem (far || near) k=[]:=List.eq_nil_iff_forall_not_mem.2 λp b=>by
   have:=cu h.pre (sJ h d b);lia
  rw[jP,jP,this];rfl
 | a+1,c+1,near,k,d,f,e=>by
  rw[jP,jP];congr 1;rw[List.flatMap_def,List.flatMap_def];congr 1;apply oC;intro p b;have g:=cu h.pre (sJ h d b);obtain⟨q,rfl⟩:∃q:Nat,p=q:=⟨p.toNat,Wc⟩;exact Qk h a c Wc Wc Wc
theorem jQ(h:QaI){far:Bool}:∀(d:Nat) {near:Bool} {k:Nat},k<es.length->es.length<=k+d+1->∀x:Nat,x<es.length →
  ((x:Int)∈jP aB isAll es ss mem far d near k↔(x=k\/(k<x/\es.getD x 0∈jP aB isAll es ss mem far d near k/\(isAll (es.getD x 0)=true\/kD ss mem (far || (near&&decide (es.getD x 0=(k:Int)))) (es.getD x 0)=(x:Int)))))
 | 0,near,k,i,hd,x,g=>by
  rw[jP,j2];have u:=h.pre.1 x g;constructor
  .intro z;exact .inl Wc
  .rintro(z|⟨n,b,_⟩)
   .lia
   .lia
 | d+1,near,k,i,hd,x,g=>by
  have u:=h.pre.1 x g;rw[jP,fO,l4];have Ah:∀p∈OU aB isAll es ss mem (far || near) k,∀y:Nat,y<es.length->((y:Int)∈jP aB isAll es ss mem far d false p↔((y:Int)=p\/(p<y/\es.getD y 0∈jP aB isAll es ss mem far d false p/\(isAll (es.getD y 0)=true\/kD ss mem far (es.getD y 0)=(y:Int))))):=λp a y c=>by
   have l:=cu h.pre (sJ h i a);obtain⟨q,rfl⟩:∃q:Nat,p=q:=⟨p.toNat,Wc⟩;have:=jQ h (far:=far) d (near:=false) (k:=q) Wc Wc y c;rw[this];simp only[Bool.false_and,Bool.or_false];constructor
   .rintro(z|⟨n,b⟩)
    .exact .inl Wc
    .exact .inr ⟨Wc,b⟩
   .rintro(z|⟨n,b⟩)
    .exact .inl Wc
    .exact .inr ⟨Wc,b⟩
  have f:∀(dd:Nat) (p:Nat),p<es.length->∀y:Int,y∈jP aB isAll es ss mem far dd false p->(p:Int)<=y:=by
   intro dd
   induction dd with
   | zero=>intro p _ y c;rw[jP,j2]at c;lia
   | succ dd t=>
    intro p a y c;rw[jP,fO,l4]at c;obtain e|⟨q,v,c⟩:=c
    .lia
    .have l:=cu h.pre (sJ h a v);obtain⟨r,rfl⟩:∃r:Nat,q=r:=⟨q.toNat,Wc⟩;have:=t r Wc y c;lia
  constructor
  .rintro(z|⟨p,a,z⟩)
   .exact .inl Wc
   .have j:=sJ h i a;have l:=cu h.pre j;have w:p<=x:=by
     obtain⟨q,rfl⟩:∃q:Nat,p=q:=⟨p.toNat,Wc⟩;exact f d q Wc x z
    refine .inr ⟨Wc,?_⟩;rcases(Ah p a x g).1 z with e|⟨e1,e2,A⟩
    .have o:es.getD x 0=(k:Int):=by
      rw[← e,ky]at l;exact l.2.2.1
     rw[o];refine⟨fX,?_⟩;rw[ml rfl,xI];have:=(X1 h i j).1 a;rw[← e]at this;exact this
    .have s:p<=es.getD x 0:=by
      obtain⟨q,rfl⟩:∃q:Nat,p=q:=⟨p.toNat,Wc⟩;exact f d q Wc _ e2
     refine⟨i8 _ (l4.2 ⟨p,a,e2⟩),?_⟩;rw[mn Wc,Bool.and_false,Bool.or_false];exact A
  .rintro(z|⟨n,b,m⟩)
   .exact .inl Wc
   .obtain e|b:=fO.1 b
    .
     have j:(x:Int)∈jo es k:=Ma Wc Wc (by rw[ky];exact e);rw[e,ml rfl,xI]at m;have a:=(X1 h i j).2 m;exact .inr ⟨x,a,(Ah x a x g).2 Qae⟩
    .obtain⟨p,a,b⟩:=l4.1 b;have j:=sJ h i a;have l:=cu h.pre j;have s:p<=es.getD x 0:=by
      obtain⟨q,rfl⟩:∃q:Nat,p=q:=⟨p.toNat,Wc⟩;exact f d q Wc _ b
     rw[mn Wc,Bool.and_false,Bool.or_false]at m;exact .inr ⟨p,a,(Ah p a x g).2 (.inr ⟨Wc,b,m⟩)⟩
theorem bS(h:QaI){far:Bool}:∀(d:Nat) {near:Bool} {k:Nat},k<es.length->∀y∈jP aB isAll es ss mem far d near k,0<=y/\y<es.length/\(y=k\/(k:Int)∈bL es y)
 | 0,near,k,g,y,a=>by
  rw[jP,j2]at a;exact⟨Wc,Wc,.inl a⟩
 | d+1,near,k,g,y,a=>by
  rw[jP,fO,l4]at a;obtain e|⟨p,j,a⟩:=a
  .exact⟨Wc,Wc,.inl e⟩
  .have l:=cu h.pre (sJ h g j);obtain⟨q,rfl⟩:∃q:Nat,p=q:=⟨p.toNat,Wc⟩;obtain⟨f,c,i⟩:=bS h d Wc y a;have b:(k:Int)∈bL es q:=by
    rw[gi h.pre.1 Wc Wc,l.2.2.1];simp
   refine⟨f,c,.inr ?_⟩;obtain e|e:=i
   .exact e▸b
   .exact lW h.pre.1 f c e b
theorem pZ(h:QaI){far:Bool}:∀(d:Nat) {near:Bool} {k:Nat},k<es.length->(jP aB isAll es ss mem far d near k).Pairwise (· < ·)
 | 0,_,_,_=>by rw[jP];exact rh _ _
 | d+1,near,k,g=>by
  rw[jP];refine l7.2 ⟨λy b=>?_,List.pairwise_flatMap.2 ⟨λp f=>?_,?_⟩⟩
  .obtain⟨p,f,b⟩:=l4.1 b;have s:=cu h.pre (sJ h g f);obtain⟨q,rfl⟩:∃q:Nat,p=q:=⟨p.toNat,Wc⟩;obtain⟨l,j,i⟩:=bS h d (k:=q) Wc y b;obtain e|e:=i
   .lia
   .have:=bF h.pre.1 l j e;lia
  .have s:=cu h.pre (sJ h g f);obtain⟨q,rfl⟩:∃q:Nat,p=q:=⟨p.toNat,Wc⟩;exact pZ h d Wc
  .have hs:(OU aB isAll es ss mem (far || near) k).Pairwise (· < ·):=by
    unfold OU;split
    .exact .nil
    .split
     .exact FU es k
     .exact rh _ _
   refine JO ?_ hs;intro p r f n v x w y b;have s:=cu h.pre (sJ h g f);have o:=cu h.pre (sJ h g n);obtain⟨q,rfl⟩:∃q:Nat,p=q:=⟨p.toNat,Wc⟩;obtain⟨a,rfl⟩:∃a:Nat,r=a:=⟨r.toNat,Wc⟩;obtain⟨x0,B,t⟩:=bS h d (k:=q) Wc x w;obtain⟨l,j,i⟩:=bS h d (k:=a) Wc y b;obtain⟨L,S⟩:=TF h.pre (m:=(q:Int)) Wc Wc;have xL:x<(q:Int)+1+L:=by
    obtain e|e:=t
    .lia
    .obtain⟨z,rfl⟩:∃z:Nat,x=z:=⟨x.toNat,Wc⟩;exact((S.iff z Wc).1 (.inr e)).2
   have u:¬ ((q:Int)∈bL es a):=λz=>by
    rw[gi h.pre.1 (m:=(a:Int)) Wc Wc,o.2.2.1,dP Wc]at z;obtain e|e:=fO.1 z
    .lia
    .have:=bF h.pre.1 (m:=(k:Int)) Wc Wc e;lia
   have A:(q:Int)+1+L<=a:=by
    have:=S.iff a Wc;by_cases c:(a:Int)<(q:Int)+1+L
    .exact absurd ((this.2 ⟨v,c⟩).resolve_left Wc) u
    .lia
   have:(a:Int)<=y:=by
    obtain e|e:=i
    .lia
    .have:=bF h.pre.1 l j e;lia
   lia
def F0(isAll:CA)(es ss mem:AT)(far near:Bool)(k:Nat):Nat->AT
 | 0=>[(k:Int)]
 | j+1=>if es.getD (k+1+j) 0∈F0 isAll es ss mem far near k j/\(isAll (es.getD (k+1+j) 0)=true\/kD ss mem (far || (near&&decide (es.getD (k+1+j) 0=(k:Int)))) (es.getD (k+1+j) 0)=((k+1+j:Nat):Int)) then F0 isAll es ss mem far near k j++[((k+1+j:Nat):Int)] else F0 isAll es ss mem far near k j
theorem xA{far near:Bool}{k:Nat}:∀(j:Nat) {x:Int},x∈F0 isAll es ss mem far near k j->k<=x/\x<=k+j
 | 0,x,h=>by simp_all [F0]
 | j+1,x,h=>by
  rw[F0]at h;split at h
  .obtain h|h:=i3.1 h
   .have:=xA j h;lia
   .have:=by simpa using h
    lia
  .have:=xA j h;lia
theorem yO{far near:Bool}{k:Nat}:∀j,(F0 isAll es ss mem far near k j).Pairwise (· < ·)
 | 0=>rh _ _
 | j+1=>by
  rw[F0];split
  .refine xy.2 ⟨yO j,rh _ _,λa d b c=>?_⟩;have:=xA j d;have:=by simpa using c
   lia
  .exact yO j
theorem TL(h:QaI){far near:Bool}{k d:Nat}(f:k<es.length)(hd:es.length<=k+d+1):∀(j:Nat),k+j<es.length->∀x:Nat,x<=k+j->((x:Int)∈F0 isAll es ss mem far near k j↔(x:Int)∈jP aB isAll es ss mem far d near k)
 | 0,o,x,m=>by
  rw[F0,j2,jQ h d f hd x Wc];constructor
  .intro z;exact .inl Wc
  .rintro(z|⟨z,_⟩)
   .lia
   .lia
 | j+1,o,x,m=>by
  have g:=TL h (far:=far) (near:=near) f hd j Wc;have r:=h.pre.1 (k+1+j) Wc;have mono:∀{y:Int},y∈F0 isAll es ss mem far near k j->y∈F0 isAll es ss mem far near k QA:=λ{y} a=>by
   rw[F0];split
   .exact j1 _ a
   .exact a
  have back:∀{y:Int},y<((k+1+j:Nat):Int)->y∈F0 isAll es ss mem far near k QA->y∈F0 isAll es ss mem far near k j:=λ{y} p a=>by
   rw[F0]at a;split at a
   .obtain z|z:=i3.1 a
    .exact z
    .have:y=((k+1+j:Nat):Int):=by simpa using z
     lia
   .exact a
  by_cases e:x=k+1+j
  .subst e;rw[jQ h d f hd (k+1+j) Wc];have nx:((k+1+j:Nat):Int)∉F0 isAll es ss mem far near k j:=λz=>by
    have:=xA j z;lia
   have b:es.getD (k+1+j) 0∈F0 isAll es ss mem far near k j↔es.getD (k+1+j) 0∈jP aB isAll es ss mem far d near k:=by
    by_cases e0:es.getD (k+1+j) 0=-1
    .rw[e0];constructor
     .intro z;have:=xA j z;lia
     .intro z;have:=bS h d f _ z;lia
    .obtain⟨q,n⟩:∃q:Nat,es.getD (k+1+j) 0=q:=⟨(es.getD (k+1+j) 0).toNat,Wc⟩;rw[n];exact g q Wc
   constructor
   .intro z;rw[F0]at z;split at z
    .rename_i c;exact .inr ⟨Wc,b.1 c.1,c.2⟩
    .exact absurd z nx
   .rintro(z|⟨_,l,i⟩)
    .lia
    .rw[F0,dX ⟨b.2 l,i⟩];exact js _ Wm
  .have:=g x Wc;constructor
   .intro z;exact this.1 (back Wc z)
   .intro z;exact mono (this.2 z)
variable{far near:Bool}
theorem YX(h:QaI){k d:Nat}(b:k<es.length)(hd:es.length<=k+d+1):jP aB isAll es ss mem far d near k=F0 isAll es ss mem far near k (es.length-1-k):=by
 refine FZ (pZ h d b) (yO _) λx=>?_;constructor
 .intro a;have c:=bS h d b x a;obtain⟨q,rfl⟩:∃q:Nat,x=q:=⟨x.toNat,Wc⟩;exact(TL h b hd _ Wc q Wc).2 a
 .intro a;have c:=xA _ a;obtain⟨q,rfl⟩:∃q:Nat,x=q:=⟨x.toNat,Wc⟩;exact(TL h b hd _ Wc q Wc).1 a
def t8(mode:Str):Prop:=mode="new" \/ mode="near" \/ mode="far"
noncomputable def eX(mode:Str):Bool:=decide (mode="far")
noncomputable def g6(mode:Str):Bool:=decide (mode="near")
def IQ(ks:At)(es ss mem:AT)(mode:Str)(m:Int):AT:=jP Qas Q1 es ss mem (eX mode) es.length (g6 mode) m
theorem Ai(h:QaI){d k:Nat}(g:k<es.length):(jP aB isAll es ss mem far d near k).length<=es.length:=by
 have hs:=pZ h (far:=far) d (near:=near) g;have e:=bS h (far:=far) d (near:=near) g;generalize jP _ _ es ss _ _ d _ k=l at hs e;have go:∀(l:List _) (lo:Int),l.Pairwise (· < ·)->(∀x∈l,lo<=x/\x<es.length)->l.length<=es.length-lo\/l=[]:=by
  intro l
  induction l with
  | nil=>intro lo _ _;exact .inr rfl
  | cons x r i=>
   intro lo h1 h2;obtain⟨a,c⟩:=l7.1 h1;have b:=h2 x fX;rcases i _ c (λy f=>⟨a y f,(h2 y (i8 _ f)).2⟩) with z|z
   .left;grind
   .left;rw[z];simp;lia
 rcases go l 0 hs (λx b=>⟨(e x b).1,(e x b).2.1⟩) with z|z
 .lia
 simp_all
def jg(es:AT)(u t x:Int):Prop:=x=t\/(x∈bL es t/\(u=-1\/u∈bL es x))
theorem F2(h:fj es)(t0:0<=t)(t1:Qbc)(a:Qcz)(x:Int):x∈cS es u t↔jg es u t x:=by
 unfold cS jg;rw[x2,fO];refine or_congr Iff.rfl ?_;obtain rfl|a:=a
 .have e:(bL es t).takeWhile (λx=>decide (x ≠ -1))=bL es t:=by
   have:=NA (p:=λx=>decide (x≠(-1:Int))) (l₁:=bL es t) (l₂:=[]) (λy b=>by
    have:=bF h t0 t1 b;simp;lia)
   simpa using this
  simp_all
 .have i:=bF h t0 t1 a;constructor
  .intro z;exact⟨(JI _).subset z,.inr (DI h t0 t1 a z)⟩
  .rintro⟨c,f⟩;obtain⟨pre,p1,p2⟩:=sI h (t.toNat+1) t0 t1 Wc a;have ne:∀y∈pre,decide (y≠u)=true:=λy b=>by
    have g:=bF h t0 t1 (p2 y b).1;have:=bF h (m:=y) Wc Wc (p2 y b).2;simp;lia
   have e:(bL es t).takeWhile Qb7=pre:=by
    rw[p1,NA ne,List.takeWhile_cons,dP Wm,km]
   rw[e];have k:=bF h t0 t1 c;have d:u∈bL es x:=f.resolve_left Wc;have j:=bF h (m:=x) Wc Wc d;rw[p1]at c;obtain z|z:=i3.1 c
   .exact z
   .obtain z|z:=fO.1 z
    .lia
    .have:=bF h (m:=u) Wc Wc z;lia
variable{t:Nat}
def TN(aB isAll:CA)(es ss mem:AT)(far near:Bool)(u:Int)(t:Nat)(x:Int):Prop:=
 (jg es u t x/\x≠t)\/x∈jP aB isAll es ss mem far es.length near t\/∃s p,jg es u t s/\s≠t/\isAll s=true/\p∈jo es s/\¬ jg es u t p/\x∈jP aB isAll es ss mem false es.length false p
def Aj(aB isAll:CA)(es ss mem:AT)(far near:Bool)(u:Int)(t:Nat)(e x:Int):Prop:=
 isAll e=true\/(kD ss mem ((decide (e=t)&&(far || near)) || (far&&decide (e∈jP aB isAll es ss mem far es.length near t))) e=x/\(e=t\/¬ jg es u t e))
theorem jD(h:fj es)(b:Qbc)(a:jg es u t x):0<=x/\x<=t:=by
 obtain e|⟨e,_⟩:=a
 .lia
 .have:=bF h Wc Wc e;lia
variable{s:Int}
theorem WC(h:fj es)(c:Qbc)(hs:jg es u t s)(d:p∈jo es s)(a:p∈bL es t\/p=t):jg es u t p:=by
 obtain a|a:=a
 .refine .inr ⟨a,?_⟩;have f:=jD h c hs;have b:=xx d;have pb:=bF h (m:=(t:Int)) Wc Wc a;have e:=gi h (m:=p) b.1 b.2.1;rw[b.2.2,dP Wc]at e;have st:s∈bL es t:=lW h Wc Wc a (by rw[e];exact fX);obtain z|⟨_,z|z⟩:=hs
  .have:=bF h (m:=(t:Int)) Wc Wc st;lia
  .exact .inl z
  .exact .inr (by rw[e];exact i8 _ z)
 .exact .inl a
theorem vG(h:QaI)(d:Qbc)(hs:jg es u t s)(c:s≠t)(f:p∈jo es s)(hpl:¬ jg es u t p)(b:x=p\/p∈bL es x)(x0:0<=x)(g:x<es.length):¬ jg es u t x/\¬ (x=t\/(t:Int)∈bL es x):=by
 have a:=h.pre.1;have i:=jD a d hs;have pb:=cu h.pre f;have up:=λz=>hpl (WC a d hs f z);have key:¬ (x=t\/(t:Int)∈bL es x):=by
  rintro(z|z)
  .rw[z]at b;obtain e|e:=b
   .exact up (.inr e.symm)
   .exact up (.inl e)
  .obtain e|e:=b
   .rw[e,gi a (m:=p) pb.1 pb.2.1,pb.2.2.1,dP Wc]at z;obtain w|w:=fO.1 z
    .exact c w.symm
    .have:=bF a (m:=s) Wc Wc w;lia
   .obtain w|w|w:=tZ a x0 g z e
    .exact up (.inr w.symm)
    .rw[gi a (m:=p) pb.1 pb.2.1,pb.2.2.1,dP Wc]at w;obtain v|v:=fO.1 w
     .exact c v.symm
     .have:=bF a (m:=s) Wc Wc v;lia
    .exact up (.inl w)
 refine⟨λz=>?_,key⟩;obtain z|⟨z,_⟩:=z
 .exact key (.inl z)
 .obtain e|e:=b
  .rw[e]at z;exact up (.inl z)
  .exact up (.inl (lW a Wc Wc z e))
theorem Mf(h:QaI)(c:Qbc)(x:Nat)(g:x<es.length) :
  TN aB isAll es ss mem far near u t x↔(jg es u t x\/(TN aB isAll es ss mem far near u t (es.getD x 0)/\¬ jg es u t x/\Aj aB isAll es ss mem far near u t (es.getD x 0) x)):=by
 have i:=h.pre.1;have N:=i x g;have f:=λy F=>bS h (far:=far) (near:=near) es.length c y F;have w8:(t:Int)∈jP aB isAll es ss mem far es.length near t:=(jQ h es.length c Wc t c).2 Qae;have n:∀y:Int,y∈jP aB isAll es ss mem far es.length near t->y≠t->¬ jg es u t y:=λy F L z=>by
  obtain⟨D,C,B⟩:=f y F;have:=jD i c z;obtain e|e:=B
  .exact L e
  .have:=bF i D C e;lia
 constructor
 .rintro(z|z|⟨s,p,a,l,j,o,A,m⟩)
  .exact .inl z.1
  .by_cases e:(x:Int)=t
   .exact .inl (.inl e)
   .refine .inr ?_;have I:=z;rw[jQ h es.length c Wc x g]at I;obtain⟨r,d,b⟩:=I.resolve_left Wc;refine⟨.inr (.inl d),n x z e,?_⟩;unfold Aj;obtain b|b:=b
    .exact .inl b
    .refine .inr ⟨?_,?_⟩
     .rw[ml d,xI];rw[← b];congr 1;cases far<;>cases near<;>simp
     .by_cases e2:es.getD x 0=t
      .exact .inl e2
      .exact .inr (n _ d e2)
  .have pb:=cu h.pre o;have K:=jD i c a;obtain⟨q,rfl⟩:∃q:Nat,p=q:=⟨p.toNat,Wc⟩;obtain⟨D,C,B⟩:=bS h (far:=false) (near:=false) es.length (k:=q) Wc x m;obtain⟨M,P⟩:=vG h c a l o A B D C;refine .inr ⟨?_,M,?_⟩
   .rw[jQ h es.length (k:=q) Wc Wc x g]at m;obtain w|⟨_,d,_⟩:=m
    .subst w;have:es.getD x 0=s:=by have:=pb.2.2.1;rwa [ky]at this
     rw[this];exact .inl ⟨a,l⟩
    .exact .inr (.inr ⟨s,q,a,l,j,o,A,d⟩)
   .rw[jQ h es.length (k:=q) Wc Wc x g]at m;unfold Aj;obtain w|⟨_,d,b⟩:=m
    .subst w;have:es.getD x 0=s:=by have:=pb.2.2.1;rwa [ky]at this
     rw[this];exact .inl j
    .obtain b|b:=b
     .exact .inl b
     .obtain⟨e0,e1,e2⟩:=bS h (far:=false) (near:=false) es.length (k:=q) Wc _ d;obtain⟨p1,p2⟩:=vG h c a l o A e2 e0 e1;refine .inr ⟨?_,.inr p1⟩;rw[mn (λz=>p2 (.inl z)),mn (λz=>p2 ((f _ z).2.2.elim .inl .inr))];rw[← b];congr 1;simp
 .rintro(z|⟨a,l,j⟩)
  .by_cases e:(x:Int)=t
   .rw[e];exact .inr (.inl w8)
   .exact .inl ⟨z,e⟩
  .unfold Aj at j;obtain a|a|⟨s,p,r,d,b,E,J,w6⟩:=a
   .
    have K:=jD i c a.1;have H:isAll (es.getD x 0)=true:=j.elim id (λw=>w.2.elim (λv=>absurd v a.2) (λv=>absurd a.1 v));have O:(x:Int)∈jo es (es.getD x 0):=Ma Wc Wc (by rw[ky]);exact .inr (.inr ⟨_,x,a.1,a.2,H,O,l,(jQ h es.length g Wc x g).2 Qae⟩)
   .obtain⟨e0,e1,e2⟩:=f _ a;have G:(t:Int)<=es.getD x 0:=by
     obtain e|e:=e2
     .lia
     .have:=bF i e0 e1 e;lia
    refine .inr (.inl ((jQ h es.length c Wc x g).2 (.inr ⟨Wc,a,?_⟩)));obtain w|⟨w,_⟩:=j
    .exact .inl w
    .refine .inr ?_;rw[← w,ml a,xI];congr 1;cases far<;>cases near<;>simp
   .have pb:=cu h.pre E;have K:=jD i c r;obtain⟨q,rfl⟩:∃q:Nat,p=q:=⟨p.toNat,Wc⟩;obtain⟨e0,e1,e2⟩:=bS h (far:=false) (near:=false) es.length (k:=q) Wc _ w6;obtain⟨p1,p2⟩:=vG h c r d E J e2 e0 e1;have G:(q:Int)<=es.getD x 0:=by
     obtain e|e:=e2
     .lia
     .have:=bF i e0 e1 e;lia
    refine .inr (.inr ⟨s,q,r,d,b,E,J,(jQ h es.length (k:=q) Wc Wc x g).2 (.inr ⟨Wc,w6,?_⟩)⟩);obtain w|⟨w,_⟩:=j
    .exact .inl w
    .refine .inr ?_;rw[← w,mn (λz=>p2 (.inl z)),mn (λz=>p2 ((f _ z).2.2.elim .inl .inr))];congr 1;simp
def pd(aB isAll:CA)(es ss mem:AT)(far near:Bool)(u:Int)(t:Nat):AT:=
 (cS es u t).dropLast++jP aB isAll es ss mem far es.length near t++((cS es u t).dropLast.filter (λs=>isAll s)).flatMap (λs=>((jo es s).filter (λp=>!decide (p∈cS es u t))).flatMap (λp=>jP aB isAll es ss mem false es.length false p))
def BI(es:AT)(u t:Int):(cS es u t).dropLast=((bL es t).takeWhile Qb7).reverse:=by
 unfold cS;rw[mM,List.dropLast_concat]
theorem xB(h:fj es)(d:Qbc)(b:x∈(cS es u t).dropLast):x∈cS es u t/\x≠t:=by
 have a:=b;rw[BI,x2]at b;have c:=(JI _).subset b;have:=bF h Wc Wc c;exact⟨List.dropLast_subset _ a,Wc⟩
def WD(a:x∈cS es u t)(b:x≠t):x∈(cS es u t).dropLast:=by
 rw[BI,x2];unfold cS at a;rw[x2]at a;exact(fO.1 a).resolve_left b
theorem El(h:QaI)(b:Qbc)(j:Qcz)(x:Int):x∈pd aB isAll es ss mem far near u t↔TN aB isAll es ss mem far near u t x:=by
 have li:=F2 h.pre.1 Wc Wc j;unfold pd TN;rw[i3,i3,or_assoc];refine or_congr ?_ (or_congr Iff.rfl ?_)
 .constructor
  .intro z;obtain⟨a,c⟩:=xB h.pre.1 b z;simp_all
  .rintro⟨a,c⟩;exact WD ((li x).2 a) c
 .simp only[l4,k3];constructor
  .rintro⟨s,⟨s1,s2⟩,p,⟨p1,p2⟩,z⟩;obtain⟨a,c⟩:=xB h.pre.1 b s1;refine⟨s,p,(li s).1 a,c,s2,p1,λw=>?_,z⟩;simp_all
  .rintro⟨s,p,i,g,f,e,k,d⟩;refine⟨s,⟨WD ((li s).2 i) g,f⟩,p,⟨e,?_⟩,d⟩;simp_all
variable{l:AT}
theorem vH(h:l.Pairwise (· < ·)):l.Nodup:=List.Pairwise.imp (λ{a b} c=>by lia) h
theorem BJ(h:QaI)(j:Qbc)(X:Qcz):(pd aB isAll es ss mem far near u t).Nodup:=by
 have d:=h.pre.1;have li:=F2 d (u:=u) (t:=(t:Int)) Wc Wc X;have E:(cS es u t).dropLast.Nodup:=by
  rw[BI];have hs:=yN d (t+1) (m:=(t:Int)) Wc Wc Wc;exact List.pairwise_reverse.2 (List.Pairwise.imp (λ{a b} (PJ:b<a)=>(by lia:b≠a)) (List.Pairwise.sublist (JI _) hs))
 have side:∀s∈(cS es u t).dropLast.filter (λs=>isAll s),∀p∈(jo es s).filter (λp=>!decide (p∈cS es u t)),jg es u t s/\s≠t/\p∈jo es s/\¬ jg es u t p:=λs hs p n=>by
  obtain⟨s1,s2⟩:=k3.1 hs;obtain⟨p1,p2⟩:=k3.1 n;obtain⟨a,c⟩:=xB d j s1;refine⟨(li s).1 a,c,p1,λw=>?_⟩;rw[ml ((li p).2 w)]at p2;cases p2
 have wit:∀s p x,jg es u t s->s≠t->p∈jo es s->¬ jg es u t p->x∈jP aB isAll es ss mem false es.length false p->0<=x/\x<es.length/\(x=p\/p∈bL es x):=λs p x _ _ n _ v=>by
  have pb:=cu h.pre n;have J:∃q:Nat,p=q:=⟨p.toNat,by
   have:=pb.1;lia⟩
  obtain⟨q,rfl⟩:=J;exact bS h es.length Wc x v
 unfold pd;refine la.2 ⟨la.2 ⟨E,vH (pZ h _ j),λa M b B e=>?_⟩,?_,λa M b B e=>?_⟩
 .subst e;obtain⟨a1,a2⟩:=xB d j M;have lb:=jD d j ((li a).1 a1);obtain⟨T,S,R⟩:=bS h es.length j a B;obtain e|e:=R
  .exact a2 e
  .have:=bF d T S e;lia
 .refine List.pairwise_flatMap.2 ⟨λs hs=>List.pairwise_flatMap.2 ⟨λp n=>?_,?_⟩,?_⟩
  .obtain⟨_,_,p1,_⟩:=side s hs p n;have pb:=cu h.pre p1;have J:∃q:Nat,p=q:=⟨p.toNat,by
    have:=pb.1;lia⟩
   obtain⟨q,rfl⟩:=J;exact vH (pZ h _ Wc)
  .have K:((jo es s).filter (λp=>!decide (p∈cS es u t))).Pairwise (· < ·):=IS _ (FU es s);refine JO ?_ K;intro p l n A Z x v y G e;subst e;obtain⟨s1,s2,p1,p2⟩:=side s hs p n;obtain⟨_,_,i,r⟩:=side s hs l A;obtain⟨x0,D,C⟩:=wit s p x s1 s2 p1 p2 v;obtain⟨_,_,k⟩:=wit s l x s1 s2 i r G;have pb:=cu h.pre p1;have f:=cu h.pre i;have N:=jD d j s1;have c1:∀z,z∈bL es l->z<=s:=λz hz=>by
    rw[gi d (m:=l) f.1 f.2.1,f.2.2.1,dP Wc]at hz;obtain w|w:=fO.1 hz
    .lia
    .have:=bF d (m:=s) Wc Wc w;lia
   have P:∀z,z∈bL es p->z<=s:=λz hz=>by
    rw[gi d (m:=p) pb.1 pb.2.1,pb.2.2.1,dP Wc]at hz;obtain w|w:=fO.1 hz
    .lia
    .have:=bF d (m:=s) Wc Wc w;lia
   obtain e|e:=C
   .obtain g|g:=k
    .lia
    .rw[e]at g;have:=P _ g;lia
   .obtain g|g:=k
    .rw[g]at e;have:=c1 _ e;lia
    .obtain w|w|w:=tZ d x0 D e g
     .lia
     .have:=c1 _ w;lia
     .have:=P _ w;lia
  .have L:((cS es u t).dropLast.filter (λs=>isAll s)).Nodup:=IS _ E;refine JO ?_ L;intro s s' hs Y U x v y G e;subst e;obtain⟨p,n,v⟩:=l4.1 v;obtain⟨l,A,G⟩:=l4.1 G;obtain⟨s1,s2,p1,p2⟩:=side s hs p n;obtain⟨o,I,i,r⟩:=side s' Y l A;obtain⟨x0,D,C⟩:=wit s p x s1 s2 p1 p2 v;obtain⟨_,_,k⟩:=wit s' l x o I i r G;have pb:=cu h.pre p1;have f:=cu h.pre i;have N:=jD d j s1;have H:=jD d j o;have up:∀{s p s':Int},jg es u t s->p∈jo es s->¬ jg es u t p->jg es u t s'->0<=s'->¬ (p=s'\/p∈bL es s'):=λ{s p s'} ls pin np F _ z=>by
    refine np ?_;obtain z|z:=z
    .rw[z];exact F
    .refine WC d j ls pin (.inl ?_);obtain w|⟨w,_⟩:=F
     .rw[← w];exact z
     .exact lW d Wc Wc w z
   have d1:¬ p∈bL es l:=λz=>by
    rw[gi d (m:=l) f.1 f.2.1,f.2.2.1,dP Wc]at z;exact up s1 p1 p2 o H.1 ((fO.1 z))
   have d2:¬ l∈bL es p:=λz=>by
    rw[gi d (m:=p) pb.1 pb.2.1,pb.2.2.1,dP Wc]at z;exact up o i r s1 N.1 ((fO.1 z))
   have O:p≠l:=λz=>U (by rw[← pb.2.2.1,← f.2.2.1,z]);obtain e|e:=C
   .obtain g|g:=k
    .exact O (e.symm.trans g)
    .rw[e]at g;exact d2 g
   .obtain g|g:=k
    .rw[g]at e;exact d1 e
    .obtain w|w|w:=tZ d x0 D e g
     .exact O w
     .exact d1 w
     .exact d2 w
 .subst e;obtain⟨s,hs,B⟩:=l4.1 B;obtain⟨p,n,B⟩:=l4.1 B;obtain⟨s1,s2,p1,p2⟩:=side s hs p n;obtain⟨x0,D,C⟩:=wit s p a s1 s2 p1 p2 B;obtain⟨W,V⟩:=vG h j s1 s2 p1 p2 C x0 D;obtain z|z:=i3.1 M
  .exact W ((li a).1 (xB d j z).1)
  .exact V ((bS h es.length j a z).2.2.elim .inl .inr)
def HH(isAll:CA)(es ss mem:AT)(far near:Bool)(iN:AT)(t:Nat)(r:AT×AT)(k:Nat):Bool:=
 decide ((k:Int)∈iN) || (decide (es.getD k 0∈r.1)&&(isAll (es.getD k 0) || (decide (kD ss mem ((decide (es.getD k 0=t)&&(far || near)) || (decide (es.getD k 0∈r.2)&&far)) (es.getD k 0)=k)&&(decide (es.getD k 0=t) || !decide (es.getD k 0∈iN)))))
def DJ(isAll:CA)(es ss mem:AT)(far near:Bool)(iN:AT)(t:Nat):Nat->AT×AT
 | 0=>([],[])
 | k+1=>if HH isAll es ss mem far near iN t (DJ isAll es ss mem far near iN t k) k=true
   then((DJ isAll es ss mem far near iN t k).1++[(k:Int)],if (k:Int)=t\/es.getD k 0∈(DJ isAll es ss mem far near iN t k).2 then(DJ isAll es ss mem far near iN t k).2++[(k:Int)] else(DJ isAll es ss mem far near iN t k).2)
   else DJ isAll es ss mem far near iN t k
theorem WG{iN:AT}:∀(k:Nat),(∀x∈(DJ isAll es ss mem far near iN t k).1,0<=x/\x<k)/\(∀x∈(DJ isAll es ss mem far near iN t k).2,0<=x/\x<k)/\(DJ isAll es ss mem far near iN t k).1.Pairwise (· < ·)/\(DJ isAll es ss mem far near iN t k).1.length<=k/\(DJ isAll es ss mem far near iN t k).2.length<=k
 | 0=>⟨λx c=>(by cases c),λx c=>(by cases c),List.Pairwise.nil,i5 _,i5 _⟩
 | k+1=>by
  obtain⟨h1,h2,d,i,h⟩:=WG (iN:=iN) k;rw[DJ];split
  .have q:∀{l:AT},(∀x∈l,0<=x/\x<(k:Int))->∀x∈l++[(k:Int)],0<=x/\x<((k+1:Nat):Int):=λ{l} e x c=>by
    obtain z|z:=i3.1 c
    .have:=e x z;lia
    .have:x=(k:Int):=by simpa using z
     lia
   refine⟨q h1,?_,xy.2 ⟨d,rh _ _,λa g b f=>?_⟩,by show(_++[_]).length<=_;rw[kn,sE];lia,?_⟩
   .dsimp only;split
    .exact q h2
    .intro x c;have:=h2 x c;lia
   .have:b=(k:Int):=by simpa using f
    have:=h1 a g;lia
   .dsimp only;split
    .rw[kn,sE];lia
    .lia
  .exact⟨λx c=>(by have:=h1 x c;lia),λx c=>(by have:=h2 x c;lia),d,Wc,Wc⟩
theorem TQ(h:QaI)(c:Qbc)(M:Qcz){iN:AT}(D:∀x,x∈iN↔jg es u t x):∀(k:Nat),k<=es.length->∀x:Nat,x<k →
  (((x:Int)∈(DJ isAll es ss mem far near iN t k).1↔TN aB isAll es ss mem far near u t x)/\((x:Int)∈(DJ isAll es ss mem far near iN t k).2↔(x:Int)∈jP aB isAll es ss mem far es.length near t))
 | 0,_,x,L=>by lia
 | k+1,V,x,L=>by
  have j:=h.pre.1;have v:=TQ h c M D k Wc;obtain⟨b1,b2,b3,_,_⟩:=WG (isAll:=isAll) (es:=es) (ss:=ss) (mem:=mem) (far:=far) (near:=near) (iN:=iN) (t:=t) k;have O:=j k Wc;have b:=λy K=>bS h (far:=far) (near:=near) es.length c y K;have J:es.getD k 0∈(DJ isAll es ss mem far near iN t k).1↔TN aB isAll es ss mem far near u t (es.getD k 0):=by
   by_cases e0:es.getD k 0=-1
   .rw[e0];constructor
    .intro z;have:=b1 _ z;lia
    .rintro(z|z|⟨s,p,f,a,R,F,P,E⟩)
     .have:=jD j c z.1;lia
     .have:=b _ z;lia
     .have pb:=cu h.pre F;have d:∃q:Nat,p=q:=⟨p.toNat,by
       have:=pb.1;lia⟩
      obtain⟨q,rfl⟩:=d;have:=bS h (far:=false) (near:=false) es.length (k:=q) Wc _ E;lia
   .obtain⟨q,d⟩:∃q:Nat,es.getD k 0=q:=⟨(es.getD k 0).toNat,Wc⟩;rw[d];exact(v q Wc).1
  have r:es.getD k 0∈(DJ isAll es ss mem far near iN t k).2↔es.getD k 0∈jP aB isAll es ss mem far es.length near t:=by
   by_cases e0:es.getD k 0=-1
   .rw[e0];constructor
    .intro z;have:=b2 _ z;lia
    .intro z;have:=b _ z;lia
   .obtain⟨q,d⟩:∃q:Nat,es.getD k 0=q:=⟨(es.getD k 0).toNat,Wc⟩;rw[d];exact(v q Wc).2
  have l:HH isAll es ss mem far near iN t (DJ isAll es ss mem far near iN t k) k=true↔TN aB isAll es ss mem far near u t k:=by
   rw[Mf h c k Wc];unfold HH Aj;simp only[Bool.or_eq_true,lx,vu,Bool.not_eq_true',decide_eq_false_iff_not,D,J];have e1:decide (es.getD k 0∈(DJ isAll es ss mem far near iN t k).2)=decide (es.getD k 0∈jP aB isAll es ss mem far es.length near t):=by rw[decide_eq_decide];exact r
   rw[e1,Bool.and_comm (decide (es.getD k 0∈jP aB isAll es ss mem far es.length near t)) far];constructor
   .rintro(z|⟨f,a⟩)
    .exact .inl z
    .by_cases C:jg es u t k
     .exact .inl C
     .exact .inr ⟨f,C,a⟩
   .rintro(z|⟨f,_,a⟩)
    .exact .inl z
    .exact .inr ⟨f,a⟩
  by_cases e:x=k
  .subst e;have n1:(x:Int)∉(DJ isAll es ss mem far near iN t x).1:=λz=>by have:=b1 _ z;lia
   have B:(x:Int)∉(DJ isAll es ss mem far near iN t x).2:=λz=>by have:=b2 _ z;lia
   have i:(x:Int)∈jP aB isAll es ss mem far es.length near t↔(TN aB isAll es ss mem far near u t x/\((x:Int)=t\/es.getD x 0∈jP aB isAll es ss mem far es.length near t)):=by
    constructor
    .intro z;refine⟨.inr (.inl z),?_⟩;rw[jQ h es.length c Wc x Wc]at z;obtain z|z:=z
     .exact .inl Wc
     .exact .inr z.2.1
    .rintro⟨f,a⟩;obtain a|a:=a
     .rw[jQ h es.length c Wc x Wc];exact .inl Wc
     .have N:(t:Int)<=es.getD x 0:=by
       obtain⟨w0,o,n⟩:=b _ a;obtain w|w:=n
       .lia
       .have:=bF j w0 o w;lia
      obtain w|w|⟨s,p,o,n,U,A,H,w6⟩:=f
      .have:=jD j c w.1;lia
      .exact w
      .exfalso;have pb:=cu h.pre A;have d:∃q:Nat,p=q:=⟨p.toNat,by
        have:=pb.1;lia⟩
       obtain⟨q,rfl⟩:=d;obtain⟨v0,v1,v2⟩:=bS h (far:=false) (near:=false) es.length (k:=q) Wc _ w6;obtain⟨_,I⟩:=vG h c o n A H v2 v0 v1;refine I (.inr ?_);obtain⟨T,S,G⟩:=b _ a;rw[gi j (m:=(x:Int)) Wc Wc,ky,dP Wc];obtain y|y:=G
       .rw[y];exact fX
       .exact i8 _ y
   rw[DJ];by_cases g:HH isAll es ss mem far near iN t (DJ isAll es ss mem far near iN t x) x=true
   .rw[dX g];refine⟨⟨λ_=>l.1 g,λ_=>js _ Wm⟩,?_⟩;rw[i];dsimp only;by_cases hd:(x:Int)=t\/es.getD x 0∈(DJ isAll es ss mem far near iN t x).2
    .rw[dX hd];exact⟨λ_=>⟨l.1 g,hd.imp id r.1⟩,λ_=>js _ Wm⟩
    .rw[dP hd];exact⟨λz=>absurd z B,λz=>absurd (z.2.imp id r.2) hd⟩
   .rw[dP g];exact⟨⟨λz=>absurd z n1,λz=>absurd (l.2 z) g⟩,⟨λz=>absurd z B,λz=>absurd (l.2 (i.1 z).1) g⟩⟩
  .have:=v x Wc;rw[DJ];split
   .constructor
    .rw[← this.1];constructor
     .intro z;obtain w|w:=i3.1 z
      .exact w
      .have:(x:Int)=k:=by simpa using w
       lia
     .intro z;exact j1 _ z
    .rw[← this.2];dsimp only;split
     .constructor
      .intro z;obtain w|w:=i3.1 z
       .exact w
       .have:(x:Int)=k:=by simpa using w
        lia
      .intro z;exact j1 _ z
     .exact Iff.rfl
   .exact this
theorem MU(h:QaI)(a:Qbc)(c:TN aB isAll es ss mem far near u t x):0<=x/\x<es.length:=by
 obtain z|z|⟨s,p,i,g,f,b,e,w6⟩:=c
 .have:=jD h.pre.1 a z.1;lia
 .have:=bS h _ a x z;lia
 .have pb:=cu h.pre b;have d:∃q:Nat,p=q:=⟨p.toNat,by
   have:=pb.1;lia⟩
  obtain⟨q,rfl⟩:=d;have:=bS h _ Wc _ w6;lia
theorem acr(h:QaI)(a:Qbc)(b:Qcz){iN:AT}(c:∀x,x∈iN↔jg es u t x):((DJ isAll es ss mem far near iN t es.length).1).Perm (pd aB isAll es ss mem far near u t):=by
 obtain⟨b1,_,b3,_,_⟩:=WG _;refine(List.perm_ext_iff_of_nodup (vH b3) (BJ h a b)).2 λx=>?_;rw[El h a b];constructor
 .intro z;have:=b1 x z;obtain⟨q,rfl⟩:∃q:Nat,x=q:=⟨x.toNat,Wc⟩;exact(TQ h a b c _ Wm q Wc).1.1 z
 .intro z;have:=MU h a z;obtain⟨q,rfl⟩:∃q:Nat,x=q:=⟨x.toNat,Wc⟩;exact(TQ h a b c _ Wm q Wc).1.2 z
theorem Ak{α:Type}{f:α->AT}{c:Nat}:∀{l:Q3},(∀x∈l,(f x).length<=c)->(l.flatMap f).length<=l.length*c
 | [],_=>by simp
 | x::l,h=>by
  rw[sv,kn,lr];have:=Ak λy a=>h y (i8 _ a);have:=h x fX;lia
variable{α:Type}
theorem YY(l:Q3):cutD l none (some (-1))=l.dropLast:=by
 unfold cutD;have e1:HT.Il l.length 0 none=0:=rfl;have e2:HT.Il l.length l.length (some (-1))=l.length-1:=by
  unfold HT.Il;lia
 rw[e1,e2,List.drop_zero,Nat.sub_zero,List.dropLast_eq_take]
def Mg(h:cA ks x=true):av ks x=false:=by
 have h:=ko h;unfold av;rw[h];rfl
theorem YZ{ch some:AT}(h:fj es)(q:es.length=n)(p:0<n)(hm:mem.length=n)(s:ch.length=n)(l:∀k:Nat,k<n->ks.getD k Str.empty="one"->ch.getD k 0∈jo es k)
  (hs:∀x∈some,x∈iH Q1 es ch (n-1)):TH QaD es some mem (iH Q1 es ch (n-1))=YW QaD ch mem some:=by
 have d:∀m∈iH Q1 es ch (n-1),0<=m/\m<n:=λm a=>by
  have:=jO _ a;lia
 have b:∀m∈some,0<=m/\m<mem.length:=λm a=>by
  have:=d m (hs m a);lia
 have key:∀m∈iH Q1 es ch (n-1),∀e,es.getD m.toNat 0=e->cA ks e=true->0<=e->ch.getD e.toNat 0=m:=λm a e he f e0=>by
  have r:=d m a;obtain⟨k,rfl⟩:∃k:Nat,m=k:=⟨m.toNat,Wc⟩;rw[ky]at he;rcases(t7 h (n-1) (k:=k) Wc Wc).1 a with z|⟨_,z⟩
  .subst z;have:=h 0 Wc;lia
  .rw[he]at z;obtain z|z:=z
   .rw[Mg f]at z;cases z
   .exact z
 apply acn
 .rw[Ek,FY]
 .intro i hi;rw[Ek]at hi;rw[Mb some mem b i hi];have h1:=X2 (bY:=λx=>cA ks x&&decide (0<=x)) (es:=es) (gj:=some) (ch:=ch) (iH Q1 es ch (n-1)) mem (λm a e he f=>by
   rw[lx,vu]at f;exact key m a e he f.1 f.2) b i hi
  have h2:TH (λx=>cA ks x&&decide (0<=x)) es some mem (iH Q1 es ch (n-1))=TH QaD es some mem (iH Q1 es ch (n-1)):=by
   unfold TH;congr 1;funext acc m;unfold t6;by_cases j:es.getD m.toNat 0∈some
   .have:=b _ j;simp only[ml this.1,xI]
   .rw[dP (λz=>j z.1),dP (λz=>j z.1)]
  rw[← h2,h1];by_cases c:(i:Int)∈some/\cA ks i=true
  .rw[dX c,dX ?_];refine⟨c.1,by rw[c.2,ml Wc];rfl,?_⟩;have g:=xx (l i Wc (by have:=ko c.2;rwa [ky]at this));obtain⟨k,o⟩:∃k:Nat,ch.getD i 0=k:=⟨(ch.getD i 0).toNat,Wc⟩;rw[o]at g;rw[ky]at g;refine⟨(k:Int),(t7 h (n-1) (k:=k) Wc Wc).2 (.inr ⟨by rw[g.2.2];exact hs _ c.1,.inr (by rw[g.2.2,ky,o])⟩),by rw[ky];exact g.2.2⟩
  .rw[dP c,dP (λz=>c ⟨z.1,by have:=z.2.1;rw[lx]at this;exact this.1⟩)]
theorem WH{isAll:CA}{es ss mem:AT}:∀j,F0 isAll es ss mem false false 0 j=iH isAll es ss j
 | 0=>rfl
 | j+1=>by
  rw[F0,WH j];have e:0+1+j=j+1:=by lia
  rw[e];rfl
def F3(bY:CA)(es ch:AT):Prop:=∀k:Nat,k<es.length->bY k=true->ch.getD k 0∈jo es k
def Mh(aB bY isAll:CA)(es:AT):Prop:=∀k:Nat,k<es.length->(aB k=true/\bY k=false/\isAll k=false/\jo es k=[])\/(aB k=false/\bY k=true/\isAll k=false)\/(aB k=false/\bY k=false/\isAll k=true)
section
variable{ch:AT}
theorem WK(b:fj es):∀(f:Nat) {t e:Int},0<=t->t<es.length->t<f->e∈bL es t->∃y:Int,(y=t\/y∈bL es t)/\0<=y/\y<es.length/\es.getD y.toNat 0=e
 | 0,t,e,h0,_,hf,_=>by lia
 | f+1,t,e,h0,h1,hf,he=>by
  have a:=gi b h0 h1;have i:=b.at h0 h1;by_cases e1:es.getD t.toNat 0=-1
  .rw[a,dX e1]at he;cases he
  .rw[dP e1]at a;rw[a]at he;obtain z|z:=fO.1 he
   .exact⟨t,.inl rfl,h0,h1,z.symm⟩
   .obtain⟨y,h,g,d,c⟩:=WK b f Wc Wc Wc z;refine⟨y,.inr ?_,g,d,c⟩;rw[a];obtain z|z:=h
    .exact z▸fX
    .exact i8 _ z
theorem Y0(h:fj es){t:Int}(t0:0<=t)(t1:Qbc)(x0:0<=x)(e:x<es.length)(d:0<=y)(b:y<es.length)(he:es.getD x.toNat 0=es.getD y.toNat 0)(g:x=t\/x∈bL es t)(f:y=t\/y∈bL es t):x=y:=by
 have no:∀a c:Int,0<=a->a<es.length->0<=c->c<es.length->es.getD a.toNat 0=es.getD c.toNat 0->¬ a∈bL es c:=λa c i a1 c0 c1 j hm=>by
  have k:=h.at i a1;rw[gi h c0 c1]at hm;by_cases e1:es.getD c.toNat 0=-1
  .rw[dX e1]at hm;cases hm
  .rw[dP e1]at hm;obtain z|z:=fO.1 hm
   .lia
   .have:=bF h Wc Wc z;lia
 obtain rfl|g:=g<;>obtain rfl|f:=f
 .rfl
 .exact absurd f (no _ _ d b x0 e he.symm)
 .exact absurd g (no _ _ x0 e d b he)
 .obtain z|z|z:=tZ h t0 t1 g f
  .exact z
  .exact absurd z (no _ _ x0 e d b he)
  .exact absurd z (no _ _ d b x0 e he.symm)
theorem yP(h:nh es):∀(f t:Nat),t<f->t<es.length->t=0\/(0:Int)∈bL es t
 | 0,t,hf,_=>by lia
 | f+1,t,hf,b=>by
  by_cases e:t=0
  .exact .inl e
  .obtain⟨s,rfl⟩:∃s,t=s+1:=⟨t-1,Wc⟩;have d:=h.1 _ b;have h2:0<=es.getD (s+1) 0:=by
    obtain z|z:=h.2 s b
    .lia
    .have:=bF h.1 Wc Wc z;lia
   have c:=gi h.1 (m:=((s+1:Nat))) Wc Wc;rw[ky]at c;refine .inr ?_;rw[c];obtain⟨q,a⟩:∃q:Nat,es.getD (s+1) 0=q:=⟨(es.getD (s+1) 0).toNat,Wc⟩;rw[a];obtain z|z:=yP h f q Wc Wc
   .rw[z];simp
   simp_all
def Al(es:AT)(u x:Int):Prop:=u=-1\/u∈bL es x
def Mi(c:fj es)(x0:0<=x)(a:x<es.length)(b:y∈bL es x)(d:Al es u y):Al es u x:=by
 obtain z|z:=d
 .exact .inl z
 .exact .inr (lW c x0 a b z)
def F4(b:Qcz)(a:jg es u t x):Al es u x:=by
 obtain rfl|z:=a
 .exact b
 .exact z.2
theorem Am(h:QaI)(f:Qbc)(c:Qcz)(i:TN aB isAll es ss mem far near u t x):Al es u x:=by
 have a:=h.pre.1;obtain z|z|⟨s,p,hs,_,_,e,_,z⟩:=i
 .exact F4 c z.1
 .obtain⟨x0,d,y⟩:=bS h _ f x z;obtain rfl|y:=y
  .exact c
  .exact Mi a x0 d y c
 .have b:=cu h.pre e;have j:=jD a f hs;obtain⟨q,rfl⟩:∃q:Nat,p=q:=⟨p.toNat,Wc⟩;have g:=Mi a b.1 b.2.1 (b.2.2.1▸Ks a b.1 b.2.1 Wc) (F4 c hs);obtain⟨x0,d,y⟩:=bS h _ Wc x z;obtain rfl|y:=y
  .exact g
  .exact Mi a x0 d y g
theorem EW(X:Mh aB bY isAll es)(hc:F3 bY es ch)(h:QaI)(p:Qbc)
  (O:u=-1\/(u∈bL es t/\bY u=true/\u∈iH isAll es ch Qac)) :
  ∃M:AT,M.length=es.length/\F3 bY es M ∧
   (iH isAll es M Qac).Perm ((iH isAll es ch Qac).filter (λx=>!(decide (u=-1) || decide (u∈bL es x)))++pd aB isAll es ss mem far near u t)/\(t:Int)∈iH isAll es M Qac:=by
 classical
 have n:=h.pre.1;have hn:0<es.length:=by lia
 have d:u=-1\/u∈bL es t:=O.imp id (·.1);have F:∀e:Int,∃y:Int,e∈bL es t->(y=t\/y∈bL es t)/\0<=y/\y<es.length/\es.getD y.toNat 0=e:=λe=>by
  by_cases z:e∈bL es t
  .obtain⟨y,hy⟩:=WK n (t+1) (t:=(t:Int)) Wc Wc Wc z;exact⟨y,λ_=>hy⟩
  .exact⟨0,λy=>absurd y z⟩
 obtain⟨st,F⟩:∃st:Int->Int,∀e:Int,e∈bL es t->(st e=t\/st e∈bL es t)/\0<=st e/\st e<es.length/\es.getD (st e).toNat 0=e:=⟨λe=>Classical.choose (F e),λe=>Classical.choose_spec (F e)⟩
 let D:Int->Bool:=λe=>(decide (e=t)&&(far || near)) || (far&&decide (e∈jP aB isAll es ss mem far es.length near t))
 let c:Nat->Int:=λk=>if (k:Int)=u\/(jg es u t k/\(k:Int)≠t) then st k else if Al es u k then kD ss mem (D k) k else ch.getD k 0
 have Fy:∀k:Nat,k<es.length->((List.range es.length).map c).getD k 0=c k:=λk o=>by
  rw[lj,ll,oD o];rfl
 have L:∀e:Int,jg es u t e->TN aB isAll es ss mem far near u t e:=λe he=>by
  have Y:=jD n p he;obtain⟨q,rfl⟩:∃q:Nat,e=q:=⟨e.toNat,Wc⟩;exact(Mf h p q Wc).2 (.inl he)
 let N:Int->Prop:=λx=>(x∈iH isAll es ch Qac/\¬ Al es u x)\/TN aB isAll es ss mem far near u t x
 have K:∀x,N x->0<=x/\x<es.length:=λx hx=>by
  obtain z|z:=hx
  .have:=jO _ z.1;lia
  .exact MU h p z
 have hN:∀k:Nat,k<es.length->(N k↔(k=0\/(N (es.getD k 0)/\(isAll (es.getD k 0)=true\/c (es.getD k 0).toNat=(k:Int))))):=by
  intro k o;have J:=n k o;have l:=gi n (m:=(k:Int)) Wc Wc;rw[ky]at l;by_cases k0:k=0
  .subst k0;rw[dX Wc]at l;refine⟨λ_=>.inl rfl,λ_=>?_⟩;obtain z|z:=O
   .refine .inr (L _ ?_);obtain y|y:=yP h.pre (t+1) t Wc p
    .exact .inl Wc
    .exact .inr ⟨y,.inl z⟩
   .refine .inl ⟨(t7 n Qac (k:=0) Wc Wc).2 Qae,?_⟩;rintro(y|y)
    .have:=jO _ z.2.2;lia
    .rw[l]at y;cases y
  .have e0:es.getD k 0 ≠ -1:=by
    obtain y|y:=yP h.pre (k+1) k Wc o
    .exact absurd y k0
    .intro z;rw[l,dX z]at y;cases y
   rw[dP e0]at l;have T:=t7 (isAll:=isAll) (ch:=ch) n Qac (k:=k) Wc Wc;have U:=Mf (far:=far) (near:=near) (u:=u) h p k o;obtain⟨e,he⟩:∃e:Nat,es.getD k 0=e:=⟨(es.getD k 0).toNat,Wc⟩;rw[he]at l T U J ⊢;rw[ky]at T ⊢;have V:e<es.length:=by lia
   have eb:Al es u e->Al es u k:=λz=>Mi n Wc Wc (by rw[l];exact fX) z;have self:∀x:Int,0<=x->x<es.length->¬ x∈bL es x:=λx a0 a1 z=>by
    have:=bF n a0 a1 z;lia
   have B:(e:Int)∈bL es t->(st e=k↔((k:Int)=t\/(k:Int)∈bL es t)):=λz=>by
    obtain⟨s1,s2,s3,s4⟩:=F e z;constructor
    .intro y;rw[← y];exact s1
    .intro y;exact Y0 n (t:=(t:Int)) Wc Wc s2 s3 Wc Wc (by rw[s4,ky,he]) s1 y
   by_cases v:Al es u k
   .by_cases i:(e:Int)=u
    .have g:=O.resolve_left Wc;rw[← i]at g;have I:¬ Al es u e:=by
      rintro(z|z)
      .lia
      .rw[i]at z;exact self u Wc Wc z
     have P:¬ isAll e=true:=λz=>by
      obtain y|y|y:=X e V
      .rw[y.2.1]at g;cases g.2.1
      .rw[y.2.2]at z;cases z
      .rw[y.2.1]at g;cases g.2.1
     have j:c e=st e:=dX (.inl i);rw[j];have R:¬ TN aB isAll es ss mem far near u t e:=λz=>I (Am h p d z);constructor
     .rintro(z|z)
      .exact absurd v z.2
      .obtain y|y:=U.1 z
       .refine .inr ⟨.inl ⟨g.2.2,I⟩,.inr ((B g.1).2 ?_)⟩;obtain y|y:=y
        .exact .inl y
        .exact .inr y.1
       .exact absurd y.1 R
     .rintro(z|⟨_,z|z⟩)
      .exact absurd z k0
      .exact absurd z P
      .refine .inr (L _ ?_);rcases(B g.1).1 z with y|y
       .exact .inl y
       .exact .inr ⟨y,v⟩
    .have s:Al es u e:=by
      obtain z|z:=v
      .exact .inl z
      .rw[l]at z;obtain y|y:=fO.1 z
       .exact absurd y.symm i
       .exact .inr y
     have W:N k↔TN aB isAll es ss mem far near u t k:=⟨λz=>z.resolve_left (λy=>y.2 v),.inr⟩;have L2:N e↔TN aB isAll es ss mem far near u t e:=⟨λz=>z.resolve_left (λy=>y.2 s),.inr⟩;rw[W,L2,U];by_cases r:jg es u t e/\(e:Int)≠t
     .have j:c e=st e:=dX (.inr r);rw[j];have het:(e:Int)∈bL es t:=by
       obtain y|y:=r.1
       .exact absurd y r.2
       .exact y.1
      have hm:Aj aB isAll es ss mem far near u t e k↔isAll e=true:=by
       unfold Aj;constructor
       .rintro(z|z)
        .exact z
        .obtain y|y:=z.2
         .exact absurd y r.2
         .exact absurd r.1 y
       .exact .inl
      rw[hm,B het];constructor
      .rintro(z|z)
       .refine .inr ⟨L _ r.1,.inr ?_⟩;obtain y|y:=z
        .exact .inl y
        .exact .inr y.1
       .exact .inr ⟨z.1,.inl z.2.2⟩
      .rintro(z|⟨z1,E⟩)
       .exact absurd z k0
       .by_cases C:jg es u t k
        .exact .inl C
        .obtain E|E:=E
         .exact .inr ⟨z1,C,E⟩
         .refine absurd ?_ C;obtain y|y:=E
          .exact .inl y
          .exact .inr ⟨y,v⟩
     .have j:c e=kD ss mem (D e) e:=by
       show QeI=_;rw[dP (λz=>z.elim i r),dX s]
      rw[j];have H:¬ jg es u t k:=by
       rintro(z|z)
       .refine r ⟨.inr ⟨?_,s⟩,Wc⟩;rw[← z,l];exact fX
       .have:=bF n (m:=(t:Int)) Wc Wc z.1;exact r ⟨.inr ⟨lW n Wc Wc z.1 (by rw[l];exact fX),s⟩,Wc⟩
      have hm:Aj aB isAll es ss mem far near u t e k↔(isAll e=true\/kD ss mem (D e) e=k):=by
       have:(e:Int)=t\/¬ jg es u t e:=by
        by_cases y:(e:Int)=t
        .exact .inl y
        .exact .inr (λw=>r ⟨w,y⟩)
       unfold Aj;constructor
       .rintro(z|z)
        .exact .inl z
        .exact .inr z.1
       .rintro(z|z)
        .exact .inl z
        .exact .inr ⟨z,this⟩
      rw[hm];constructor
      .rintro(z|z)
       .exact absurd z H
       .exact .inr ⟨z.1,z.2.2⟩
      .rintro(z|z)
       .exact absurd z k0
       .exact .inr ⟨z.1,H,z.2⟩
   .have A:¬ Al es u e:=λz=>v (eb z);have i:(e:Int)≠u:=λz=>v (.inr (by rw[l,z];exact fX));have j:c e=ch.getD e 0:=by
     show QeI=_;rw[dP (λz=>z.elim i (λy=>A (F4 d y.1))),dP A]
    rw[j];have W:N k↔(k:Int)∈iH isAll es ch Qac:=⟨λz=>z.elim (·.1) (λy=>absurd (Am h p d y) v),λz=>.inl ⟨z,v⟩⟩;have L2:N e↔(e:Int)∈iH isAll es ch Qac:=⟨λz=>z.elim (·.1) (λy=>absurd (Am h p d y) A),λz=>.inl ⟨z,A⟩⟩;rw[W,L2];exact T
 have IE:∀x,x∈iH isAll es ((List.range es.length).map c) Qac↔N x:=by
  have key:∀(f k:Nat),k<f->k<es.length->((k:Int)∈iH isAll es ((List.range es.length).map c) Qac↔N k):=by
   intro f
   induction f with
   | zero=>intro k h;lia
   | succ f ih=>
    intro k aa o;rw[t7 n Qac Wc Wc,hN k o];have J:=n k o;by_cases e:es.getD k 0=-1
    .rw[e];constructor
     .rintro(z|z)
      .exact .inl z
      .have:=jO _ z.1;lia
     .rintro(z|z)
      .exact .inl z
      .have:=K _ z.1;lia
    .obtain⟨q,l⟩:∃q:Nat,es.getD k 0=q:=⟨(es.getD k 0).toNat,Wc⟩;rw[l,ih q Wc Wc,ky,Fy q Wc]
  intro x;constructor
  .intro z;have:=jO _ z;obtain⟨q,rfl⟩:∃q:Nat,x=q:=⟨x.toNat,Wc⟩;exact(key (q+1) q Wc Wc).1 z
  .intro z;have:=K _ z;obtain⟨q,rfl⟩:∃q:Nat,x=q:=⟨x.toNat,Wc⟩;exact(key (q+1) q Wc Wc).2 z
 have Z:∀x:Int,((!(decide (u=-1) || decide (u∈bL es x)))=true↔¬ Al es u x):=λx=>by
  unfold Al;simp
 refine⟨(List.range es.length).map c,Wm,λk o G=>?_,?_,(IE _).2 (.inr (L _ Qae))⟩
 .rw[Fy k o];show(if (k:Int)=u\/(jg es u t k/\(k:Int)≠t) then st k else if Al es u k then kD ss mem (D k) k else ch.getD k 0)∈_;by_cases z:(k:Int)=u\/(jg es u t k/\(k:Int)≠t)
  .rw[dX z];have S:(k:Int)∈bL es t:=by
    obtain y|y:=z
    .rw[y];exact d.resolve_left Wc
    .exact(y.1.resolve_left y.2).1
   obtain⟨_,s2,s3,s4⟩:=F k S;exact Ma s2 s3 s4
  .rw[dP z];by_cases y:Al es u k
   .rw[dX y];obtain w|w|w:=X k o
    .rw[w.2.1]at G;cases G
    .exact WB h o w.1 w.2.2
    .rw[w.2.1]at G;cases G
   .rw[dP y];exact hc k o G
 .refine(List.perm_ext_iff_of_nodup (vH (j7 _)) ?_).2 λx=>?_
  .rw[la];refine⟨IS _ (vH (j7 _)),BJ h p d,λa ha b Y PJ=>?_⟩;subst PJ;exact(Z a).1 (k3.1 ha).2 (Am h p d ((El h p d a).1 Y))
  .rw[IE,i3,k3,El h p d,Z]
end
abbrev G1:=AT×AT×AT
inductive J where
 | out (m:Int)|SG (m:Int)|keep (m p q:Int)|put (x p q:Int)|Wn (w:Str) (ds:BA)
noncomputable def J.w:J->Str
 | .out _=>"out"
 | .SG _=>"in"
 | .keep _ _ _=>"keep"
 | .put _ _ _=>"put"
 | .Wn w _=>w
noncomputable def J.ds:J->BA
 | .out m=>[.int m]
 | .SG m=>[.int m]
 | .keep m p q=>[.int m,.int p,.int q]
 | .put x p q=>[.int x,.int p,.int q]
 | .Wn _ ds=>ds
def J.d(r:J):D:=.tup (.str r.w::r.ds)
def Ia:At:=["sign","way","call","say","rest"]
def RE(d:D):Prop:=(∃i,d=.int i)\/∃x,d=.str x
def J.ok(s:G1):J->Prop
 | .keep m _ _=>0<=m/\m<s.2.1.length
 | .put x _ _=>0<=x/\x<s.2.2.length
 | .Wn w ds=>w∈Ia/\ds.length<=3/\∀d∈ds,RE d
 | _=>True
noncomputable def Mj(back:Bool)(r:J)(bs:AT):AT:=match r with
 | .put x p q=>bs.set x.toNat (if back then p else q)
 | _=>bs
def Right(n:Nat)(s:G1):J->Prop
 | .out m=>m∈s.1
 | .SG m=>m∉s.1/\0<=m/\m<n
 | .keep m p _=>0<=m/\m<s.2.1.length/\s.2.1.getD m.toNat 0=p
 | .put x p _=>0<=x/\x<s.2.2.length/\s.2.2.getD x.toNat 0=p
 | .Wn w ds=>w∈Ia/\ds.length<=3/\∀d∈ds,RE d
theorem Right.ok{s:G1}{r:J}(h:Right n s r):r.ok s:=by
 cases r with
 | out m=>trivial
 | SG m=>trivial
 | keep m p q=>exact⟨h.1,h.2.1⟩
 | put m p q=>exact⟨h.1,h.2.1⟩
 | Wn w ds=>exact h
theorem X0{n:Nat}:∀{l:AT} {lo:Int},l.Pairwise (· < ·)->(∀x∈l,lo<=x/\x<n)->0<=lo->l.length<=((n:Int)-lo).toNat
 | [],_,_,_,_=>kr _
 | y::l,lo,c,b,h0=>by
  have d:=b y Wm;obtain⟨h1,h2⟩:=l7.1 c;have:=X0 (lo:=y+1) h2 (λx a=>⟨by have:=h1 x a;lia,(b x (i8 _ a)).2⟩) Wc;simp;lia
theorem F5(h:l.Pairwise (· <= ·))(nd:l.Nodup):l.Pairwise (· < ·):=by
 induction l with
 | nil=>exact .nil
 | cons y l c=>
  obtain⟨h1,h2⟩:=l7.1 h;obtain⟨n1,b⟩:=nk.1 nd;refine l7.2 ⟨λx a=>?_,c h2 b⟩;have:=h1 x a;have:y≠x:=λe=>n1 (e▸a);lia
theorem acu(h:l.Pairwise (· < ·)):l.Nodup:=h.imp Wc
theorem aqj(h:l.Pairwise (· < ·)):l.Pairwise (· <= ·):=h.imp λh=>by lia
noncomputable def J.aqk:J->Bool
 | .put _ _ _=>true
 | _=>false
def alQ{w:Str}(h:w∈Ia):¬ w="put" /\ ¬ w="keep" /\ ¬ w="in" /\ ¬ w="out":=by
 have:∀w∈Ia,¬ w="put" /\ ¬ w="keep" /\ ¬ w="in" /\ ¬ w="out":=by decide +kernel
 exact this w h
theorem auJ{s:G1}{r:J}(h:r.ok s):decide (r.w="put")=r.aqk:=by
 cases r with
 | Wn w ds=>exact mn (alQ h.1).1
 | _=>first|exact decide_eq_true rfl|(apply decide_eq_false;dsimp [J.w];decide +kernel)
def auK(r:J):vf (D.str r.w::r.ds) 0=some (.str r.w):=dQ rfl
def acv(back:Bool)(r:J)(l:AT):(Mj back r l).length=l.length:=by
 cases r<;>first|rfl|exact n3
noncomputable def g7(bs nm:BA)(tr:D)(is os ws:BA):D:=.ins "Chart" [("boxes",.lst bs),("names",.lst nm),("tree",tr),("ins",.lst is),("outs",.lst os),("ways",.lst ws)]
variable{bs nm is os ws:BA}{tr:D}
def Df:List.lookup ("boxes":Str) [(("boxes":Str),D.lst bs),("names",.lst nm),("tree",tr),("ins",.lst is),("outs",.lst os),("ways",.lst ws)]=some (.lst bs):=Ly
def Dg:List.lookup ("names":Str) [(("boxes":Str),D.lst bs),("names",.lst nm),("tree",tr),("ins",.lst is),("outs",.lst os),("ways",.lst ws)]=some (.lst nm):=rfl
def fM:List.lookup ("tree":Str) [(("boxes":Str),D.lst bs),("names",.lst nm),("tree",tr),("ins",.lst is),("outs",.lst os),("ways",.lst ws)]=some tr:=rfl
def Kv:List.lookup ("ins":Str) [(("boxes":Str),D.lst bs),("names",.lst nm),("tree",tr),("ins",.lst is),("outs",.lst os),("ways",.lst ws)]=some (.lst is):=rfl
def F6:List.lookup ("outs":Str) [(("boxes":Str),D.lst bs),("names",.lst nm),("tree",tr),("ins",.lst is),("outs",.lst os),("ways",.lst ws)]=some (.lst os):=rfl
def gQ:List.lookup ("ways":Str) [(("boxes":Str),D.lst bs),("names",.lst nm),("tree",tr),("ins",.lst is),("outs",.lst os),("ways",.lst ws)]=some (.lst ws):=rfl
noncomputable def F7(bs nm:BA):BN:=[("boxes",.lst (bs.map T.sh)),("names",.lst (nm.map T.sh))]
noncomputable def F8(is os ws:BA):BN:=[("ins",.lst (is.map T.sh)),("outs",.lst (os.map T.sh)),("ways",.lst (ws.map T.sh))]
def BK(bs nm:BA)(t:T)(is os ws:BA):BN:=F7 bs nm++(("tree":Str),t)::F8 is os ws
def TV(bs nm:BA)(t:T)(is os ws:BA):T.fB (.ins "Chart" (BK bs nm t is os ws))=g7 bs nm t.fB is os ws:=by
 unfold BK F7 F8;rw[n4,n4,pX,T.fB,T.vd,T.vd,T.vd,T.vd,T.vd,T.vd,cz,cz,cz,cz,cz];rfl
def dR{ds:BA}(h:QbE):(T.lst QaP).clean=true:=by
 rw[w9]
 induction ds with
 | nil=>rfl
 | cons d ds a=>
  rw[D.bP,lx]at h;rw[kx,T.cW,a h.2,T.clean,h.1];rfl
def Ml(h1:D.bP bs=true)(h2:D.bP nm=true):T.fV (F7 bs nm)=true:=by
 unfold F7;rw[T.fV,T.fV,dR h1,dR h2];rfl
def Mm(h1:D.bP is=true)(h2:D.bP os=true)(a:D.bP ws=true):T.fV (F8 is os ws)=true:=by
 unfold F8;rw[T.fV,T.fV,T.fV,dR h1,dR h2,dR a];rfl
noncomputable def An(p:Str×Int):D:=.tup [.str p.1,.int p.2]
def agB{l:Q3}{f:α->D}{g:D->T}{h:α->T}(e:∀a∈l,g (f a)=h a):T.lst (((l.map f).filter λ_=>true).map g)=T.lst (l.map h):=by
 rw[qH,kq];exact congrArg _ (oC e)
structure bT where
 src:Int
 sign:Str
 asks:BA
 Dh:BA
 ka:Int
 mode:Str
def iS(w:bT):D:=.tup [.int w.src,.str w.sign,.tup w.asks,.tup w.Dh,.int w.ka,.str w.mode]
noncomputable def w0:bT:=⟨0,Str.empty,[],[],0,Str.empty⟩
def gS(ws:QU)(i:Int):bT:=ws.getD i.toNat w0
theorem t9{ws:QU}{i:Int}(h0:0<=i)(h1:i<ws.length):gS ws i∈ws:=by
 unfold gS;simp_all
def iU(ks:At)(es:AT)(w:bT):Int:=L8 QaD es w.src w.ka
def IU(es:AT)(u x:Int):Bool:=decide (u=-1) || decide (u∈bL es x)
def F9:IU es u x=true↔Al es u x:=by
 unfold IU Al;simp
def yf(es ops:AT)(u:Int):AT:=(ops.filter (λm=>decide (u=-1) || decide (u∈bL es m))).reverse
def Ap(es:AT)(u v:Int):Prop:=u ≠ -1/\v ≠ -1/\u≠v/\u∉bL es v/\v∉bL es u
theorem Ap.symm{v:Int}(h:Ap es u v):Ap es v u:=⟨h.2.1,h.1,λe=>h.2.2.1 e.symm,h.2.2.2.2,h.2.2.2.1⟩
def Kw(b:fj es){v:Int}(x0:0<=x)(a:x<es.length)(ap:Ap es u v)(h:Al es u x):¬ Al es v x:=λk=>by
 have h:=h.resolve_left ap.1;have k:=k.resolve_left ap.2.1;obtain e|e|e:=tZ b x0 a h k
 .exact ap.2.2.1 e
 .exact ap.2.2.2.1 e
 .exact ap.2.2.2.2 e
theorem BL(nd:l.Nodup)(b:∀x∈l,0<=x/\x<n):l.length<=n:=by
 have:=X0 (F5 (oQ l) ((sortI_perm l).nodup_iff.2 nd)) (λx a=>b x (pN.1 a)) Wm;rw[pP]at this;lia
theorem yQ{α:Type}{es:AT}(h:fj es){top:α->Int}{f:α->AT}:∀{gs:Q3},gs.Pairwise (λa c=>Ap es (top a) (top c))->(∀a∈gs,(f a).Nodup/\∀x∈f a,(0<=x/\x<es.length)/\Al es (top a) x) →
  (gs.flatMap f).Nodup/\∀x∈gs.flatMap f,(0<=x/\x<es.length)/\∃a∈gs,Al es (top a) x
 | [],_,_=>⟨Wm,λx b=>by simp at b⟩
 | a::gs,j,hf=>by
  obtain⟨h1,h2⟩:=l7.1 j;obtain⟨i1,i2⟩:=yQ h h2 (λc d=>hf c (i8 _ d));obtain⟨f1,f2⟩:=hf a Wm;refine⟨la.2 ⟨f1,i1,λx b y i e=>?_⟩,λx b=>?_⟩
  .subst e;obtain⟨b1,c,d,g⟩:=i2 x i;exact Kw h b1.1 b1.2 (h1 c d) (f2 x b).2 g
  .obtain b|b:=i3.1 b
   .exact⟨(f2 x b).1,a,fX,(f2 x b).2⟩
   .obtain⟨b1,c,d,g⟩:=i2 x b;exact⟨b1,c,i8 _ d,g⟩
theorem TX{isAll:CA}{es ch:AT}(d:fj es):∀(f:Nat) {x y:Int},x<f->x∈iH isAll es ch Qac->y∈bL es x->y∈iH isAll es ch Qac
 | 0,x,y,hf,b,a=>by
  have:=(jO _ b).1;lia
 | f+1,x,y,hf,b,a=>by
  have i:=jO _ b;by_cases g:es.length=0
  .have e:=List.eq_nil_of_length_eq_zero g;subst e;have x0:x=0:=by simpa [iH] using b
   simp[bL,Ej]at a;lia
  .obtain⟨k,rfl⟩:∃k:Nat,x=k:=⟨x.toNat,Wc⟩;have h:k<es.length:=by lia
   have e:=gi d (m:=(k:Int)) Wc Wc;rw[ky]at e;have j:=d k h;by_cases hz:es.getD k 0=-1
   .rw[e,dX hz]at a;cases a
   .rw[e,dP hz]at a;have c:es.getD k 0∈iH isAll es ch Qac:=by
     rcases(t7 d _ (k:=k) Wc Wc).1 b with z|z
     .lia
     .exact z.1
    obtain rfl|a:=fO.1 a
    .exact c
    .exact TX d f Wc c a
def OV(ks:At)(es ss mem:AT)(w:bT):AT:=pd Qas Q1 es ss mem (eX w.mode) (g6 w.mode) QaO w.ka.toNat
def Goes(ks:At)(es ops:AT)(w:bT):Prop:=(0<=w.ka/\w.ka<es.length)/\(iU ks es w=-1\/(iU ks es w∈bL es w.ka.toNat/\cA ks QaO=true/\iU ks es w∈ops))
variable{ops:AT}
theorem Goes.up{w:bT}(h:Goes ks es ops w):iU ks es w=-1\/iU ks es w∈bL es w.ka.toNat:=h.2.imp id (·.1)
theorem XX(b:dG Qas Q1 es ss mem){w:bT}(h:Goes ks es ops w):(OV ks es ss mem w).Nodup/\∀x∈OV ks es ss mem w,(0<=x/\x<es.length)/\Al es QaO x:=by
 have a:w.ka.toNat<es.length:=by have:=h.1;lia
 refine⟨BJ b a h.up,λx c=>?_⟩;have hi:=(El b a h.up x).1 c;exact⟨MU b a hi,Am b a h.up hi⟩
theorem Ry{ks:At}{es ss mem:AT}(h:Mh Qas QaD Q1 es)(b:dG Qas Q1 es ss mem)(p:0<es.length):∀{gs:QU} {ch:AT},ch.length=es.length->F3 QaD es ch->gs.Pairwise QcK →
  (∀w∈gs,Goes ks es QaX w) →
  ∃f:AT,f.length=es.length/\F3 QaD es f/\(iH Q1 es f Qac).Perm ((iH Q1 es ch Qac).filter QdI++gs.flatMap Qcj)
 | [],ch,g,d,_,_=>⟨ch,g,d,by simp[qH]⟩
 | w::gs,ch,g,d,r,i=>by
  obtain⟨h1,h2⟩:=l7.1 r;have e:=i w fX;have o:w.ka.toNat<es.length:=by have:=e.1;lia
  obtain⟨c1,m,k1,p1,_⟩:=EW (far:=eX w.mode) (near:=g6 w.mode) h d b o e.2;have g1:∀v∈gs,Goes ks es (iH Q1 es c1 Qac) v:=λv hv=>by
   have j:=i v (i8 _ hv);refine⟨j.1,j.2.imp id λz=>⟨z.1,z.2.1,p1.mem_iff.2 (j1 _ (k3.2 ⟨z.2.2,?_⟩))⟩⟩;have ap:=h1 v hv;have e1:¬ (iU ks es w=-1\/iU ks es w∈bL es (iU ks es v)):=λq=>q.elim ap.1 ap.2.2.2.1;simp_all
  obtain⟨s,l,k2,p2⟩:=Ry h b p m k1 h2 g1;refine⟨s,l,k2,p2.trans ?_⟩;have k:=(p1.filter QdI).append_right (gs.flatMap Qcj);refine k.trans ?_;rw[n8,List.filter_filter,sv,← jw];have e1:(pd Qas Q1 es ss mem (eX w.mode) (g6 w.mode) QaO w.ka.toNat).filter QdI=OV ks es ss mem w:=by
   refine List.filter_eq_self.2 λx n=>?_;obtain⟨b1,b2⟩:=(XX b e).2 x n;rw[Bool.not_eq_true',List.any_eq_false];intro v hv q;exact Kw b.pre.1 b1.1 b1.2 (h1 v hv) b2 (F9.1 q)
  have e2:(iH Q1 es ch Qac).filter (λa=>(!(gs.any λw=>IU es QaO a)) && !(decide (iU ks es w=-1) || decide (iU ks es w∈bL es a)))=(iH Q1 es ch Qac).filter (λx=>!((w::gs).any λw=>IU es QaO x)):=by
   refine List.filter_congr λx _=>?_;show((!(gs.any λw=>IU es QaO x)) && !(IU es QaO x))=_;rw[pv,Bool.not_or,Bool.and_comm]
  rw[e1,e2]
def oS(ks:At)(es ops:AT)(gs:QU):AT:=(sortI (gs.flatMap λw=>yf es ops QaO)).reverse
noncomputable def Kx(h:l.Nodup):l.reverse.Nodup:=List.pairwise_reverse.2 (h.imp λh e=>h e.symm)
def vI:x∈yf es ops u↔x∈ops/\Al es u x:=by
 unfold yf Al;simp
variable{gs:QU}
def Em:x∈oS ks es ops gs↔x∈ops/\∃w∈gs,Al es QaO x:=by
 unfold oS;rw[x2,pN,l4];constructor
 .rintro⟨w,hw,a⟩;exact⟨(vI.1 a).1,w,hw,(vI.1 a).2⟩
 .rintro⟨a,w,hw,b⟩;exact⟨w,hw,vI.2 ⟨a,b⟩⟩
def Qm(d:fj es)(e:ops.Pairwise (· < ·))(f:∀x∈ops,0<=x/\x<es.length)(g:gs.Pairwise QcK) :
  (gs.flatMap λw=>yf es ops QaO).Nodup/\(gs.flatMap λw=>yf es ops QaO).length<=es.length:=by
 have h:=yQ d g (λw _=>⟨by
  exact Kx ((acu e).filter _),λx b=>⟨f x (vI.1 b).1,(vI.1 b).2⟩⟩)
 exact⟨h.1,BL h.1 λx b=>(h.2 x b).1⟩
def Ky(b:fj es)(d:ops.Pairwise (· < ·))(e:∀x∈ops,0<=x/\x<es.length)(f:gs.Pairwise QcK):(oS ks es ops gs).Nodup/\(oS ks es ops gs).length<=es.length:=by
 obtain⟨h1,h2⟩:=Qm b d e f;unfold oS;exact⟨Kx ((sortI_perm _).nodup_iff.2 h1),by rw[ti,pP];exact h2⟩
def Kz{a c:AT}(h:a.Perm c):sortI a=sortI c:=zZ ((sortI_perm a).trans h) (oQ a)
def yR(ks:At)(es ss mem:AT)(gs:QU):AT:=sortI (gs.flatMap Qcj)
def Qn(b:dG Qas Q1 es ss mem)(f:gs.Pairwise QcK)(e:∀w∈gs,Goes ks es ops w) :
  (gs.flatMap Qcj).Nodup/\(gs.flatMap Qcj).length<=es.length/\∀x∈gs.flatMap Qcj,(0<=x/\x<es.length)/\∃w∈gs,Al es QaO x:=by
 have h:=yQ b.pre.1 f (λw hw=>XX b (e w hw));exact⟨h.1,BL h.1 λx d=>(h.2 x d).1,h.2⟩
def HU(ks:At)(es ss mem ops:AT)(gs:QU):AT:=sortI (ops.filter (λx=>!decide (x∈oS ks es ops gs))++yR ks es ss mem gs)
theorem Qo{ch:AT}(k:Mh Qas QaD Q1 es)(n:dG Qas Q1 es ss mem)(i:0<es.length)(j:ch.length=es.length)(m:F3 QaD es ch)
  (o:gs.Pairwise QcK) (l:∀w∈gs,Goes ks es QaX w) :
  ∃d:AT,d.length=es.length/\F3 QaD es d/\HU ks es ss mem QaX gs=iH Q1 es d Qac/\((iH Q1 es ch Qac).filter (λx=>!decide (x∈oS ks es QaX gs))++yR ks es ss mem gs).length<=es.length:=by
 obtain⟨f,g,k2,p2⟩:=Ry k n i j m o l;have e1:(iH Q1 es ch Qac).filter (λx=>!decide (x∈oS ks es QaX gs))=(iH Q1 es ch Qac).filter QdI:=by
  refine List.filter_congr λx h=>?_;congr 1;rw[FK,decide_eq_true_iff,Em,List.any_eq_true];constructor
  .rintro⟨_,w,hw,b⟩;exact⟨w,hw,F9.2 b⟩
  .rintro⟨w,hw,b⟩;exact⟨h,w,hw,F9.1 b⟩
 have e:((iH _ es ch _).filter _++yR ks es ss _ gs).Perm _:=e1▸(tc _ (sortI_perm _)).trans p2.symm;refine⟨f,g,k2,?_,?_⟩
 .unfold HU;exact Kz e▸abp (aqj (j7 _))
 .rw[e.length_eq];have:=Ag (isAll:=av ks) (es:=es) (ch:=f) Qac;lia
def oU(ws:QU)(i:Int):Bool:=!decide ((gS ws i).ka=-1)
def q8(ws:QU)(some:AT):List bT:=(some.filter (oU ws)).map (gS ws)
theorem rg{β:Type}{f:α->List β}(l:Q3)(j:Nat):((l.take j).flatMap f).length<=(l.flatMap f).length:=by
 have h2:=Fn j l
 conv=>rhs;rw[← h2]
 rw[FV,kn];lia
theorem BO{α:Type}{f:α->AT}:∀l:List α,(l.flatMap λa=>sortI (f a)).Perm (l.flatMap f)
 | []=>.refl _
 | a::l=>(sortI_perm _).append (BO l)
def yn(n:Nat)(w:bT):Prop:=(0<=w.src/\w.src<n)/\(w.ka=-1\/(0<=w.ka/\w.ka<n))/\t8 w.mode/\w.Dh.length<=2/\D.bP w.Dh=true/\D.bP w.asks=true
def KC(es:AT)(m:Int)(w:bT):Bool:=(!decide (w.mode="new")&&decide (w.ka=m)) || (decide (w.mode="far")&&(decide (w.ka=-1) || decide (w.ka∈bL es m)))
def lM(ks:At)(es:AT)(ws:QU)(m:Int):Bool:=cA ks m&&ws.any (KC es m)
abbrev _root_.ES:=List BA
noncomputable def inR(is:ES)(a:AT):BA:=a.flatMap λm=>D.tup [.str "in",.int m]::is.getD m.toNat []
def ua(is:ES):Prop:=∀l∈is,l.length<=2/\D.bP l=true
noncomputable def Mp(DK:CA)(os:ES)(mem bh gone:AT):BA:=gone.flatMap λm=>D.tup [.str "out",.int m]::(QeK++os.getD m.toNat [])
def Mq(ws:QU)(some:AT):BA:=some.flatMap λi=>D.tup [.str "way",.int i]::(gS ws i).Dh
theorem ua.get{is:ES}(h:ua is)(k:Nat):(is.getD k []).length<=2/\D.bP (is.getD k [])=true:=by
 by_cases a:k<is.length
 .rw[lj,l9 a];exact h _ Wm
 .rw[lj,v3 Wc];exact⟨Wm,rfl⟩
theorem xC{α β:Type}{f:α->List β}{c:Nat}:∀l:List α,(∀a∈l,(f a).length<=c)->(l.flatMap f).length<=c*l.length
 | [],_=>by simp
 | a::l,h=>by
  have h1:=h a fX;have h2:=xC l (λb d=>h b (i8 _ d));rw[sv,kn,lr];lia
def BP{f:α->BA}{l:Q3}(h:∀a∈l,D.bP (f a)=true):D.bP (l.flatMap f)=true:=iK λd hd=>by
 obtain⟨a,b,hd⟩:=l4.1 hd;exact gY (h a b) d hd
def Qp{a c:BA}(h1:D.bP a=true)(h2:D.bP c=true):D.bP (a++c)=true:=iK λd hd=>(i3.1 hd).elim (gY h1 d) (gY h2 d)
theorem Mr{DK:CA}{os:ES}{bh:AT}(h:ua os)(gone:AT):(Mp DK os mem bh gone).length<=4*gone.length/\D.bP (Mp DK os mem bh gone)=true:=by
 refine⟨xC _ λm _=>?_,BP λm _=>?_⟩
 .have:=(h.get m.toNat).1;have h1:(if DK m=true then [D.tup [.str "keep",.int m,.int (mem.getD m.toNat 0),.int (bh.getD m.toNat 0)]] else []).length<=1:=by split<;>simp
  rw[lr,kn];lia
 .refine Qp ?_ (h.get _).2;split<;>rfl
theorem Ga{is:ES}(h:ua is)(a:AT):(inR is a).length<=3*a.length/\D.bP (inR is a)=true:=by
 refine⟨xC _ λm _=>?_,BP λm _=>?_⟩
 .have:=(h.get m.toNat).1;simp_all
 .exact(h.get _).2
theorem Ms{ws:QU}{some:AT}(h:∀i∈some,yn n Qbk):(Mq ws some).length<=3*some.length/\D.bP (Mq ws some)=true:=by
 refine⟨xC _ λm hm=>?_,BP λm hm=>?_⟩
 .have:=(h m hm).2.2.2.1;simp;lia
 .exact(h m hm).2.2.2.2.1
def Y3(DK:CA)(os:ES)(mem bh gone:AT)(m:Int):Mp DK os mem bh (gone++[m])=Mp DK os mem bh gone++(D.tup [.str "out",.int m]::(QeK++os.getD m.toNat [])):=by
 unfold Mp;simp
def Y4(ws:QU)(some:AT)(i:Int):Mq ws (some++[i])=Mq ws some++(D.tup [.str "way",.int i]::(gS ws i).Dh):=by
 unfold Mq;simp
def acy(is:ES)(a:AT)(m:Int):inR is (a++[m])=inR is a++(D.tup [.str "in",.int m]::is.getD m.toNat []):=by
 unfold inR;simp
def Y5(ks:At)(es:AT)(ws:QU)(mem ops:AT)(gs:QU):AT:=TH QaD es ((oS ks es ops gs).filter (lM ks es ws)) mem ops
def HN(ks:At)(es ss:AT)(is os:ES)(ws:QU)(mem ops some:AT):BA:=
 Mp (lM ks es ws) os mem (Y5 ks es ws mem ops (q8 ws some)) (oS ks es ops (q8 ws some))++Mq ws some++inR is (yR ks es ss (Y5 ks es ws mem ops (q8 ws some)) (q8 ws some))
def KD(ks:At)(es mem:AT):Prop:=mem.length=es.length/\∀k:Nat,k<es.length->cA ks k=true->mem.getD k 0=-1\/mem.getD k 0∈jo es k
structure mS(ks:At)(es ss:AT)(is os:ES)(ws:QU):Prop where
 n0:0<es.length
 n1:es.length<=40
 kl:ks.length=es.length
 sl:ss.length=es.length
 il:is.length=es.length
 ol:os.length=es.length
 kd:Mh Qas QaD Q1 es
 pre:nh es
 st:F3 QaD es ss
 ir:ua is
 or:ua os
 wo:∀w∈ws,yn es.length w
 wl:ws.length<=8
structure uc(ks:At)(es:AT)(ws:QU)(ops some:AT):Prop where
 i:∀i∈some,QcZ/\(gS ws i).src∈ops
 l:some.length<=8
 ap:(q8 ws some).Pairwise QcK
section
variable{is os:ES}{ws:QU}{ch some:AT}
theorem mS.tree(h:Qc0)(hm:KD ks es mem):dG Qas Q1 es ss mem:=⟨h.pre,(λk a e=>by
  obtain⟨_,_,_,z⟩|⟨z,_⟩|⟨z,_⟩:=h.kd k a
  .exact z
  .rw[z]at e;cases e
  simp_all),λk a e1 e2=>by
  obtain⟨z,_⟩|⟨_,z,_⟩|⟨_,_,z⟩:=h.kd k a
  .rw[z]at e1;cases e1
  .exact⟨h.st k a z,hm.2 k a z⟩
  simp_all⟩
theorem mS.kinds(h:Qc0):∀k:Nat,k<es.length->aY ks k=true\/av ks k=true\/ks.getD k Str.empty="one":=λk a=>by
 obtain⟨z,_⟩|⟨_,z,_⟩|⟨_,_,z⟩:=h.kd k a
 .exact .inl z
 .refine .inr (.inr ?_);have:=ko z;assumption
 .exact .inr (.inl z)
theorem Qq(b:0<es.length)(a:x∈iH Q1 es ch Qac):0<=x/\x<es.length:=by
 have:=jO _ a;lia
def alR{w:bT}(hw:w∈q8 ws some):∃i∈some,w=gS ws i/\w.ka ≠ -1:=by
 obtain⟨i,hi,rfl⟩:=j0.1 hw;obtain⟨h1,h2⟩:=k3.1 hi;refine⟨i,h1,rfl,?_⟩;unfold oU at h2;simpa using h2
theorem uc.y6(h:Qc0)(hs:uc ks es ws QaX some):∀w∈q8 ws some,Goes ks es QaX w:=λw hw=>by
 obtain⟨i,hi,rfl,d⟩:=alR hw;obtain⟨⟨c,i1⟩,b⟩:=hs.i i hi;have w3:=h.wo _ (t9 c i1);have a:=w3.2.1.resolve_left d;refine⟨a,?_⟩;have e:((gS ws i).ka.toNat)=(gS ws i).ka:=by lia
 obtain z|z:=agn h.pre.1 w3.1.1 w3.1.2
 .exact .inl z.1
 .refine .inr ⟨ e▸z.2.1,z.2.2.1,?_⟩;exact TX h.pre.1 ((gS ws i).src.toNat+1) Wc b z.1
theorem uc.w3(h:Qc0)(hs:uc ks es ws ops some):∀i∈some,yn es.length Qbk:=λi hi=>h.wo _ (t9 (hs.i i hi).1.1 (hs.i i hi).1.2)
def aql(h:Qc0)(c:F3 QaD es ch)(d:ch.length=es.length)(hm:mem.length=es.length)(gs:QU):Y5 ks es ws mem QaX gs=YW QaD ch mem ((oS ks es QaX gs).filter (lM ks es ws)):=by
 refine YZ h.pre.1 rfl h.n0 hm d (λk b e=>c k b ?_) (λx a=>(Em.1 (k3.1 a).1).1);exact ml e
def MO(h:Qc0)(c:F3 QaD es ch)(d:ch.length=es.length)(hm:KD ks es mem)(gs:QU):KD ks es (Y5 ks es ws mem QaX gs):=by
 rw[aql h c d hm.1];refine⟨by rw[FY];exact hm.1,λk a b=>?_⟩;rw[Mb _ _ (λe he=>?_) k (hm.1▸a)]
 .split
  .exact .inr (c k a b)
  .exact hm.2 k a b
 .exact hm.1▸Qq h.n0 (Em.1 (k3.1 he).1).1
end
def Qs{p:α->Bool}{l:Q3}{j:Nat}{x:α}(h:l[j]? = some x)(a:p x=true):l.any p=true:=List.any_eq_true.2 ⟨x,l3 h,a⟩
theorem any_none{p:α->Bool}{l:Q3}(h:∀(j:Nat) (x:α),l[j]? = some x->p x=false):l.any p=false:=by
 rw[List.any_eq_false];intro x a;obtain⟨j,b,e⟩:=List.getElem_of_mem a;rw[h j x Wp];decide
noncomputable def p9(a mo:Int)(bs:AT):Int:=if a=-1 then mo else bs.getD a.toNat 0+mo
inductive dJ where
 | put (x b m:Int)
 | call (s:Str)
 | say (s:Str) (b m:Int)
noncomputable def dJ.w:dJ->Str
 | .put _ _ _=>"put"
 | .call _=>"call"
 | .say _ _ _=>"say"
noncomputable def dJ.ds:dJ->BA
 | .put x b m=>[.int x,.tup [.int b,.int m]]
 | .call s=>[.str s]
 | .say s b m=>[.str s,.tup [.int b,.int m]]
def dJ.d(q:dJ):D:=.tup (.str q.w::q.ds)
def xa(bs:AT)(b:Int):Prop:=b=-1\/(0<=b/\b<bs.length)
def dJ.ok(bs:AT):dJ->Prop
 | .put x b _=>(0<=x/\x<bs.length)/\xa bs b
 | .call _=>True
 | .say _ b _=>xa bs b
def dJ.row(bs:AT):dJ->J
 | .put x b m=>.put x (bs.getD x.toNat 0) (p9 b m bs)
 | .call s=>.Wn "call" [.str s]
 | .say s b m=>.Wn "say" [.str s,.int (p9 b m bs)]
theorem Y6{s:G1}{q:dJ}(h:q.ok s.2.2):Right n s (q.row s.2.2):=by
 cases q with
 | put x b m=>exact⟨h.1.1,h.1.2,rfl⟩
 | call s=>exact⟨We,Wm,λd hd=>by simp at hd;exact .inr ⟨_,hd⟩⟩
 | say s b m=>exact⟨We,by show 2<=3;decide,λd hd=>by
   simp at hd;obtain e|e:=hd
   .exact .inr ⟨_,e⟩
   .exact .inl ⟨_,e⟩⟩
def alS{bs:AT}{q:dJ}(h:q.ok bs):∃o m,(q.row bs).ok (o,m,bs):=⟨[],[],(Y6 (n:=0) (s:=([],[],bs)) h).ok⟩
def En(bs:AT)(q:dJ):(q.row bs).d.tQ=true:=by cases q<;>rfl
def sL(q:dJ):q.d.tQ=true:=by cases q<;>rfl
def aft(bs:AT)(q:dJ):AT:=Mj false (q.row bs) bs
def WM(bs:AT)(q:dJ):(aft bs q).length=bs.length:=acv ..
theorem acA(a:List dJ):∀bs:AT,(a.foldl aft bs).length=bs.length:=by
 induction a with
 | nil=>intro bs;rfl
 | cons q a b=>intro bs;rw[vk,b,WM]
def sM:List dJ->AT->List J
 | [],_=>[]
 | q::a,bs=>q.row bs::sM a (aft bs q)
noncomputable def KG:dJ->Option Str
 | .call s=>some s
 | _=>none
def vJ(a:List dJ):At:=a.filterMap KG
theorem acB(a:List dJ)(q:dJ):∀bs:AT,sM (a++[q]) bs=sM a bs++[q.row (a.foldl aft bs)]:=by
 induction a with
 | nil=>intro bs;rfl
 | cons p a b=>intro bs;rw[n4,sM,b,sM,vk,n4]
theorem acC(a:List dJ):∀bs:AT,(sM a bs).length=a.length:=by
 induction a with
 | nil=>intro bs;rfl
 | cons p a b=>intro bs;rw[sM,lr,b,lr]
theorem WN{bs b2:AT}(h:b2.length=bs.length)(q:dJ)(a:q.ok bs):q.ok b2:=by
 cases q with
 | put x b m=>
  have a:=a;show(0<=x/\x<b2.length)/\xa b2 b;unfold xa at a ⊢;rw[h];exact a
 | call s=>trivial
 | say s b m=>
  have a:=a;show xa b2 b;unfold xa at a ⊢;rw[h];exact a
def lX{l:Q3}{j:Nat}{x:α}(h:l[j]? = some x):l.take QA=l.take j++[x]:=by rw[ri,h];rfl
inductive It where
 | out (m:Int)|keep (m p q:Int)|way (i:Int)|SG (m:Int)|oV (q:dJ)
def It.sj:It->J
 | .out m=>.out m
 | .keep m p q=>.keep m p q
 | .way i=>.Wn "way" [.int i]
 | .SG m=>.SG m
 | .oV q=>.Wn q.w q.ds
def It.d(x:It):D:=x.sj.d
def It.j(bs:AT):It->J
 | .oV q=>q.row bs
 | x=>x.sj
def It.ok(bs:AT):It->Prop
 | .oV q=>q.ok bs
 | _=>True
def It.af(bs:AT):It->AT
 | .oV q=>aft bs q
 | _=>bs
def It.call:It->Option Str
 | .oV q=>KG q
 | _=>none
noncomputable def It.told:It->Bool
 | .oV _=>true
 | _=>false
noncomputable def Mt:At:=["out","keep","way","in"]
theorem agE(x:It):decide (x.sj.w∈Mt)=!x.told:=by
 cases x with
 | oV q=>
  cases q with
  | put x b m=>rfl
  | call s=>rfl
  | say s b m=>rfl
 | out m=>rfl
 | keep m p q=>rfl
 | way i=>rfl
 | SG m=>rfl
theorem Mu(x:It):x.d.tQ=true:=by
 cases x with
 | oV q=>exact sL q
 | _=>rfl
theorem acD(bs:AT)(x:It):(x.j bs).d.tQ=true:=by
 cases x with
 | oV q=>exact En bs q
 | _=>rfl
theorem Y7(bs:AT)(x:It):(x.af bs).length=bs.length:=by
 cases x with
 | oV q=>exact WM bs q
 | _=>rfl
theorem ud(xs:List It):∀bs:AT,(xs.foldl It.af bs).length=bs.length:=by
 induction xs with
 | nil=>intro bs;rfl
 | cons x xs a=>intro bs;rw[vk,a,Y7]
def Eo:List It->AT->List J
 | [],_=>[]
 | x::xs,bs=>x.j bs::Eo xs (x.af bs)
def dm(xs:List It):At:=xs.filterMap It.call
theorem agF(xs:List It)(ys:List It):∀bs:AT,Eo (xs++ys) bs=Eo xs bs++Eo ys (xs.foldl It.af bs):=by
 induction xs with
 | nil=>intro bs;rfl
 | cons p xs a=>intro bs;rw[n4,Eo,a,Eo,vk,n4]
theorem Ao(xs:List It):∀bs:AT,(Eo xs bs).length=xs.length:=by
 induction xs with
 | nil=>intro bs;rfl
 | cons p xs a=>intro bs;rw[Eo,lr,a,lr]
theorem Ep(xs:List It):∀bs:AT,D.bP ((Eo xs bs).map J.d)=true:=by
 induction xs with
 | nil=>intro bs;rfl
 | cons x xs a=>intro bs;rw[Eo,kx,D.bP,acD,a];rfl
theorem KH(a:List dJ):∀bs:AT,D.bP ((sM a bs).map J.d)=true:=by
 induction a with
 | nil=>intro bs;rfl
 | cons q a b=>intro bs;rw[sM,kx,D.bP,En,b];rfl
def Qt(xs:List It)(x:It):dm (xs++[x])=dm xs++x.call.toList:=by
 unfold dm;simp;congr 1
theorem agG{bs b2:AT}(h:b2.length=bs.length)(x:It)(a:x.ok bs):x.ok b2:=by
 cases x with
 | oV q=>exact WN h q a
 | _=>trivial
theorem Gb:∀{ds:BA},D.bP ds=true->T.cW QaP=true
 | [],_=>rfl
 | d::ds,h=>by simp_all [D.bP,T.cW,Gb,T.clean]
def auM(c b a:BA):(T.tup [.lst (c.map T.sh),.lst (b.map T.sh),.lst (a.map T.sh)]).fB=.tup [.lst c,.lst b,.lst a]:=by simp[T.fB,T.cQ,kJ]
theorem Ge{c b a:BA}(h1:D.bP c=true)(h2:D.bP b=true)(d:D.bP a=true):(T.tup [.lst (c.map T.sh),.lst (b.map T.sh),.lst (a.map T.sh)]).clean=true:=by simp_all [T.clean,T.cW,Gb]
def TY(bs a:AT)(q:dJ):(T.tup [.lst ((a.map D.int).map T.sh),.sh (q.row bs).d]).clean=true:=by
 rw[T.clean,T.cW,T.cW,T.clean,T.clean,qJ,En];rfl
def P4{d:D}{ds:BA}:vf (d::ds) 0=some d:=dQ rfl
def acE(n:Nat):(List.replicate n [D.int (-1)]).flatten=(List.replicate n (-1:Int)).map D.int:=by simp
noncomputable def fS(ns:AT)(k:Int):Int:=if k<ns.length then ns.getD k.toNat 0 else 0
noncomputable def w6:At:=["out","put","say","shut","then","to"]
def Aq(l:AT):qD 60 (.lst Qbt):=.lst λd hd=>by
 obtain⟨i,_,rfl⟩:=j0.1 hd;exact .int _ _
def T3(mk:Str)(i j:Int):Bool:=if mk="<" then decide (i<j) else if mk="<=" then decide (i<=j) else if mk="=" then decide (i=j) else !decide (i=j)
inductive uf where
 | DL (op:Bool) (m:Int)
 | num (mk:Str) (b1 m1 b2 m2:Int)
noncomputable def sN:uf->D
 | .DL op m=>.tup [.str (if op then "open" else "shut"),.int m]
 | .num mk b1 m1 b2 m2=>.tup [.str mk,.tup [.int b1,.int m1],.tup [.int b2,.int m2]]
noncomputable def Qu:At:=["<","<=","=","!="]
def uf.Ok(n:Nat)(bs:AT):uf->Prop
 | .DL _ m=>0<=m/\m<n
 | .num mk b1 _ b2 _=>mk∈Qu/\(b1=-1\/(0<=b1/\b1<bs.length))/\(b2=-1\/(0<=b2/\b2<bs.length))
def Gf(a:uf):(sN a).tQ=true:=by cases a<;>rfl
def agH:∀x∈Qu,PyData.strOk x=true:=by decide +kernel
def KJ(es:AT)(t u:Int):Bool:=decide (t=u) || (decide (t=-1) || decide (u=-1)) || (decide (u∈bL es t) || decide (t∈bL es u))
variable{c:Int}
theorem acF{a:Int}:L8 bY es a c=-1\/L8 bY es a c∈bL es a:=by
 unfold L8;cases e:(bL es a).find? _ with
 | none=>exact .inl rfl
 | some x=>exact .inr (List.mem_of_find?_eq_some e)
def Ll(ks:At)(es:AT)(w v:bT):Bool:=(!decide (w.ka=-1) && !decide (v.ka=-1))&&KJ es QaO (iU ks es v)
def aqm(w v:bT):Ll ks es w v=Ll ks es v w:=by
 unfold Ll KJ;simp[Bool.and_comm (!decide (w.ka=-1))];have e1:decide (iU ks es w=iU ks es v)=decide (iU ks es v=iU ks es w):=by simp[eq_comm]
 rw[e1,Bool.or_comm (decide (iU ks es w=-1)),Bool.or_comm (decide (iU ks es v∈bL es _))]
noncomputable def aym:D->Int
 | .tup (_::_::_::_::.int t::_)=>t
 | _=>0
noncomputable def BQ(ln:AT)(y:Int):Nat:=ln.findIdx (λz=>decide (z=y))
variable{ln:AT}
noncomputable def YI(h:y∈ln):BQ ln y<ln.length:=List.findIdx_lt_length_of_exists ⟨y,h,Wm⟩
def Mv(h:y∈ln):ln[BQ ln y]? = some y:=by
 have a:=YI h;have:=List.findIdx_getElem (w:=a);exact l9 a▸congrArg _ (ko this)
variable{i:Nat}
def alT(h:i<BQ ln y):ln[i]? ≠ some y:=λe=>by
 have:=List.not_of_lt_findIdx h;rw[(lL.1 e).2]at this;simp at this
def agI(nd:ln.Nodup)(a:y∈ln):BQ ln y=i↔ln[i]? = some y:=by
 constructor
 .rintro rfl;exact Mv a
 .intro e;have h1:=Mv a;have b:=YI a;have hi:=(lL.1 e).1;rw[l9 b]at h1;rw[l9 hi]at e;have c:=(l1 h1).trans (l1 e).symm;have np:=List.pairwise_iff_getElem.1 nd;obtain z|z|z:=Nat.lt_trichotomy _ i
  .exact absurd c (np _ _ b hi z)
  .exact z
  .exact absurd c.symm (np _ _ hi b z)
noncomputable def Y8(ops:AT):D->Bool
 | .tup [.str k,.int m]=>if k="open" then decide (m∈ops) else if k="shut" then !decide (m∈ops) else true
 | _=>true
def KL(ops:AT)(l:BA):Bool:=l.all (Y8 ops)
def uf.LG:uf->Prop
 | .DL _ _=>True
 | .num mk _ _ _ _=>mk∈Qu
theorem uf.Ok.mk{bs:AT}{a:uf}(h:a.Ok n bs):a.LG:=by
 cases a with
 | DL op m=>trivial
 | num mk b1 m1 b2 m2=>exact h.1
def agJ{mk:Str}(h:mk∈Qu):mk≠"open" /\ mk≠"shut":=by
 have:∀x∈Qu,x≠"open" /\ x≠"shut":=by decide +kernel
 exact this mk h
def acH(ops:AT)(op:Bool)(m:Int):Y8 ops (sN (.DL op m))=if op then decide (m∈ops) else !decide (m∈ops):=by
 cases op
 .rfl
 rfl
def uW(ops:AT)(sg:Str)(ln:AT)(w:bT):Bool:=decide (w.sign=sg)&&(decide (w.src∈ln)&&KL ops w.asks)
def u4(ws:QU)(ops:AT)(sg:Str)(ln:AT)(n:Nat):CO:=(List.range n).filter λk=>uW ops sg ln (ws.getD k w0)
def xl(ws:QU)(ops:AT)(sg:Str)(ln:AT):AT:=eK (λk:Int=>(BQ ln (ws.getD k.toNat w0).src:Int)) ((u4 ws ops sg ln ws.length).map λ(k:Nat)=>(k:Int))
def WO(ws:QU)(ops:AT)(sg:Str)(ln:AT)(n:Nat):(u4 ws ops sg ln n).length<=n:=by
 have:=pz (λk=>uW ops sg ln (ws.getD k w0)) (List.range n);rw[n6]at this;exact this
def acI(ws:QU)(ops:AT)(sg:Str)(ln:AT)(n:Nat):u4 ws ops sg ln (n+1)=u4 ws ops sg ln n++(if uW ops sg ln (ws.getD n w0)=true then [n] else []):=by
 unfold u4;rw[List.range_succ,n8,List.filter_cons,vi]
def YE(ws:QU):Prop:=∀w∈ws,∃l:List uf,w.asks=l.map sN/\∀a∈l,a.LG
abbrev Ask:=Str×Int×Int×Int×Int
noncomputable def z3(q:Ask):D:=.tup [.str q.1,.tup [.int q.2.1,.int q.2.2.1],.tup [.int q.2.2.2.1,.int q.2.2.2.2]]
def N0(bs:AT)(q:Ask):Prop:=(q.2.1=-1\/(0<=q.2.1/\q.2.1<bs.length))/\(q.2.2.2.1=-1\/(0<=q.2.2.2.1/\q.2.2.2.1<bs.length))
def hQ(bs:AT)(q:Ask):Bool:=T3 q.1 (p9 q.2.1 q.2.2.1 bs) (p9 q.2.2.2.1 q.2.2.2.2 bs)
def LF(l:BA):BA:=l.filter λd=>!decide (d.SR.toS∈(["open","shut"]:At))
noncomputable def HI:uf->List Ask
 | .DL _ _=>[]
 | .num mk b1 m1 b2 m2=>[(mk,b1,m1,b2,m2)]
theorem agL{bs:AT}{l:List uf}(h:∀a∈l,a.Ok n bs):LF (l.map sN)=(l.flatMap HI).map z3:=by
 unfold LF
 induction l with
 | nil=>rfl
 | cons a l b=>
  have b:=b λq c=>h q (i8 _ c);have d:=h a fX;rw[kx,sv,kc,← b];cases a with
  | DL op m=>
   rw[Fu]
   .rfl
   .show ¬ (!decide ((if op=true then("open":Str) else "shut")∈(["open","shut"]:At)))=true;grind
  | num mk b1 m1 b2 m2=>
   rw[wd]
   .rfl
   .have:∀x∈Qu,(!decide (x∈(["open","shut"]:At)))=true:=by decide +kernel
    exact this mk d.1
theorem agM{bs:AT}{l:List uf}(h:∀a∈l,a.Ok n bs):∀q∈l.flatMap HI,N0 bs q:=λq b=>by
 obtain⟨a,d,b⟩:=l4.1 b;have c:=h a d;cases a with
 | DL op m=>cases b
 | num mk b1 m1 b2 m2=>
  exact j2.1 b▸c.2
def hD(vs:AT):D->Bool
 | .tup [.str mk,.tup [.int b1,.int m1],.tup [.int b2,.int m2]]=>T3 mk (p9 b1 m1 vs) (p9 b2 m2 vs)
 | _=>true
def y2(vs:AT)(w:bT):Bool:=w.asks.all (hD vs)
variable{vs:AT}
theorem alY{bs:AT}{l:List uf}(h:∀a∈l,a.Ok n bs):(l.map sN).all (hD vs)=(l.flatMap HI).all (hQ vs):=by
 induction l with
 | nil=>rfl
 | cons a l b=>
  have b:=b λq c=>h q (i8 _ c);rw[kx,F1,sv,List.all_append];congr 1;cases a with
  | DL op m=>rfl
  | num mk b1 m1 b2 m2=>exact(xI _).symm
def Er(n:Nat)(bs:AT)(ws:QU):Prop:=∀w∈ws,∃l:List uf,w.asks=l.map sN/\l.length<=2/\∀a∈l,a.Ok n bs
theorem Er.ok{bs:AT}{ws:QU}(h:Er n bs ws):YE ws:=λw hw=>by
 obtain⟨l,e,_,b⟩:=h w hw;exact⟨l,e,λa c=>(b a c).mk⟩
noncomputable def IV(l:AT)(s:Int):AT:=if s∈l then l else l++[s]
noncomputable def oo(l:AT):List (Key×D):=l.map λs=>((Sum.inl s:Key),D.bl true)
theorem agN(l:AT)(s:Int):((oo l).any λa=>decide (a.1=Sum.inl s))=decide (s∈l):=by
 unfold oo
 induction l with
 | nil=>rfl
 | cons y l b=>
  by_cases h:y=s
  .subst h;simp
  .have h':¬ s=y:=λe=>h e.symm;simp_all
def agO(l:AT)(s:Int):Kg (oo l) (.inl s) (.bl true)=oo (IV l s):=by
 unfold Kg;rw[agN];unfold IV;by_cases h:s∈l
 .rw[dX (ml h),dX h];unfold oo;rw[kq];refine oC λy _=>?_;simp
 .rw[if_neg (by simpa using h),if_neg h];unfold oo;rw[kc];rfl
def acM(l:AT):((oo l).map (·.1)).map Yq=l.map D.int:=by
 unfold oo;rw[kq,kq];rfl
def acN(l:AT)(s:Int):(IV l s).length<=l.length+1:=by
 unfold IV;split<;>simp
def Hm(ws:QU)(ops vs:AT)(sg:Str)(es:AT)(leaf:Int):AT:=(xl ws ops sg (leaf::bL es leaf)).filter λk=>y2 vs (ws.getD k.toNat w0)
def o9(ws:QU)(ops vs:AT)(sg:Str)(es:AT)(acc:AT)(leaf:Int):AT:=match Hm ws ops vs sg es leaf with
 | []=>acc
 | k::_=>IV acc k
noncomputable def ON(ks:At)(x:Int):Bool:=decide (ks.getD x.toNat Str.empty="leaf")
def Y9(ks:At)(ops:AT):AT:=ops.filter (ON ks)
def OW(ws:QU)(ops vs:AT)(sg:Str)(es:AT)(l:AT):AT:=l.foldl (o9 ws ops vs sg es) []
theorem agP(ws:QU)(ops vs:AT)(sg:Str)(es:AT)(acc:AT)(leaf:Int):(o9 ws ops vs sg es acc leaf).length<=acc.length+1:=by
 unfold o9;split
 .lia
 .exact acN _ _
theorem WQ(ws:QU)(ops vs:AT)(sg:Str)(es:AT):∀l:AT,(OW ws ops vs sg es l).length<=l.length:=by
 have gen:∀(l acc:List _),(l.foldl (o9 ws ops vs sg es) acc).length<=acc.length+l.length:=by
  intro l
  induction l with
  | nil=>simp
  | cons y l a=>
   intro acc;have h1:=agP ws ops vs sg es acc y;have:=a (o9 ws ops vs sg es acc y);simp;lia
 intro l;have:=gen l [];simpa [OW] using this
def acO(ws:QU)(ops vs:AT)(sg:Str)(es:AT)(l:AT)(x:Int):OW ws ops vs sg es (l++[x])=o9 ws ops vs sg es (OW ws ops vs sg es l) x:=by simp[OW]
variable{sg:Str}
theorem Mw{ws:QU}(h:k∈xl ws ops sg ln):0<=k/\k<ws.length:=by
 obtain⟨i,hi,rfl⟩:=j0.1 (lT.1 h);have:=mD.1 (k3.1 hi).1;lia
variable{j:Nat}
def Za{p:α->Bool}{l:Q3}{x:α}(h:l[j]? = some x)(b:p x=true)(c:∀y∈l.take j,p y=false):∃r,l.filter p=x::r:=by
 have d:=(lL.1 h).1;have e:=by
  have h2:=Fn j l;rw[JP d,(lL.1 h).2]at h2;exact h2.symm
 refine⟨(l.drop QA).filter p,?_⟩
 conv=>lhs;rw[e]
 rw[n8,List.filter_eq_nil_iff.2 (λy a=>by rw[c y a];decide),wd b];rfl
noncomputable def Zb(h:CA)(tp:Int->Int)(tm:Int->Int->Bool)(s:AT×AT)(k:Int):AT×AT:=
 if h k=true then(if s.2.any (tm (tp k))=true then s else(s.1++[k],s.2++[tp k])) else(s.1++[k],s.2)
structure KA(h:CA)(tp:Int->Int)(tm:Int->Int->Bool)(R:Int->Int->Prop)(P:AT)(s:AT×AT):Prop where
 sub:s.1.Sublist P
 As:s.2=(s.1.filter h).map tp
 apart:∀a∈s.1,∀b∈s.1,a≠b->h a=true->h b=true->tm (tp a) (tp b)=false
 over:∀x∈P,x∉s.1->h x=true/\∃y∈s.1,R y x/\h y=true/\tm (tp x) (tp y)=true
theorem P2{h:CA}{tp:Int->Int}{tm:Int->Int->Bool}{R:Int->Int->Prop}(r:∀a b,tm a b=tm b a):∀(l P:AT) (s:AT×AT),(P++l).Nodup->(P++l).Pairwise R->KA h tp tm R P s->KA h tp tm R (P++l) (l.foldl (Zb h tp tm) s)
 | [],P,s,_,_,I=>by rw[km];exact I
 | x::l,P,s,nd,pr,I=>by
  have e:P++x::l=(P++[x])++l:=by simp
  rw[e]at nd pr ⊢;rw[vk];refine P2 r l (P++[x]) _ nd pr ?_;have nx:x∉P:=λc=>by
   have:=(la.1 (la.1 nd).1).2.2 x c x Wm;exact this rfl
  have u:∀y∈P,R y x:=λy g=>(xy.1 (xy.1 pr).1).2.2 y g x Wm;have v:x∉s.1:=λc=>nx (I.sub.subset c);have keep:(∀z∈s.1,h x=true->h z=true->tm (tp x) (tp z)=false)->(h x=true->(s.1++[x],s.2++[tp x])=(s.1++[x],((s.1++[x]).filter h).map tp))->∀t,t=((s.1++[x]).filter h).map tp->KA h tp tm R (P++[x]) (s.1++[x],t):=λhz _ t o=>by
   refine⟨I.sub.append (n7 _),o,λa d b f ne n m=>?_,λy g p=>?_⟩
   .obtain d|d:=i3.1 d
    .obtain f|f:=i3.1 f
     .exact I.apart a d b f ne n m
     .rw[j2.1 f]at m ⊢;rw[r];exact hz a d m n
    .rw[j2.1 d]at n ne ⊢;obtain f|f:=i3.1 f
     .exact hz b f n m
     .exact absurd (j2.1 f).symm ne
   .have j:y∉s.1/\y≠x:=⟨λz=>p (j1 _ z),λz=>p (js _ (by rw[z];simp))⟩;obtain g|g:=i3.1 g
    .obtain⟨h1,z,hz,h2⟩:=I.over y g j.1;exact⟨h1,z,j1 _ hz,h2⟩
    .exact absurd (j2.1 g) j.2
  unfold Zb;by_cases c:h x=true
  .rw[dX c];by_cases d:s.2.any (tm (tp x))=true
   .rw[dX d];obtain⟨t,o,hm⟩:=List.any_eq_true.1 d;rw[I.As]at o;obtain⟨y,g,rfl⟩:=j0.1 o;obtain⟨i,q⟩:=k3.1 g;refine⟨I.sub.trans (NH _ _),I.As,I.apart,λz hz p=>?_⟩;obtain hz|hz:=i3.1 hz
    .exact I.over z hz p
    .rw[j2.1 hz];exact⟨c,y,i,u y (I.sub.subset i),q,hm⟩
   .rw[dP d];refine keep (λz hz _ k=>?_) (λ_=>by rw[n8,wd c];simp[I.As]) _ ?_
    .cases e:tm (tp x) (tp z) with
     | false=>rfl
     | true=>exact absurd (List.any_eq_true.2 ⟨tp z,by rw[I.As];exact j0.2 ⟨z,k3.2 ⟨hz,k⟩,rfl⟩,e⟩) d
    .rw[n8,wd c];simp[I.As]
  .rw[dP c];refine keep (λz hz k _=>absurd k c) (λk=>absurd k c) _ ?_;rw[n8,Fu c];simp[I.As]
theorem Qv{g:Int->Int}(nd:l.Nodup):(eK g l).Pairwise λa c=>g a<g c\/(g a=g c/\BQ l a<BQ l c):=by
 have f:l=(List.range _).map _:=vv λi=>by
  simp;by_cases hi:i<l.length
  .rw[oD hi];show _=some (l.getD i 0);rw[lj,l9 hi];rfl
  .rw[v3 Wc,v3 Wp];rfl
 have b:=λi hi=>by
  have e:l[i]? = some (l.getD i 0):=by rw[lj,l9 hi];rfl
  exact(agI nd (l3 e)).2 e
 have h1:eK g l=(eK (λi=>g (l.getD i 0)) (List.range l.length)).map λi=>l.getD i 0:=by
  conv=>lhs;rw[f]
  exact pQ _ _
 rw[h1];refine List.pairwise_map.2 ((BF JJ).imp_of_mem λ{i j} hi d h=>?_);have hi:=mD.1 (lT.1 hi);have d:=mD.1 (lT.1 d);rw[b i hi,b j d];exact h
def acP(es:AT)(t u:Int):KJ es t u=KJ es u t:=by
 unfold KJ;have e1:decide (t=u)=decide (u=t):=by simp[eq_comm]
 rw[e1,Bool.or_comm (decide (t=-1)),Bool.or_comm (decide (u∈bL es t))]
def Gg(es:AT)(ws:QU)(k:Int):Int:=-((bL es (gS ws k).src).length:Nat)
def nH(ks:At)(es:AT)(ws:QU)(l:AT):AT×AT:=l.foldl Qef ([],[])
def acQ(ks:At)(es:AT)(ws:QU)(l:AT)(k:Int):nH ks es ws (l++[k])=Zb (oU ws) Qdw (KJ es) (nH ks es ws l) k:=by
 unfold nH;simp
theorem agQ{h:CA}{tp:Int->Int}{tm:Int->Int->Bool}(s:AT×AT)(k:Int):(Zb h tp tm s k).1.length<=s.1.length+1/\(Zb h tp tm s k).2.length<=s.2.length+1:=by
 unfold Zb;split
 .split
  .lia
  .simp
 .simp
theorem WR(ks:At)(es:AT)(ws:QU):∀l:AT,(nH ks es ws l).1.length<=l.length/\(nH ks es ws l).2.length<=l.length:=by
 have gen:∀(l:List _) (s:List _×List _),(l.foldl Qef s).1.length<=s.1.length+l.length/\(l.foldl Qef s).2.length<=s.2.length+l.length:=by
  intro l
  induction l with
  | nil=>simp
  | cons k l a=>
   intro s;have h1:=agQ (h:=oU ws) (tp:=λk=>iU ks es (gS ws k)) (tm:=KJ es) s k;have h2:=a (Zb (oU ws) Qdw (KJ es) s k);simp;lia
 intro l;have:=gen l ([],[]);simpa [nH] using this
def agR{ws:QU}{row:AT}(nd:row.Nodup) :
  KA (oU ws) Qdw (KJ es) (λa c=>Gg es ws a<Gg es ws c\/(Gg es ws a=Gg es ws c/\BQ row a<BQ row c)) (eK Qbd row) (nH ks es ws (eK Qbd row)):=by
 have:=P2 (h:=oU ws) (tp:=λk=>iU ks es (gS ws k)) (R:=λa c=>Gg es ws a<Gg es ws c\/(Gg es ws a=Gg es ws c/\BQ row a<BQ row c)) (acP es) (eK Qbd row) [] ([],[]) (by rw[pX];exact(jm row).nodup_iff.2 nd) (by rw[pX];exact Qv nd) ⟨.slnil,rfl,λa d=>(by cases d),λx b=>(by cases b)⟩;rw[pX]at this;exact this
def PX(ks:At)(es:AT)(ws:QU)(row:AT):AT:=sortI (nH ks es ws (eK Qbd row)).1
def ze(ws:QU)(ops vs:AT)(sg:Str)(es l:AT):AT:=l.flatMap λleaf=>(Hm ws ops vs sg es leaf).take 1
def acR:x∈IV l s↔x∈l\/x=s:=by
 unfold IV;split
 .constructor
  .exact .inl
  .rintro(h|rfl)
   .exact h
   .assumption
 .rw[i3,j2]
def T4(h:l.Nodup):(IV l s).Nodup:=by
 unfold IV;split
 .exact h
 .rename_i c;exact la.2 ⟨h,Wm,λa f b d e=>c (by rw[← j2.1 d,← e];exact f)⟩
theorem Es(ws:QU)(ops vs:AT)(sg:Str)(es:AT):∀(l acc:AT),acc.Nodup->(l.foldl (o9 ws ops vs sg es) acc).Nodup/\∀x,x∈l.foldl (o9 ws ops vs sg es) acc↔x∈acc\/x∈ze ws ops vs sg es l
 | [],acc,h=>⟨h,λx=>⟨.inl,λz=>by
   obtain z|z:=z
   .exact z
   .cases z⟩⟩
 | y::l,acc,h=>by
  simp;have e:ze ws _ vs sg es (y::l)=(Hm ws ops vs sg es y).take 1++ze ws _ vs sg es l:=rfl;rw[e];unfold o9;generalize Hm ws _ vs sg es y=f;cases f with
  | nil=>
   obtain⟨a,c⟩:=Es ws _ vs sg es l _ h;exact⟨a,‹_› ⟩
  | cons k f=>
   obtain⟨a,c⟩:=Es ws _ vs sg es l _ (T4 h);refine⟨a,λx=>(c x).trans ?_⟩;rw[acR,List.take_succ_cons,List.take_zero,i3,j2,or_assoc]
noncomputable def acS(ws:QU)(ops vs:AT)(sg:Str)(es l:AT):(OW ws ops vs sg es l).Nodup:=(Es ws _ vs sg es l [] Wm).1
theorem YA{ws:QU}:x∈OW ws ops vs sg es l↔x∈ze ws ops vs sg es l:=by
 have:=(Es ws ops vs sg es l [] Wm).2 x;unfold OW;simp_all
structure OM(ws:QU)(ops vs:AT)(sg:Str)(es:AT)(k:Int):Prop where
 k0:0<=k
 k1:k<ws.length
 sign:(gS ws k).sign=sg
 src:(gS ws k).src∈ops
 fit:KL ops (gS ws k).asks=true
 hold:y2 vs (gS ws k)=true
theorem PU{es ops:AT}(c:fj es)(up:∀x∈ops,x=0\/es.getD x.toNat 0∈ops)(d:∀x∈ops,0<=x/\x<es.length):∀(n:Nat) {x y:Int},x<n->x∈ops->y∈bL es x->y∈ops
 | 0,x,y,f,b,_=>absurd (d x b).1 Wc
 | n+1,x,y,f,b,a=>by
  obtain⟨x0,e⟩:=d x b;rw[gi c x0 e]at a;split at a
  .cases a
  .have g:=c.at x0 e;have he:=(up x b).resolve_left λz=>by subst z;lia
   obtain rfl|a:=fO.1 a
   .exact he
   .exact PU c up d n Wc he a
theorem aqs{ws:QU}(f:fj es)(up:∀x∈ops,x=0\/es.getD x.toNat 0∈ops)(e:∀x∈ops,0<=x/\x<es.length)(c:∀x∈l,x∈ops)(h:k∈ze ws ops vs sg es l):OM ws ops vs sg es k:=by
 obtain⟨leaf,hm,a⟩:=l4.1 h;have a:=rf a;obtain⟨d,g⟩:=k3.1 a;obtain⟨k0,k1⟩:=Mw d;obtain⟨i,hi,rfl⟩:=j0.1 (lT.1 d);have b:=(k3.1 hi).2;unfold uW at b;rw[lx,lx]at b;obtain⟨g1,g2,g3⟩:=b;refine⟨k0,k1,ko g1,?_,g3,g⟩;obtain z|z:=fO.1 (ko g2)
 .show(ws.getD i w0).src∈ops;rw[z];simp_all
 .obtain⟨m,j⟩:=e _ (c _ hm);exact PU f up e es.length Wc (c _ hm) z
noncomputable def Mx(cd pl:D)(pa:BA)(bs:AT)(ex:BN):BN:=("chart",.sh cd)::("place",.sh pl)::("past",.lst (pa.map T.sh))::("boxes",.sh Qbh)::ex
noncomputable def sO(cd pl:D)(pa:BA)(bs:AT)(ex:DO):DO:=("chart",cd)::("place",pl)::("past",.lst pa)::("boxes",.lst Qbo)::ex
noncomputable def Et:EM->BN
 | none=>[]
 | some r=>[("first_rows",.lst (r.map T.sh))]
noncomputable def RV:EM->DO
 | none=>[]
 | some r=>[("first_rows",.lst r)]
variable{cd pl:D}{pa:BA}{bs:AT}{ex:DO}{eo:EM}{m:Str}
def BR:List.lookup ("chart":Str) Qc3=some cd:=Ly
def sP:List.lookup ("place":Str) Qc3=some pl:=rfl
def Gh:List.lookup ("past":Str) Qc3=some (.lst pa):=rfl
def xD:List.lookup ("boxes":Str) Qc3=some Qbh:=rfl
def Zc{r:BA}:List.lookup ("first_rows":Str) (sO cd pl pa bs (RV (some r)))=some (.lst r):=rfl
theorem Yw(h1:(m==("chart":Str))=false)(h2:(m==("place":Str))=false)(c:(m==("past":Str))=false)(b:(m==("boxes":Str))=false)(a:(m==("first_rows":Str))=false):(sO cd pl pa bs (RV eo)).lookup m=none:=by
 unfold sO;rw[iL h1,iL h2,iL c,iL b];cases eo with
 | none=>rfl
 | some r=>
  unfold RV;rw[iL a];rfl
theorem agS(h1:(m==("chart":Str))=false)(h2:(m==("place":Str))=false)(c:(m==("past":Str))=false)(b:(m==("boxes":Str))=false)(a:(m==("first_rows":Str))=false):(Mx cd pl pa bs (Et eo)).lookup m=none:=by
 unfold Mx;rw[iL h1,iL h2,iL c,iL b];cases eo with
 | none=>rfl
 | some r=>
  unfold Et;rw[iL a];rfl
theorem acV(cd pl:D)(pa:BA)(bs:AT)(eo:EM):(Mx cd pl pa bs (Et eo)).length<1000:=by
 cases eo with
 | none=>exact jj rfl
 | some r=>exact jj rfl
noncomputable def jI(cd pl:D)(pt:B1)(bs:AT)(ex:BN):BN:=("chart",.sh cd)::("place",.sh pl)::("past",.lst pt)::("boxes",.sh Qbh)::ex
abbrev Pl:=AT×AT
noncomputable def yS(p:Pl):D:=.tup [.lst (p.1.map .int),.lst (p.2.map .int)]
abbrev WT:=Pl×AT×BA
def kQ(l:List WT):B1:=l.map λq=>.tup [.sh (yS q.1),.sh (.lst (q.2.1.map .int)),.lst (q.2.2.map T.sh)]
variable{p:D}{pt:B1}{et:BN}{y:Addr}
theorem Qw:T.fB (.ins "NestRun" (jI cd pl pt bs (Et eo)))=.ins "NestRun" (sO cd pl (T.cQ pt) bs (RV eo)):=by
 cases eo with
 | none=>
  rfl
 | some r=>
  unfold jI sO Et RV;rw[T.fB,T.vd,T.vd,T.vd,T.vd,T.vd,T.vd,T.fB,T.fB,T.fB,T.fB,cz]
def BU:T.fB (.pin y (.ins "NestRun" (jI cd pl pt bs (Et eo))))=.ins "NestRun" (sO cd pl (T.cQ pt) bs (RV eo)):=by
 rw[T.fB,Qw]
theorem Eu(h1:(m==("chart":Str))=false)(h2:(m==("place":Str))=false)(c:(m==("past":Str))=false)(b:(m==("boxes":Str))=false)(a:(m==("first_rows":Str))=false):(jI cd pl pt bs (Et eo)).lookup m=none:=by
 unfold jI;rw[iL h1,iL h2,iL c,iL b];cases eo with
 | none=>rfl
 | some r=>
  unfold Et;rw[iL a];rfl
def T5:List.lookup ("place":Str) QcR=some (.sh pl):=rfl
def BV:List.lookup ("past":Str) QcR=some (.lst pt):=rfl
def T6:List.lookup ("boxes":Str) QcR=some (.sh Qbh):=rfl
def T7:yF "place" (.sh p) QcR=jI cd p pt bs et:=rfl
def T8{b2:AT}:yF "boxes" (.sh (.lst (b2.map .int))) QcR=jI cd pl pt b2 et:=rfl
def T9:T.jf [.fld "place"] Qd7=some (.sh pl):=rfl
def Ua:T.jf [.fld "boxes"] Qd7=some (.sh Qbh):=rfl
def BW:T.jf [.fld "past"] Qd7=some (.lst pt):=rfl
def Ub{t2:B1}:T.kG [.fld "past"] (.lst t2) Qd7=.pin y (.ins "NestRun" (jI cd pl t2 bs et)):=rfl
def KN{a b t:T}:T.L5 [.fld "past",.ix pt.length,.ix 2] (.pin y (.ins "NestRun" (jI cd pl (pt++[T.tup [a,b,t]]) bs et)))=some t:=by
 show(List.lookup ("past":Str) (jI cd pl (pt++[T.tup [a,b,t]]) bs et)).bind (T.L5 [.ix pt.length,.ix 2])=_;rw[BV];show((pt++[T.tup [a,b,t]])[pt.length]?).bind (T.L5 [.ix 2])=_;rw[FF (i5 _),Nat.sub_self];rfl
def Zd{a b t u:T}:T.Tt [.fld "past",.ix pt.length,.ix 2] u (.pin y (.ins "NestRun" (jI cd pl (pt++[T.tup [a,b,t]]) bs et)))=.pin y (.ins "NestRun" (jI cd pl (pt++[T.tup [a,b,u]]) bs et)):=by
 have e2:T.YM (.ix pt.length) (.lst (pt++[T.tup [a,b,t]]))=some (.tup [a,b,t]):=by
  show(pt++[T.tup _])[pt.length]? = _;rw[FF Wm,Nat.sub_self];rfl
 show T.pin y _=_;rw[T.Tt,show T.core (.lst _)=.lst _ from rfl,e2];show T.pin y (.ins _ (yF _ (.lst _) _))=_;rw[List.set_append_right _ _ (i5 _),Nat.sub_self];rfl
theorem Au(cd pl:D)(pt:B1)(bs:AT)(eo:EM):(jI cd pl pt bs (Et eo)).length<1000:=by
 cases eo with
 | none=>exact jj rfl
 | some r=>exact jj rfl
def Gi(l:List WT)(q:WT):kQ (l++[q])=kQ l++[.tup [.sh (yS q.1),.sh (.lst (q.2.1.map .int)),.lst (q.2.2.map T.sh)]]:=by
 unfold kQ;rw[kc];rfl
def at4:D->D
 | .tup (_::_::_::d::_)=>d
 | _=>.non
def zt:D->D
 | .tup (_::_::d::_)=>d
 | _=>.non
def Ze(d:D):It:=if d.SR.toS="out" then .out d.at2.yc else if d.SR.toS="keep" then .keep d.at2.yc (zt d).yc (at4 d).yc else if d.SR.toS="way" then .way d.at2.yc else if d.SR.toS="in" then .SG d.at2.yc
 else if d.SR.toS="put" then .oV (.put d.at2.yc (zt d).SR.yc (zt d).at2.yc) else if d.SR.toS="call" then .oV (.call d.at2.toS) else .oV (.say d.at2.toS (zt d).SR.yc (zt d).at2.yc)
theorem Yj(x:It):Ze x.d=x:=by
 cases x with
 | out m=>rfl
 | keep m p q=>rfl
 | way i=>rfl
 | SG m=>rfl
 | oV q=>
  cases q with
  | put i a c=>rfl
  | call s=>rfl
  | say s a c=>rfl
def pO(m:Nat)(a:Int):Prop:=a=-1\/(0<=a/\a<(m:Int))
def oP(m:Nat):It->Prop
 | .oV (.put i a _)=>(0<=i/\i<(m:Int))/\pO m a
 | .oV (.say s a _)=>PyData.strOk s=true/\pO m a
 | .oV (.call s)=>PyData.strOk s=true
 | _=>True
theorem Yf{m:Nat}{x:It}(h:oP m x)(b:bs.length=m):x.ok bs:=by
 subst b;cases x with
 | oV q=>
  cases q with
  | put i a c=>exact h
  | say s a c=>exact h.2
  | call s=>trivial
 | _=>trivial
def p6(m:Nat)(d:D):Prop:=∃q:dJ,d=q.d/\oP m (.oV q)
def NN(m:Nat)(d:D):Prop:=∃x:It,d=x.d/\oP m x
theorem p6.it{m:Nat}{d:D}(h:p6 m d):NN m d:=by
 obtain⟨q,rfl,a⟩:=h;exact⟨ _,rfl,a⟩
def Ya{m:Nat}{l:BA}(h:∀d∈l,NN m d):(l.map Ze).map It.d=l/\∀x∈l.map Ze,oP m x:=by
 refine⟨?_,λx a=>?_⟩
 .simp;refine(oC λd hd=>?_).trans (List.map_id _);obtain⟨x,rfl,_⟩:=h d hd;show(Ze _).d=x.d;rw[Yj]
 .obtain⟨d,hd,rfl⟩:=j0.1 a;obtain⟨x,rfl,g⟩:=h d hd;rw[Yj];exact g
theorem My{P:D->Prop}{l:ES}(h:∀a∈l,∀d∈a,P d)(k:Nat):∀d∈l.getD k [],P d:=λd hd=>by
 simp at hd;cases e:l[k]? with
 | none=>rw[e]at hd;cases hd
 | some a=>rw[e]at hd;exact h a (l3 e) d hd
structure CH where
 bs:List (Str×Int)
 nm:BA
 ks:At
 es:AT
 ss:AT
 is:ES
 os:ES
 ws:List bT
def CH.d(c:CH):D:=g7 (c.bs.map An) c.nm (dY c.ks c.es c.ss) (c.is.map .tup) (c.os.map .tup) (c.ws.map iS)
structure CH.Ok(c:CH):Prop where
 k:mS c.ks c.es c.ss c.is c.os c.ws
 q:∀bs:AT,bs.length=c.bs.length->Er c.es.length bs c.ws
 i:∀l∈c.is,∀d∈l,p6 c.bs.length d
 o:∀l∈c.os,∀d∈l,p6 c.bs.length d
 w:∀w∈c.ws,∀d∈w.Dh,p6 c.bs.length d
 nl:c.nm.length=c.es.length
 bl:c.bs.length<=1000
def Gd(c:CH)(p:Pl):Prop:=∃ch:AT,(ch.length=c.es.length/\F3 (cA c.ks) c.es ch)/\p.1=iH (av c.ks) c.es ch (c.es.length-1)/\KD c.ks c.es p.2
def nv(c:CH)(ops bs:AT)(sg:Str):AT:=PX c.ks c.es c.ws (OW c.ws ops bs sg c.es (Y9 c.ks ops))
def ui(c:CH)(p:Pl)(a:AT):BA:=HN c.ks c.es c.ss c.is c.os c.ws p.2 p.1 a
def toN(c:CH)(p:Pl)(a:AT):Pl:=(HU c.ks c.es c.ss (Y5 c.ks c.es c.ws p.2 p.1 (q8 c.ws a)) p.1 (q8 c.ws a),Y5 c.ks c.es c.ws p.2 p.1 (q8 c.ws a))
def goN(c:CH)(p:Pl)(sg:Str)(bs:AT):List It×Pl:=((ui c p Qcm).map Ze,toN c p Qcm)
theorem al0(h:nh es)(x0:0<=x)(a:x<es.length)(e:x≠0):es.getD x.toNat 0 ≠ -1:=by
 obtain⟨k,b⟩:∃k:Nat,x.toNat=k+1:=⟨x.toNat-1,Wc⟩;obtain z|z:=h.2 k Wc
 .lia
 .have:=(bF h.1 Wc Wc z).1;lia
def aqu{t:Int}(h:KJ es t u=false):Ap es t u:=by
 unfold KJ at h;simp at h;exact⟨h.1.2.1,h.1.2.2,h.1.1,h.2.2,h.2.1⟩
theorem aqv{c:CH}(h:c.Ok){p:Pl}(g:Gd c p)(bs:AT)(sg:Str):uc c.ks c.es c.ws p.1 Qcm:=by
 obtain⟨ch,⟨c1,u⟩,r,t⟩:=g;have n0:=h.k.n0;have q:∀x∈p.1,0<=x/\x<c.es.length:=r▸λx a=>Qq n0 a;have up:∀x∈p.1,x=0\/c.es.getD _ 0∈p.1:=λx a=>by
  obtain⟨x0,d⟩:=q x a;by_cases e:x=0
  .exact .inl e
  .right;rw[r]at a ⊢;exact TX h.k.pre.1 _ d a (Ks h.k.pre.1 x0 d (al0 h.k.pre x0 d e))
 have nd:(OW c.ws p.1 bs sg c.es (Y9 c.ks p.1)).Nodup:=acS ..;have b:∀k∈OW _ _ bs sg _ (Y9 c.ks _),OM c.ws _ bs sg _ k:=λk o=>aqs h.k.pre.1 up q (λx a=>(k3.1 a).1) (YA.1 o);have f:=agR (ks:=c.ks) (es:=c.es) (ws:=c.ws) nd;have sub:∀k∈nv c _ bs sg,k∈OW _ _ bs sg _ _:=λk o=>(jm _).mem_iff.1 (f.sub.subset (pN.1 o));have snd:(nv c _ bs sg).Nodup:=(sortI_perm _).nodup_iff.2 (List.Nodup.sublist f.sub ((jm _).nodup_iff.2 nd));refine⟨λi hi=>⟨⟨(b i (sub i hi)).k0,(b i (sub i hi)).k1⟩,(b i (sub i hi)).src⟩,?_,?_⟩
 .have:=BL snd λx a=>⟨(b x (sub x a)).k0,(b x (sub x a)).k1⟩;have:=h.k.wl;lia
 .unfold q8;rw[List.pairwise_map];have:=snd;refine((this.sublist Wm).imp_of_mem λ{x y} a s e=>?_);obtain⟨n,m⟩:=k3.1 a;obtain⟨l,j⟩:=k3.1 s;exact aqu (f.apart x (pN.1 n) y (pN.1 l) e m j)
def al1{c:CH}(h:c.Ok){p:Pl}{a:AT}(hs:uc c.ks c.es c.ws p.1 a):∀d∈ui c p a,NN c.bs.length d:=λd hd=>by
 obtain z|z:=i3.1 hd
 .obtain z|z:=i3.1 z
  .obtain⟨m,_,z⟩:=l4.1 z;obtain rfl|z:=fO.1 z
   .exact⟨.out m,rfl,trivial⟩
   .obtain z|z:=i3.1 z
    .split at z
     .exact j2.1 z▸⟨.keep m _ _,rfl,trivial⟩
     .cases z
    .exact(My h.o _ d z).it
  .obtain⟨i,hi,z⟩:=l4.1 z;obtain rfl|z:=fO.1 z
   .exact⟨.way i,rfl,trivial⟩
   .exact(h.w _ (t9 (hs.i i hi).1.1 (hs.i i hi).1.2) d z).it
 .obtain⟨m,_,z⟩:=l4.1 z;obtain rfl|z:=fO.1 z
  .exact⟨.SG m,rfl,trivial⟩
  .exact(My h.i _ d z).it
theorem agT{c:CH}(h:c.Ok){p:Pl}(g:Gd c p){b:AT}(hs:uc c.ks c.es c.ws p.1 b):(ui c p b).length<=400/\Gd c (toN c p b):=by
 obtain⟨ch,⟨o,m⟩,e,hm⟩:=g;obtain⟨ops,mem⟩:=p;subst e;have a:=h.k;have j:∀x∈iH (av c.ks) c.es ch _,0<=x/\x<c.es.length:=λx q=>Qq a.n0 q;have i:=j7 (isAll:=av c.ks) (es:=c.es) (ch:=ch) (c.es.length-1);have n:=hs.y6 a;have d:=MO a m o hm (q8 c.ws b);have f:=a.tree d;obtain⟨_,g2⟩:=Ky a.pre.1 i j hs.ap;obtain⟨_,s,_⟩:=Qn f hs.ap n;obtain⟨t,d1,d2,r,_⟩:=Qo a.kd f a.n0 o m hs.ap n;have n1:=a.n1;have sl:=hs.l;refine⟨?_,t,⟨d1,d2⟩,r,d⟩;unfold ui HN;rw[kn,kn];have y:=(Mr (DK:=lM c.ks c.es c.ws) (mem:=mem) (bh:=Y5 c.ks c.es c.ws mem QdJ (q8 c.ws b)) a.or (oS c.ks c.es QdJ (q8 c.ws b))).1;have w:=(Ms (hs.w3 a)).1;have v:=(Ga a.ir (yR c.ks c.es c.ss (Y5 c.ks c.es c.ws mem QdJ (q8 c.ws b)) (q8 c.ws b))).1;have u:(yR c.ks c.es c.ss (Y5 c.ks c.es c.ws mem QdJ (q8 c.ws b)) (q8 c.ws b)).length<=c.es.length:=by unfold yR;rw[pP];exact s
 lia
structure auP(c:CH)(p:Pl)(sg:Str)(bs:AT):Prop where
 s:uc c.ks c.es c.ws p.1 Qcm
 d:(goN c p sg bs).1.map It.d=ui c p Qcm
 g:∀x∈(goN c p sg bs).1,oP c.bs.length x
 l:(goN c p sg bs).1.length<=400
 n:Gd c (goN c p sg bs).2
def Mz{c:CH}(h:c.Ok){p:Pl}(g:Gd c p)(sg:Str)(bs:AT):auP c p sg bs:=by
 have s:=aqv h g bs sg;obtain⟨l,n⟩:=agT h g s;obtain⟨i1,i2⟩:=Ya (al1 h s);exact⟨s,i1,i2,by show(List.map _ _).length<=400;rw[e7];exact l,n⟩
abbrev tq:=At×Pl×AT
def Av(c:CH):Nat->tq->BA×tq
 | 0,s=>([],s)
 | j+1,s=>match Av c j s with
  | (rs,[],p)=>(rs,[],p)
  | (rs,sg::w,a,bs)=>(rs++(D.tup [.str "sign",.str sg]::(Eo (goN c a sg bs).1 bs).map J.d),w++dm (goN c a sg bs).1,(goN c a sg bs).2,(goN c a sg bs).1.foldl It.af bs)
def Gj(c:CH)(s:tq):BA:=(Av c 8 s).1++(if (Av c 8 s).2.1=[] then [] else [.tup [.str "rest",.int (((Av c 8 s).2.1.length:Nat):Int)]])
def Uc(c:CH)(s:tq):Pl:=(Av c 8 s).2.2.1
def Ud(c:CH)(s:tq):AT:=(Av c 8 s).2.2.2
def WU(d:D):Prop:=∃w r,d=.tup (.str w::r)/\PyData.strOk w=true/\∀x∈r,(∃i,x=.int i)\/∃s,x=.str s/\PyData.strOk s=true
variable{d:D}
theorem WU.dep(h:WU d)(k:Nat):qD (k+1) d:=by
 obtain⟨w,r,rfl,hw,b⟩:=h;refine .tup λx a=>?_;obtain rfl|a:=fO.1 a
 .exact .str _ _ hw
 .obtain⟨i,rfl⟩|⟨s,rfl,hs⟩:=b x a
  .exact .int _ _
  .exact .str _ _ hs
def vK{l:BA}(h:∀d∈l,WU d):D.bP l=true:=iK λd hd=>by
 obtain⟨w,r,rfl,_,b⟩:=h d hd;refine iK λx a=>?_;obtain rfl|a:=fO.1 a
 .rfl
 .obtain⟨i,rfl⟩|⟨s,rfl,_⟩:=b x a
  .rfl
  .rfl
def WV{l:BA}(h:∀d∈l,WU d){k:Nat}:qD (k+2) (.lst l):=.lst λd hd=>(h d hd).dep k
theorem aqx{m:Nat}{x:It}(h:oP m x)(bs:AT):WU (x.j bs).d:=by
 cases x with
 | oV q=>
  cases q with
  | put i a c=>exact⟨"put",[.int _,.int _,.int _],rfl,We,λx b=>.inl (by simp only[fO,kf,mI]at b;obtain rfl|rfl|rfl:=b<;>exact⟨_,rfl⟩)⟩
  | say s a c=>exact⟨"say",[.str s,.int _],rfl,We,λx b=>by
    simp at b;obtain rfl|rfl:=b
    .exact .inr ⟨_,rfl,h.1⟩
    .exact .inl Wm ⟩
  | call s=>exact⟨"call",_,rfl,We,λx b=>.inr ⟨s,j2.1 b,h⟩⟩
 | out i=>exact⟨"out",[.int i],rfl,We,λx b=>.inl ⟨i,j2.1 b⟩⟩
 | keep i p q=>exact⟨"keep",[.int i,.int p,.int q],rfl,We,λx b=>.inl (by simp at b;obtain rfl|rfl|rfl:=b<;>exact⟨_,rfl⟩)⟩
 | way i=>exact⟨"way",[.int i],rfl,We,λx b=>.inl ⟨i,j2.1 b⟩⟩
 | SG i=>exact⟨"in",[.int i],rfl,We,λx b=>.inl ⟨i,j2.1 b⟩⟩
theorem Ue{m:Nat}:∀{xs:List It} (bs:AT),(∀x∈xs,oP m x)->∀d∈(Eo xs bs).map J.d,WU d
 | [],_,_,d,hd=>by cases hd
 | x::xs,bs,h,d,hd=>by
  obtain rfl|hd:=fO.1 hd
  .exact aqx (h x fX) bs
  .exact Ue _ (λy a=>h y (i8 _ a)) d hd
theorem Qx{m:Nat}{xs:List It}(h:∀x∈xs,oP m x):∀x∈dm xs,PyData.strOk x=true:=λx b=>by
 obtain⟨i,hi,he⟩:=List.mem_filterMap.1 b;have d:=h i hi;cases i with
 | oV q=>
  cases q with
  | call s=>cases he;exact d
  | put i a c=>cases he
  | say s a c=>cases he
 | _=>cases he
section
variable{c:CH}
theorem Qy{s:tq}{j:Nat}(h:(Av c j s).2.1=[]):∀k,Av c (j+k) s=Av c j s
 | 0=>rfl
 | k+1=>by
  rw[← Nat.add_assoc,Av,Qy h k];generalize Av c j s=r at h ⊢;obtain⟨rs,w,p⟩:=r;simp_all
def Gk{s:tq}{j:Nat}{rs:BA}{sg:Str}{w:At}{a:Pl}{bs:AT}(h:Av c j s=(rs,sg::w,a,bs)) :
  Av c QA s=(rs++(D.tup [.str "sign",.str sg]::(Eo (goN c a sg bs).1 bs).map J.d),w++dm (goN c a sg bs).1,(goN c a sg bs).2,(goN c a sg bs).1.foldl It.af bs):=by
 rw[Av,h]
structure auQ(c:CH)(n:Nat)(j:Nat)(r:BA×tq):Prop where
 a:r.1.length<=401*j
 w:r.2.1.length<=n+400*j
 g:Gd c r.2.2.1
 b:r.2.2.2.length=c.bs.length
 i:D.bP r.1=true
theorem Gm(h:c.Ok){cs:At}{a:Pl}{bs:AT}(m:Gd c a)(k:bs.length=c.bs.length):∀j,auQ c cs.length j (Av c j (cs,a,bs))
 | 0=>⟨kr _,i5 _,m,k,rfl⟩
 | j+1=>by
  obtain⟨h1,h2,b,i,f⟩:=Gm h (cs:=cs) m k j;cases e:Av c j (cs,a,bs) with
  | mk rs r=>
   obtain⟨w,a2,b2⟩:=r;rw[e]at h1 h2 i f b;dsimp only at h1 h2 i f b;cases w with
   | nil=>
    rw[Av,e];exact⟨by dsimp only;lia,Wm,b,i,f⟩
   | cons sg w=>
    rw[Gk e];have g:=Mz h b sg b2;have s1:=g.l;have s3:(dm (goN c a2 sg b2).1).length<=(goN c a2 sg b2).1.length:=yl _ _;rw[lr]at h2;refine⟨?_,?_,g.n,?_,?_⟩
    .dsimp only;rw[kn,lr,e7,Ao];lia
    .dsimp only;rw[kn];lia
    .exact(ud _ _).trans i
    .refine iK λd hd=>?_;obtain z|z:=i3.1 hd
     .exact gY f d z
     .obtain rfl|z:=fO.1 z
      .rfl
      .exact gY (Ep _ _) d z
theorem Ug(h:c.Ok){cs:At}{a:Pl}(e:Gd c a)(b:bs.length=c.bs.length):(Gj c (cs,a,bs)).length<=4000/\D.bP (Gj c (cs,a,bs))=true:=by
 obtain⟨h1,h2,g,i,f⟩:=Gm h (cs:=cs) e b 8;unfold Gj;refine⟨?_,iK λd hd=>?_⟩
 .split<;>simp<;>lia
 .obtain z|z:=i3.1 hd
  .exact gY f d z
  .split at z
   .cases z
   .rw[j2.1 z];rfl
theorem Zs(h:c.Ok){cs:At}{a:Pl}{bs:AT}(n:Gd c a)(m:bs.length=c.bs.length)(l:∀x∈cs,PyData.strOk x=true):∀j,(∀x∈(Av c j (cs,a,bs)).2.1,PyData.strOk x=true)/\∀d∈(Av c j (cs,a,bs)).1,WU d
 | 0=>⟨l,λd hd=>absurd hd kf⟩
 | j+1=>by
  obtain⟨b,f⟩:=Zs h n m l j;obtain⟨_,_,o,_,_⟩:=Gm h n m j;cases e:Av c j _ with
  | mk rs r=>
   obtain⟨w,a2,b2⟩:=r;rw[e]at f o b;cases w with
   | nil=>
    rw[Av,e];exact⟨b,f⟩
   | cons sg w=>
    rw[Gk e];have k:=(Mz h o sg b2).g;refine⟨λx i=>?_,λd hd=>?_⟩
    .obtain z|z:=i3.1 i
     .exact b x (i8 _ z)
     .exact Qx k x z
    .obtain z|z:=i3.1 hd
     .exact f d z
     .obtain rfl|z:=fO.1 z
      .exact⟨ _,_,rfl,We,λx i=>.inr ⟨sg,j2.1 i,b sg Wm ⟩⟩
      .exact Ue b2 k d z
def agU(h:c.Ok){cs:At}{a:Pl}(g:Gd c a)(f:bs.length=c.bs.length)(e:∀x∈cs,PyData.strOk x=true):∀d∈Gj c (cs,a,bs),WU d:=λd hd=>by
 obtain z|z:=i3.1 hd
 .exact(Zs h g f e 8).2 d z
 .split at z
  .cases z
  .exact j2.1 z▸⟨ _,_,rfl,We,λx b=>.inl ⟨_,j2.1 b⟩⟩
end
def MA(c:CH):Pl:=(IQ c.ks c.es c.ss (List.replicate c.es.length (-1)) "new" 0,List.replicate c.es.length (-1))
def vN(c:CH):List It:=(inR c.is (MA c).1).map Ze
theorem agV(a:dG Qas Q1 es ss QcN)(h0:0<es.length):IQ ks es ss QcN "new" 0=iH Q1 es ss Qac:=by
 have b:=YX a (far:=false) (near:=false) (d:=es.length) h0 Wc;rw[WH]at b;assumption
noncomputable def WW(ks:At)(es:AT):KD ks es QcN:=⟨sT ..,λk a _=>.inl (by rw[lj,NG,dX a];rfl)⟩
def Qz{c:CH}(h:c.Ok):dG (aY c.ks) (av c.ks) c.es c.ss (List.replicate c.es.length (-1)):=h.k.tree (WW ..)
theorem Zp{c:CH}(h:c.Ok):Gd c (MA c)/\(vN c).map It.d=inR c.is (MA c).1/\(∀x∈vN c,oP c.bs.length x)/\(vN c).length<=200:=by
 have a:=Qz h;have n0:=h.k.n0;have n1:=h.k.n1;have b:=Ai a (far:=eX "new") (near:=g6 "new") (d:=c.es.length) n0;have e:=agV a n0;have f:=(Ga h.k.ir (MA c).1).1;have hlen:(MA c).1.length<=c.es.length:=b;obtain⟨i1,i2⟩:=Ya (l:=inR _ _) λd hd=>by
  obtain⟨m,_,z⟩:=l4.1 hd;obtain rfl|z:=fO.1 z
  .exact⟨.SG m,rfl,trivial⟩
  .exact(My h.i _ d z).it
 exact⟨⟨ _,⟨h.k.sl,h.k.st⟩,e,WW ..⟩,i1,i2,by show(List.map _ _).length<=200;simp;lia⟩
def al2{ws:QU}:∀k∈OW ws ops vs sg es l,0<=k/\k<ws.length:=λk a=>by
 obtain⟨leaf,_,z⟩:=l4.1 (YA.1 a);exact Mw (k3.1 (rf z)).1
def gu(es:AT)(k:Nat):AT:=if (12:Int)<(([(k:Int)]++bL es k).length:Nat) then cutD ([(k:Int)]++bL es k) (some 1) none else [(k:Int)]++bL es k
theorem Di{k:Nat}(h:fj es)(f:k+1=es.length):0<(gu es k).length/\(gu es k).length<=es.length+2/\∀x∈gu es k,0<=x/\x<es.length:=by
 have hm:∀x∈[(k:Int)]++bL es k,0<=x/\x<es.length:=λx a=>by
  obtain h1|h1:=i3.1 a
  .have:x=k:=by simp_all
   lia
  .have d:=h.at (k:=k) Wc Wc;have:=L7 h _ d.1 Wc h1;lia
 have c:([(k:Int)]++bL es k).length<=es.length+2:=by
  have:=xu (es.length+1) es (es.getD (k:Int).toNat 0);rw[kn];unfold bL;simp only[lr,List.length_nil];lia
 unfold gu;split
 .have e:cutD ([(k:Int)]++bL es k) (some 1) none=bL es k:=by simp[cutD,HT.Il]
  rw[e];have b:=kn (as:=[(k:Int)]) (bs:=bL es k);simp only[lr,List.length_nil]at b;exact⟨Wc,Wc,λx a=>hm x (js _ a)⟩
 .exact⟨Wm,c,hm⟩
theorem getD_mem(h:n<l.length):l.getD n 0∈l:=by simp_all
theorem MB{k:Nat}(a:x∈gu es k):x=k\/x∈bL es k:=by
 have hm:=by
  unfold gu at a;split at a
  .exact List.mem_of_mem_drop (rf a)
  .exact a
 simp_all
def agW:nh [-1]:=⟨λk a=>by
  have:=by simpa using a
  subst this;exact⟨Int.le_refl _,Wl⟩,λk a=>by simp at a⟩
def p7(m:Nat)(p:Int):Int:=p % ((m:Int)+1)-1
noncomputable def w7(m:Nat)(p:Int):Int:=p / ((m:Int)+1) / 3
def t5(m:Nat)(p:Int):Int:=if p / ((m:Int)+1) % 3=0 then w7 m p % (2*10 ^ (9:Int).toNat+1)-10 ^ (9:Int).toNat else w7 m p % 7-3
def o6(m:Nat)(p:Int):Int:=if p / ((m:Int)+1) % 3=0 then w7 m p / (2*10 ^ (9:Int).toNat+1) else w7 m p / 7
def wN(k:Int):Str:=("w":Str)++(toString k:Str)
theorem oW{n:Int}(a:0<n)(c:n<4294967296):0<n/\n.natAbs.log2<9000:=⟨a,by
 have:n.natAbs≠0:=by lia
 rw[Nat.log2_lt this];grind⟩
def y5(s es:AT)(k:Nat):Int:=(gu es k).getD (fS s ((k:Int)+1) % ((gu es k).length:Nat)).toNat 0
def WX(s:AT):Nat->AT
 | 0=>[-1]
 | j+1=>WX s j++[y5 s (WX s j) j]
theorem Uh(s:AT):∀j,(WX s j).length=j+1/\nh (WX s j)
 | 0=>⟨rfl,agW⟩
 | j+1=>by
  obtain⟨h1,h2⟩:=Uh s j;obtain⟨e,d,c⟩:=Di h2.1 h1.symm;refine⟨by show(WX s j++_).length=_;simp_all,?_⟩;have a:=getD_mem (l:=gu (WX s j) j) (n:=(fS s QA % ((gu (WX s j) j).length)).toNat) (by
   have:=l2 (fS s QA) (b:=((gu (WX s j) j).length)) Wc;lia)
  exact h2.snoc h1.symm (MB a)
noncomputable def E7:AT:=[-1,0,1,1,0,4,4]
def IW(s:AT)(n st:Nat):AT:=if st=1 then E7 else WX s (n-1)
theorem aqz:nh E7:=by
 refine⟨λk a=>?_,λk a=>?_⟩
 .have:∀k,k<7->-1<=E7.getD k 0/\E7.getD k 0<k:=by decide +kernel
  exact this k a
 .have a:k<6:=by have:k+1<7:=a;lia
  have:∀k,k<6->E7.getD (k+1) 0=k\/E7.getD (k+1) 0∈bL E7 k:=by decide +kernel
  exact this k a
variable{st:Nat}
theorem Zl(s:AT)(a:1<=n):(IW s n st).length=(if st=1 then 7 else n)/\nh (IW s n st):=by
 unfold IW;split
 .exact⟨rfl,aqz⟩
 .have:=Uh s (n-1);simp_all
noncomputable def uk:At:=["one","one","all"]
def RW(s:AT)(st:Nat)(es:AT)(k:Nat):Str:=if jo es (k:Int)=[] then "leaf" else if st=1 then(if k=0 then "all" else "one") else(["one","all",uk.getD st Str.empty]:At).getD (fS s (k:Nat) / 60 % 3).toNat Str.empty
def VR(s:AT)(st:Nat)(es:AT)(k:Nat):Int:=if RW s st es k="one" then(jo es (k:Int)).getD (fS s (k:Nat) / 180 % ((jo es (k:Int)).length:Nat)).toNat 0 else -1
theorem Ui{s:AT}(h:st<3)(es:AT)(k:Nat):(RW s st es k="leaf" /\ jo es k=[])\/((RW s st es k="one" \/ RW s st es k="all")/\jo es k≠[]):=by
 unfold RW;by_cases e:jo es k=[]
 .exact dX e ▸ .inl ⟨rfl,e⟩
 .rw[dP e];refine .inr ⟨?_,e⟩;split
  .split
   .exact .inr rfl
   simp
  .have:∀st,st<3->∀j,j<3->(["one","all",uk.getD st Str.empty]:At).getD j Str.empty="one" \/ (["one","all",uk.getD st Str.empty]:At).getD j Str.empty="all":=by decide +kernel
   exact this st h _ Wc
def Ew(s:AT)(st:Nat)(es:AT)(n:Nat):At:=(List.range n).map (RW s st es)
def KP(s:AT)(st:Nat)(es:AT)(n:Nat):AT:=(List.range n).map (VR s st es)
def Zh{s:AT}{k:Nat}(h:k<n):(Ew s st es n).getD k Str.empty=RW s st es k:=by
 unfold Ew;rw[lj,ll,oD h];rfl
def al5{s:AT}{k:Nat}(h:k<n):(KP s st es n).getD k 0=VR s st es k:=by
 unfold KP;rw[lj,ll,oD h];rfl
theorem Y2{s:AT}(h:st<3){k:Nat}(e:RW s st es k="one"):VR s st es k∈jo es k:=by
 have a:jo es k≠[]:=by
  obtain z|z:=Ui h es k
  .rw[z.1]at e;exact absurd e We
  .exact z.2
 have c:=List.length_pos_iff.2 a;unfold VR;have h1:=l2 (fS s k / 180) (b:=((jo es k).length)) Wc;simp_all
def aqA(es:AT)(k:Int):((fD 0 ((es.length:Nat):Int).toNat).filter λd=>decide (es.getD d.yc.toNat 0=k)).map (λd=>T.sh d)=((jo es k).map D.int).map T.sh:=by
 unfold jo fD;rw[so,kq,kq,kq];have e:((λd=>decide (es.getD d.yc.toNat 0=k))∘λ(i:Nat)=>D.int (0+i))=λi=>decide (es.getD i 0=k):=by
  funext i;show decide (es.getD (0+(i:Int)).toNat 0=k)=_;rw[vw,ky]
 rw[e];exact oC λi _=>by simp
theorem ug(h:j<n):Dy n (j:Int)=some j:=by simp_all [Dy]
def MC{l:Q3}{a b:α}(h:l.length=j):(l++[a]).set j b=l++[b]:=by
 subst h;rw[List.set_append_right _ _ (i5 _),Nat.sub_self];rfl
def QB(s:AT)(st:Nat)(es:AT)(j:Nat):((Ew s st es j).map D.str).map T.sh++[T.sh (.str (RW s st es j))]=((Ew s st es QA).map D.str).map T.sh:=by
 unfold Ew;rw[List.range_succ,kc,kc,kc];rfl
def QC(s:AT)(st:Nat)(es:AT)(j:Nat):((KP s st es j).map D.int).map T.sh++[T.sh (.int (VR s st es j))]=((KP s st es QA).map D.int).map T.sh:=by
 unfold KP;rw[List.range_succ,kc,kc,kc];rfl
def xi(s:AT)(st:Nat)(es:AT)(k:Nat):Str:=if jo es (k:Int)=[] then "leaf" else(["one","all",uk.getD st Str.empty]:At).getD (fS s (k:Nat) / 60 % 3).toNat Str.empty
def pf(m:Nat)(hs:At)(p:Int):dJ:=
 if p % 5<2/\0<m then .put (p / 5 % (m:Int)) (p7 m (p / 5 / (m:Int))) (t5 m (p / 5 / (m:Int)))
 else if p % 5<4 then .say (wN (p / 5 % 3)) (p7 m (p / 5 / 3)) (t5 m (p / 5 / 3))
 else .call (hs.getD (p / 5 % (hs.length:Int)).toNat Str.empty)
def zi(m:Nat)(hs:At)(p:Int):Int:=
 if p % 5<2/\0<m then o6 m (p / 5 / (m:Int)) else if p % 5<4 then o6 m (p / 5 / 3) else p / 5 / (hs.length:Int)
def qC(m:Nat)(hs:At)(p:Int):Nat->Int
 | 0=>p
 | j+1=>zi m hs (qC m hs p j)
def nN(m:Nat)(hs:At)(p:Int)(n:Nat):List dJ:=(List.range n).map λj=>pf m hs (qC m hs p j)
def xc(c:Int)(m:Nat)(hs:At):List dJ:=nN m hs (c % 10 ^ (64:Int).toNat / 13 / 4) ([0,1,0,2].getD (c % 10 ^ (64:Int).toNat / 13 % 4).toNat 0)
theorem WY(m:Nat)(p:Int):pO m (p7 m p):=by
 have h0:=me p (b:=m+1) Wc;have h1:=l2 p (b:=m+1) Wc;unfold pO p7;lia
def aqC:∀k:Nat,k<3->PyData.strOk (wN (k:Int))=true:=by decide +kernel
variable{hs:At}
theorem al6{m:Nat}(h0:0<hs.length)(a:∀x∈hs,PyData.strOk x=true)(p:Int):oP m (.oV (pf m hs p)):=by
 unfold pf;split
 .exact⟨⟨me _ Wc,l2 _ Wc⟩,WY _ _⟩
 .split
  .refine⟨?_,WY _ _⟩;have:=aqC (p / 5 % 3).toNat Wc;grind
  .have b:=l2 (p / 5) (b:=hs.length) Wc;apply a _;simp_all
def Y1{m:Nat}(h0:0<hs.length)(b:∀x∈hs,PyData.strOk x=true)(p:Int)(n:Nat):(nN m hs p n).length=n/\D.bP ((nN m hs p n).map dJ.d)=true/\∀d∈(nN m hs p n).map dJ.d,p6 m d:=by
 refine⟨by unfold nN;simp,eB sL _,λd hd=>?_⟩;obtain⟨q,a,rfl⟩:=j0.1 hd;obtain⟨j,_,rfl⟩:=j0.1 a;exact⟨_,rfl,al6 h0 b _⟩
def si(m n:Nat)(p:Int):uf:=if p % 6<2 then .DL (decide (p % 6=0)) (p / 6 % (n:Int)) else .num (Qu.getD (p % 6-2).toNat Str.empty) (p7 m (p / 6)) (t5 m (p / 6)) (p7 m (o6 m (p / 6))) (t5 m (o6 m (p / 6)))
def IJ(m n:Nat)(p:Int):Int:=if p % 6<2 then p / 6 / (n:Int) else o6 m (o6 m (p / 6))
def sk(m n:Nat)(p:Int):Nat->Int
 | 0=>p
 | j+1=>IJ m n (sk m n p j)
def EU(m n:Nat)(p:Int)(k:Nat):List uf:=(List.range k).map λj=>si m n (sk m n p j)
theorem al7{m:Nat}(b:0<n)(a:bs.length=m)(p:Int):(si m n p).Ok n bs:=by
 subst a;unfold si;split
 .exact⟨me _ Wc,l2 _ Wc⟩
 .refine⟨?_,WY _ _,WY _ _⟩;have c:(p % 6-2).toNat<Qu.length:=by show _<4;lia
  simp_all
noncomputable def rr:AT:=[2,5,3,6]
noncomputable def y4:At:=["new","near","far"]
def IM:CO:=[0,1,1,2]
section
variable(c:Int)(n m:Nat)(hs:At)(st:Nat)
noncomputable def wU:Int:=c % 10 ^ (64:Int).toNat / (n:Int)
def tJ:Int:=wU c n / (hs.length:Int)
def wz:Int:=tJ c n hs / ((n:Int)+1)
def wy:Int:=wz c n hs / 3
def t4:Nat:=IM.getD (wy c n hs % 4).toNat 0
def y0:Int:=wy c n hs / 4
def yY:Int:=sk m n (y0 c n hs) (t4 c n hs)
def y1:Nat:=(yY c n m hs % 3).toNat
def nr:Int:=if st=1 then rr.getD (c % 10 ^ (64:Int).toNat % (n:Int) % 4).toNat 0 else c % 10 ^ (64:Int).toNat % (n:Int)
def o4:Int:=tJ c n hs % ((n:Int)+1)-1
def sd(x:Int):AT:=((List.range 7).filter λ(a:Nat)=>decide (E7.getD a 0=E7.getD x.toNat 0)).map λ(a:Nat)=>(a:Int)
def o3:Int:=if st=1/\o4 c n hs % 2=0 then(sd (nr c n st)).getD (o4 c n hs / 2 % 2).toNat 0 else o4 c n hs
def w1:Str:=if o3 c n hs st=-1 then "new" else y4.getD (wz c n hs % 3).toNat Str.empty
def o2:bT:=⟨nr c n st,hs.getD (wU c n % (hs.length:Int)).toNat Str.empty,(EU m n (y0 c n hs) (t4 c n hs)).map sN,(nN m hs (yY c n m hs / 3) (y1 c n m hs)).map dJ.d,o3 c n hs st,w1 c n hs st⟩
end
def YU:∀k:Nat,k<4->0<=rr.getD k 0/\rr.getD k 0<7/\(sd (rr.getD k 0)).length=2/\∀x∈sd (rr.getD k 0),0<=x/\x<7:=by decide +kernel
theorem YP(a:0<n)(h:st=1->n=7):0<=nr c n st/\nr c n st<n:=by
 unfold nr;split
 .have:=YU (c % 10 ^ (64:Int).toNat % n % 4).toNat Wc;lia
 .exact⟨me _ Wc,l2 _ Wc⟩
theorem YO(e:st=1)(k:Int):(sd (nr c n st)).length=2/\∀x∈sd (nr c n st),0<=x/\x<7:=by
 unfold nr;exact dX e▸(YU _ Wc).2.2
theorem ama(d:0<n)(h:st=1->n=7):o3 c n hs st=-1\/(0<=o3 c n hs st/\o3 c n hs st<n):=by
 unfold o3;split
 .rename_i e;have:=h e.1;obtain⟨b1,b2⟩:=YO (c:=c) (n:=n) e.1 0;have b:=l2 (o4 c n hs / 2) (b:=2) Wl;simp_all
 .have a:=me (tJ c n hs) (b:=n+1) Wc;have b:=l2 (tJ c n hs) (b:=n+1) Wc;unfold o4;lia
def amb:∀k:Nat,k<3->t8 (y4.getD k Str.empty):=by
 intro k a
 match k,a with
 | 0,_=>exact .inl rfl
 | 1,_=>exact .inr Qae
 | 2,_=>exact .inr QaG
noncomputable def qr:At:=["go","go2","ago"]
noncomputable def y8:AT:=[5,10 ^ (30:Int).toNat]
def xt(s:AT)(k:Nat):Str×Int:=(("b":Str)++(toString (k:Int):Str),fS s (10+(k:Int)) % 10 ^ (30:Int).toNat % y8.getD (k % 2) 0-2)
noncomputable def xf(k:Nat):Str:=("m":Str)++(toString (k:Int):Str)
section
variable(SL:CO)(mm:Nat)(s:AT)
def vb:Int:=fS s 0 % 10 ^ (9:Int).toNat
def cst:Nat:=SL.getD (vb s % 8).toNat 0
def r4:Int:=vb s / 8
def cmd:Nat:=(1+r4 s % (mm:Int)).toNat
def xp:Int:=r4 s / (mm:Int)
def WZ:Nat:=(xp mm s % 4).toNat
def xn:Int:=xp mm s / 4
def r0:Nat:=(1+xn mm s % 8).toNat
def xm:Int:=xn mm s / 8
def zp:At:=qr.take (1+xm mm s % 3).toNat
def r3:Int:=xm mm s / 3
def ov:At:=if cst SL s=1/\0<r3 mm s % 3 then ["go"] else zp mm s
def HA:Int:=if cst SL s=1 then r3 mm s / 3 else r3 mm s
def vg:Nat:=if cst SL s=2 then(11+HA SL mm s % 20).toNat else cmd mm s
def uY:AT:=IW s (vg SL mm s) (cst SL s)
def va:List bT:=eK bT.src ((List.range (r0 mm s)).map λ(k:Nat)=>o2 Qc4 (uY SL mm s).length (WZ mm s) (ov SL mm s) (cst SL s))
def ph(j:Int):ES:=(List.range (uY SL mm s).length).map λ(k:Nat)=>(xc (fS s (j+(k:Int))) (WZ mm s) (ov SL mm s)).map dJ.d
def qU:CH:=⟨(List.range (WZ mm s)).map (xt s),((List.range (uY SL mm s).length).map xf).map .str,Ew s (cst SL s) (uY SL mm s) (uY SL mm s).length,uY SL mm s,KP s (cst SL s) (uY SL mm s) (uY SL mm s).length,ph SL mm s 1,ph SL mm s 2,va SL mm s⟩
end
section
variable{SL:CO}{mm:Nat}{s:AT}
theorem Uj(h:∀x∈SL,x<3):cst SL s<3:=by
 unfold cst;simp;cases e:SL[(vb s % 8).toNat]? with
 | none=>decide
 | some x=>exact h x (l3 e)
theorem MD:0<(ov SL mm s).length/\(ov SL mm s).length<=3/\∀x∈ov SL mm s,PyData.strOk x=true:=by
 have c:∀x∈qr,PyData.strOk x=true:=by decide +kernel
 have b:qr.length=3:=rfl;unfold ov;split
 .refine⟨Wl,Wl,λx a=>?_⟩;rw[j2.1 a];decide +kernel
 .unfold zp;grind
theorem SI(h:1<=mm/\mm<=10):1<=vg SL mm s/\vg SL mm s<=30:=by
 have c:=me (r4 s) (b:=mm) Wc;have d:=l2 (r4 s) (b:=mm) Wc;unfold vg cmd;lia
theorem MF(h:1<=mm/\mm<=10):(1<=(uY SL mm s).length/\(uY SL mm s).length<=30)/\nh (uY SL mm s)/\(cst SL s=1->uY SL mm s=E7):=by
 have a:=SI (SL:=SL) (s:=s) h;obtain⟨h1,h2⟩:=Zl s a.1;refine⟨?_,h2,λe=>?_⟩
 .show 1<=(IW _ _ _).length/\(IW _ _ _).length<=30;rw[h1];split<;>lia
 .unfold uY IW;rw[dX e]
theorem Me:WZ mm s<=3:=by
 unfold WZ;lia
theorem SH:1<=r0 mm s/\r0 mm s<=8:=by
 unfold r0;lia
theorem Gn(j:Int):(ph SL mm s j).length=(uY SL mm s).length/\∀l∈ph SL mm s j,(l.length<=2/\D.bP l=true)/\∀d∈l,p6 (WZ mm s) d:=by
 refine⟨by unfold ph;simp,λl a=>?_⟩;obtain⟨k,_,rfl⟩:=j0.1 a;obtain⟨c1,e,c⟩:=MD;obtain⟨d1,d2,b⟩:=Y1 c1 c _ _;refine⟨⟨?_,d2⟩,b⟩;simp;show(nN _ _ _ _).length<=2;rw[d1];have:∀j,j<4->[0,1,0,2].getD j 0<=2:=by decide +kernel
 exact this _ Wc
structure NI(n m:Nat)(hs:At)(w:bT):Prop where
 i:yn n w
 q:∀bs:AT,bs.length=m->∃l:List uf,w.asks=l.map sN/\l.length<=2/\∀a∈l,a.Ok n bs
 d:∀d∈w.Dh,p6 m d
 s:w.sign∈hs
theorem Uk{m:Nat}(d:0<n)(e:st=1->n=7)(h0:0<hs.length)(h1:∀x∈hs,PyData.strOk x=true):NI n m hs (o2 c n m hs st):=by
 obtain⟨d1,d2,h⟩:=Y1 h0 h1 _ _;have g1:=l2 (wU c n) (b:=hs.length) Wc;have i:t4 c n hs<=2:=by
  have:∀j,j<4->IM.getD j 0<=2:=by decide +kernel
  exact this _ Wc
 refine⟨⟨YP d e,ama d e,?_,?_,d2,eB Gf _⟩,λbs f=>⟨_,rfl,?_,λa g=>?_⟩,h,?_⟩
 .show t8 (w1 c n hs st);unfold w1;split
  .exact .inl rfl
  .exact amb _ Wc
 .show((nN _ _ _ _).map _).length<=2;rw[e7,d1];unfold y1;lia
 .unfold EU;simp_all
 .obtain⟨j,_,rfl⟩:=j0.1 g;exact al7 d f _
 .show hs.getD _ _∈hs;simp_all
theorem Ul(h:1<=mm/\mm<=10):(va SL mm s).length<=8/\∀w∈va SL mm s,NI (uY SL mm s).length (WZ mm s) (ov SL mm s) w:=by
 obtain⟨c1,c,b⟩:=MF (SL:=SL) (s:=s) h;obtain⟨d1,d2,a⟩:=MD;refine⟨?_,λw hw=>?_⟩
 .unfold va;rw[(jm _).length_eq,e7,n6];exact SH.2
 .obtain⟨k,_,rfl⟩:=j0.1 ((jm _).mem_iff.1 hw);exact Uk Wc (λe=>by rw[b e];rfl) d1 a
theorem T2(o:∀x∈SL,x<3)(h:1<=mm/\mm<=10):(qU SL mm s).Ok:=by
 obtain⟨c1,p,r⟩:=MF (SL:=SL) (s:=s) h;obtain⟨n,g⟩:=Ul (SL:=SL) (s:=s) h;have i1:=Gn (SL:=SL) (mm:=mm) (s:=s) 1;have i2:=Gn (SL:=SL) (mm:=mm) (s:=s) 2;have j:=Uj (SL:=SL) (s:=s) o;have c:(qU SL mm s).bs.length=WZ mm s:=by show(List.map _ _).length=_;rw[e7,n6]
 have a:∀f:Nat->Str,((List.range (uY SL mm s).length).map f).length=(uY SL mm s).length:=λf=>by rw[e7,n6]
 refine⟨⟨c1.1,by have:=c1.2;show(uY SL mm s).length<=40;lia,a _,by show(List.map _ _).length=_;rw[e7,n6];rfl,i1.1,i2.1,λk b=>?_,p,λk b e=>?_,λl a=>(i1.2 l a).1,λl a=>(i2.2 l a).1,λw hw=>(g w hw).i,n⟩,λbs m w hw=>?_,?_,?_,?_,by show(List.map _ _).length=_;rw[e7];exact a _,?_⟩
 .have b:k<(uY SL mm s).length:=b;have e:=Zh (s:=s) (st:=cst SL s) (es:=uY SL mm s) b;have e:(qU SL mm s).ks.getD ((k:Int)).toNat Str.empty=RW s (cst SL s) (uY SL mm s) k:=by rw[ky];exact e
  unfold aY cA av;rw[e];rcases Ui j (uY SL mm s) k (s:=s) with z|⟨z|z,_⟩
  .rw[z.1];exact .inl ⟨We,We,We,z.2⟩
  .rw[z];exact .inr (.inl ⟨We,We,We⟩)
  .rw[z];exact .inr (.inr ⟨We,We,We⟩)
 .have b:k<(uY SL mm s).length:=b;have e1:=Zh (s:=s) (st:=cst SL s) (es:=uY SL mm s) b;have e2:RW s (cst SL s) (uY SL mm s) k="one":=by
   rw[← e1];unfold cA at e;rw[ky]at e;exact ko e
  show(KP s (cst SL s) (uY SL mm s) (uY SL mm s).length).getD k 0∈_;rw[al5 b];exact Y2 j e2
 .rw[c]at m;exact(g w hw).q bs m
 .rw[c];exactλl a=>(i1.2 l a).2
 .rw[c];exactλl a=>(i2.2 l a).2
 .rw[c];exactλw hw=>(g w hw).d
 .rw[c];have:=Me (mm:=mm) (s:=s);lia
end
variable{w:bT}
def Gp(h:yn n w):(iS w).tQ=true:=by
 obtain⟨_,_,_,_,h1,h2⟩:=h;unfold iS;rw[D.tQ,D.bP,D.bP,D.bP,D.bP,D.tQ,D.tQ,h1,h2];rfl
def Aw(a c:Int)(k:Nat):qD (k+1) (.tup [.int a,.int c]):=.tup λd hd=>by
 simp only[fO,kf,mI]at hd;obtain rfl|rfl:=hd<;>exact .int _ _
theorem QD{m:Nat}(h:p6 m d)(k:Nat):qD (k+2) d:=by
 obtain⟨q,rfl,a⟩:=h;refine .tup λd hd=>?_;cases q with
 | put x b n=>
  simp only[dJ.w,dJ.ds,fO,kf,mI]at hd;obtain rfl|rfl|rfl:=hd
  .exact .str _ _ We
  .exact .int _ _
  .exact Aw _ _ _
 | call s=>
  simp only[dJ.w,dJ.ds,fO,kf,mI]at hd;obtain rfl|rfl:=hd
  .exact .str _ _ We
  .exact .str _ _ a
 | say s b n=>
  simp only[dJ.w,dJ.ds,fO,kf,mI]at hd;obtain rfl|rfl|rfl:=hd
  .exact .str _ _ We
  .exact .str _ _ a.1
  .exact Aw _ _ _
theorem ag0{a:uf}(h:a.Ok n bs)(k:Nat):qD (k+2) (sN a):=by
 cases a with
 | DL op m=>
  refine .tup λd hd=>?_;simp only[fO,kf,mI]at hd;obtain rfl|rfl:=hd
  .exact .str _ _ (by cases op<;>decide +kernel)
  .exact .int _ _
 | num mk b1 m1 b2 m2=>
  refine .tup λd hd=>?_;simp only[fO,kf,mI]at hd;obtain rfl|rfl|rfl:=hd
  .exact .str _ _ (agH _ h.1)
  .exact Aw _ _ _
  .exact Aw _ _ _
def ag1{m:Nat}(h1:∀x∈hs,PyData.strOk x=true)(h:NI n m hs w)(k:Nat):qD (k+4) (iS w):=.tup λd hd=>by
 simp only[fO,kf,mI]at hd;obtain rfl|rfl|rfl|rfl|rfl|rfl:=hd
 .exact .int _ _
 .exact .str _ _ (h1 _ h.s)
 .obtain⟨l,e,_,b⟩:=h.q (List.replicate m 0) sT;rw[e];refine .tup λd hd=>?_;obtain⟨a,c,rfl⟩:=j0.1 hd;exact ag0 (b a c) _
 .exact .tup λd hd=>QD (h.d d hd) _
 .exact .int _ _
 .exact .str _ _ (by obtain e|e|e:=h.i.2.2.1<;>rw[e]<;>decide +kernel)
def OH:∀k:Nat,k<100->PyData.strOk (("b":Str)++(toString (k:Int):Str))=true/\PyData.strOk (xf k)=true:=by decide +kernel
def Dj(c:CH):BA:=[.lst (c.bs.map An),.lst c.nm,.lst (c.is.map .tup),.lst (c.os.map .tup),.lst (c.ws.map iS),.lst (c.ks.map .str),.lst (c.es.map .int),.lst (c.ss.map .int)]
def sQ(l:AT)(k:Nat):qD (k+1) (.lst Qbt):=.lst λd hd=>by
 obtain⟨i,_,rfl⟩:=j0.1 hd;exact .int _ _
theorem W0{SL:CO}{mm:Nat}{s:AT}(g:∀x∈SL,x<3)(hm:1<=mm/\mm<=10)(k:Nat):qD (k+6) (.lst (Dj (qU SL mm s))):=.lst λd hd=>by
 obtain⟨_,_,h⟩:=MD (SL:=SL) (mm:=mm) (s:=s);obtain⟨e1,_,_⟩:=MF (SL:=SL) (s:=s) hm;have c:∀j,qD (k+5) (.lst ((ph SL mm s j).map .tup)):=λj=>.lst λd hd=>by
  obtain⟨l,f,rfl⟩:=j0.1 hd;exact .tup λd hd=>QD (((Gn j).2 l f).2 d hd) _
 unfold Dj at hd;simp only[fO,kf,mI]at hd;obtain rfl|rfl|rfl|rfl|rfl|rfl|rfl|rfl:=hd
 .refine .lst λd hd=>?_;obtain⟨x,a,rfl⟩:=j0.1 hd;obtain⟨i,b,rfl⟩:=j0.1 a;have b:=mD.1 b;have:=Me (mm:=mm) (s:=s);refine .tup λd hd=>?_;simp only[fO,kf,mI]at hd;obtain rfl|rfl:=hd
  .exact .str _ _ (OH i Wc).1
  .exact .int _ _
 .refine .lst λd hd=>?_;obtain⟨x,a,rfl⟩:=j0.1 hd;obtain⟨i,b,rfl⟩:=j0.1 a;have b:=mD.1 b;exact .str _ _ (OH i Wc).2
 .exact c 1
 .exact c 2
 .refine .lst λd hd=>?_;obtain⟨w,hw,rfl⟩:=j0.1 hd;exact ag1 h ((Ul hm).2 w hw) _
 .refine .lst λd hd=>?_;obtain⟨x,a,rfl⟩:=j0.1 hd;obtain⟨i,_,rfl⟩:=j0.1 a;exact .str _ _ (by rcases Ui (s:=s) (Uj (s:=s) g) (uY SL mm s) i with⟨e,_⟩|⟨e|e,_⟩<;>rw[e]<;>decide +kernel)
 .exact sQ _ _
 .exact sQ _ _
seal L3.eW L3.Ss L3.cO L3.dM L3.wZ L3.IB L3.X4
abbrev BX:=top 65
abbrev BZ:=AT×Int
abbrev KQ:At:=["script","k"]
def ni:BZ->BA:=λ(ns,j)=>[.lst (ns.map .int),.int j]
def nj:BZ->Prop:=λ(ns,j)=>0<=j
def nu:BZ->T:=λ(ns,j)=>(.sh (.int (fS ns j)):T)
structure Zf(X:Cx)(CL:BC):Prop extends bD X where
 bR:Ln X 0 "script"
 RX:Ln X 1 "k"
 g8:Gl X "len"
 g9:lJ X "len"
variable{X:Cx}{CL:BC}{b:Bx}
def Zg(E:Zf X CL) :
  lV X CL b BX KQ ni nj nu:=by
 rintro⟨ns,j⟩ h;refine fQ (Ka (aH E.RX) (aE (Ea E.g9 Qby E.g8))).1 (λa=>?_) (λa=>?_)
 .have e:=by simpa using of_decide_eq_true a
  apply bu (cX (bH Qby (aH E.RX) (gP h e)) rfl);show T.sh _=T.sh _;rw[fS,dX e]
 .have e:¬ j<ns.length:=by simpa using of_decide_eq_false a
  refine ak (bu aZ ?_);show T.sh _=T.sh _;rw[fS,dP e]
def uh:FG KQ ["script","k"] ["len"] (ai BX):=fG
abbrev Um:=top 66
abbrev MG:=Addr×Int×Int
noncomputable abbrev T1:At:=["pot","many","digit"]
noncomputable def kR:MG->B1:=λ(y,p,m)=>[.pin y (.lst [.sh (.int p)]),.sh (.int m)]
noncomputable def kT:MG->B1:=λ(y,p,m)=>[.pin y (.lst [.sh (.int (p / m))]),.sh (.int m)]
def pre_take:MG->Prop:=λ(y,p,m)=>0<m/\m.natAbs.log2<9000
noncomputable def kU:MG->T:=λ(y,p,m)=>(.sh (.int (p % m)):T)
structure amf(X:Cx)(CL:BC):Prop extends bD X where
 dg:Ln X 0 "pot"
 dH:Ln X 1 "many"
 W2:Ln X 2 "digit"
def amg(E:amf X CL) :
  oT X CL b Um T1 kR pre_take kU kT:=by
 rintro⟨y,p,m⟩ h;exact aO E.g E.W2 (ji (aE (xq (j6 (bE E.dg.1 rfl) rfl rfl aj rfl) rfl rfl)) (aH E.dH) h.1) (yL (abS (aE (xq (j6 (bE E.dg.1 rfl) rfl rfl aj rfl) rfl rfl)) (aH E.dH) h) (bE E.dg.1 rfl) aj rfl rfl rfl (bu (v_ E.W2.1) ⟨rfl,kO (ds:=[_])⟩))
def Ex:FG T1 ["pot","many"] [] (ai Um):=fG
abbrev Uo:=top 67
abbrev Up:=AT×Int
noncomputable abbrev TZ:At:=["elders","at","chain"]
noncomputable def Gq:Up->BA:=λ(es,m)=>[.lst QbV,.int m]
def Gr:Up->Prop:=λ(es,m)=>fj es/\0<=m/\m<es.length/\es.length<=1000
def Gs:Up->T:=λ(es,m)=>(.lst (((m::bL es m).map .int).map T.sh):T)
structure amh(X:Cx)(CL:BC):Prop extends bD X where
 eL:Ln X 0 "elders"
 B3:Ln X 1 "at"
 jR:Ln X 2 "chain"
theorem ami(E:amh X CL) :
  lV X CL b Uo TZ Gq Gr Gs:=by
 rintro⟨es,m⟩ h;obtain⟨f,h0,h1,hlen⟩:=h;apply aO E.g E.jR (aU (cj (ay (v_ E.B3.1) aQ) aL) rfl);apply Lx E.g (λn δ=>∃(k:Int) (l:AT),δ=[some _,some _,some (.lst (((l++[k]).map _).map _))]/\0<=k/\k<es.length/\k.toNat=n/\l++k::bL es k=m::bL es m) _ ⟨m,[],rfl,h0,h1,rfl,rfl⟩;rintro n δ ⟨k,l,rfl,k0,k1,k2,a⟩;have o:=f.at k0 k1;have i:vf ((l++[k]).map D.int) (-1)=some (.int k):=kc▸E6 _ _;have c:=gi f k0 k1;have hle:(m::bL es m).length<=es.length+2:=by rw[lr];have:(bL es m).length<=es.length+1:=xu _ _ _;lia
 refine⟨_,_,(Lp (bH (aH E.eL) (bH (vL E.jR.1) Qbb i) (gP k0 k1)) Qbb).1,λd=>?_,λd=>?_⟩
 .have e:¬ es.getD k.toNat 0=-1:=by simpa using d
  rw[dP e]at c;have j:(l++[k]).length<=1100:=by
   have:=congrArg List.length a;rw[kn]at this;rw[kn,sE];lia
  refine jH E.jR.1 rfl (cX (bH (aH E.eL) (bH (vL E.jR.1) Qbb i) (gP k0 k1)) rfl) rfl (by rw[e7,e7];lia) (ak ⟨ _,Wc,es.getD k.toNat 0,l++[k],?_,Wc,Wc,rfl,?_⟩)
  .rw[kc (l₂:=[es.getD _ 0]),kc (l₂:=[es.getD _ 0].map _)];rfl
  .rw[← a,c,jw];rfl
 .have e:es.getD k.toNat 0=-1:=by simpa using d
  rw[dX e]at c;rw[c]at a;exact a▸bu (vM E.jR.1) rfl
def Ey:FG TZ ["elders","at"] [] (ai Uo):=fG
abbrev Gu:=top 68
abbrev Gv:=AT×Nat×Nat
noncomputable abbrev QF:At:=["script","moods","style","elders","k","chain"]
noncomputable def yT:Gv->BA:=λ(s,n,st)=>[.lst (s.map .int),.int n,.int st]
def yU:Gv->Prop:=λ(s,n,st)=>s.length<=1000/\1<=n/\n<=40
def yV:Gv->T:=λ(s,n,st)=>(.lst (((IW s n st).map .int).map T.sh):T)
structure adg(X:Cx)(CL:BC):Prop extends bD X where
 bR:Ln X 0 "script"
 fF:Ln X 1 "moods"
 iO:Ln X 2 "style"
 eL:Ln X 3 "elders"
 RX:Ln X 4 "k"
 jR:Ln X 5 "chain"
 fH:Gl X "range"
 QG:Gl X "_law_line"
 g8:Gl X "len"
 ic:Gl X "_law_cell_at"
 fJ:lJ X "range"
 amj:Fc X CL "_law_line" 1 2 Gq Gr Gs
 g9:lJ X "len"
 i6:Fc X CL "_law_cell_at" 1 2 ni nj nu
theorem adh(E:adg X CL) :
  lV X CL b Gu QF yT yU yV:=by
 rintro⟨s,n,st⟩ h;obtain⟨_,v,w⟩:=h;show eW X CL b _ _ {nx:=_,rt:=λt _=>t=T.lst _,bk:=_,ct:=_};refine fQ (fK (aH E.iO) aj).1 (λc=>?_) (λc=>ak ?_)
 .have e:st=1:=by lia
  exact show IW s n st=E7 by unfold IW;rw[dX e]▸bu (aU (fE (aG (gX aj) (aG aZ (aG aZ Qda))) aL) rfl) rfl
 have e:¬ st=1:=by lia
 rw[show IW s n st=WX s _ by unfold IW;rw[dP e]];apply aO E.g E.eL (fE (aG (gX aj) fL) aL);refine iG E.g E.RX (λj δ=>∃i f,δ=[some _,some _,some _,some (.lst (((WX s j).map _).map _)),i,f])
  (X9 E.fJ aj (aH E.fF) Wc E.fH) ⟨_,_,rfl⟩ (λj δ ⟨_,_,e⟩=>by subst e;exact jj rfl) ?turn ?fin
 case turn=>
  rintro j d δ r ⟨i,f,rfl⟩;obtain⟨rfl,x⟩:=Pz r;obtain⟨o,u⟩:=Uh s j;have k:=u.1;obtain⟨m,l,p⟩:=Di k o.symm;have q:WX s QA=WX s j++[y5 s _ j]:=rfl;show eW X CL b _ _ _;rw[q];generalize WX s j=es at o k m l p ⊢;refine aO E.g E.jR (aU (c_ (es,(j:Int)) E.amj E.QG (ah (vL E.eL.1) (ah (C2 (aE (Lk (aH E.RX) aj)) Wc) aJ)) (⟨k,Wc,Wc,Wc⟩) (aM _)) rfl) ?_;refine zS (λδ=>δ=[some Qb8,some Qbr,some Qa3,some (.lst ((es.map .int).map T.sh)),some (.sh (.int (1+j))),some (.lst (((gu es j).map .int).map T.sh))]) (Ta (aE (jz (e7 ..) E.g9 (vL E.jR.1) E.g8)) aj).1 (λc=>?_) (λc=>?_) ?_
  .have e:(12:Int)<(([(j:Int)]++bL es j).length):=ko c;refine aO E.g E.jR (zU (vL E.jR.1) (bz _) (xg aj) zT) (ak ?_);rw[Fl];unfold gu;rw[dX e];rfl
  .have e:¬ (12:Int)<(([(j:Int)]++bL es j).length):=l6 c;apply ak;unfold gu;rw[dP e];rfl
  rintro δ rfl;have a:((es.map D.int).map T.sh)++[T.sh (.int (y5 s es j))]=((es++[y5 s es j]).map D.int).map T.sh:=by simp
  unfold y5 at a ⊢;rw[show 1+j=(j:Int)+1 by lia];generalize gu es j=rs at m l a ⊢;have b1:=me (fS s QA) (b:=rs.length) Wc;have b2:=l2 (fS s QA) (b:=rs.length) Wc;refine jH E.eL.1 rfl (cX (bH (vL E.jR.1) (aE (ji (aE (c_ ((s,(j:Int)+1)) E.i6 E.ic (ah Qby (ah (aH E.RX) aJ)) (show 0<=(j:Int)+1 by lia) rfl)) (aE (jz (e7 ..) E.g9 (vL E.jR.1) E.g8)) Wc)) (gP b1 b2)) rfl) rfl (by rw[e7,e7];lia) (ak ?_);rw[a];exact⟨_,_,rfl⟩
 case fin=>
  rintro δ ⟨i,f,rfl⟩;apply bu (vM E.eL.1);rw[show(fD 1 _).length=n-1 by simp[fD]]
def ig:FG QF ["script","moods","style"] ["range","_law_line","len","_law_cell_at"] (ai Gu):=fG
abbrev vO:=inClass (top 10) 0
abbrev vP:=At×AT×AT
noncomputable abbrev Dk:At:=["self","kinds","elders","starts"]
noncomputable def yg:vP->BA:=λ(ks,es,ss)=>[.lst (ks.map .str),.lst QbV,.lst (ss.map .int)]
def yh:vP->Prop:=λ(ks,es,ss)=>True
def yi:vP->BN:=λ(ks,es,ss)=>(Ae ks es ss:BN)
structure QH(X:Cx)(CL:BC):Prop extends bD X where
 bA:Ln X 0 "self"
 qN:Ln X 1 "kinds"
 eL:Ln X 2 "elders"
 sR:Ln X 3 "starts"
 bU:Gl X "list"
 bM:lJ X "list"
 b8:jh X.K Qai
 bX:aC X.K Qai "kinds"
 cT:aC X.K Qai "elders"
 jJ:aC X.K Qai "starts"
def QI(E:QH X CL)(ks:At)(es ss:AT)(y:Addr)(h:True) :
  eW X CL b (d9 vO) (Sy Dk y "Tree" [.lst (ks.map .str),.lst QbV,.lst (ss.map .int)]) {nx:=λδ=>δ[0]? = some (some (.pin y (.ins "Tree" (Ae ks es ss)))),rt:=λ_ _=>False}:=by
 have hi:D.bP (ks.map D.str)=true:=eB Qcq _;refine ja E.b8 E.bX E.bA.1 (e9 E.bM (aH E.qN) hi E.bU aX).m rfl QaV ?_;exact ja E.b8 E.cT E.bA.1 (e9 E.bM (aH E.eL) (bz _) E.bU aX).m rfl QaV (ja E.b8 E.jJ E.bA.1 (e9 E.bM (aH E.sR) (bz _) E.bU aX).m rfl QaV (ak rfl))
def iP:FG Dk ["self","kinds","elders","starts"] ["list"] (ai vO):=fG
abbrev MH:=top 69
abbrev Uq:=AT×Nat×Nat
noncomputable abbrev TU:At:=["script","moods","style","elders","kinds","starts","k","near"]
noncomputable def Gw:Uq->BA:=λ(s,n,st)=>[.lst (s.map .int),.int n,.int st]
def Gy:Uq->Prop:=λ(s,n,st)=>s.length<=1000/\1<=n/\n<=40/\st<3
def Gz:Uq->T:=λ(s,n,st)=>(.ins "Tree" (Ae (Ew s st (IW s n st) (IW s n st).length) (IW s n st) (KP s st (IW s n st) (IW s n st).length)):T)
structure aml(X:Cx)(CL:BC):Prop extends bD X where
 bR:Ln X 0 "script"
 fF:Ln X 1 "moods"
 iO:Ln X 2 "style"
 eL:Ln X 3 "elders"
 GA:Ad X "elders"
 qN:Ln X 4 "kinds"
 sR:Ln X 5 "starts"
 RX:Ln X 6 "k"
 k_k:Ad X "k"
 GB:Ln X 7 "near"
 IX:Gl X "_law_elders"
 fH:Gl X "range"
 g8:Gl X "len"
 ic:Gl X "_law_cell_at"
 aqK:Gl X "int"
 amm:Gl X "Tree"
 adj:Fc X CL "_law_elders" 2 3 yT yU yV
 fJ:lJ X "range"
 g9:lJ X "len"
 i6:Fc X CL "_law_cell_at" 1 2 ni nj nu
 aqL:lJ X "int"
 amn:Fm X CL "Tree" 1 4 yg yh yi
theorem amo(E:aml X CL) :
  lV X CL b MH TU Gw Gy Gz:=by
 rintro⟨s,n,st⟩ h;obtain⟨h0,t,F,v⟩:=h;refine aO E.g E.eL (ef (aU (c_ (s,n,st) E.adj E.IX (ah Qby (ah (aH E.fF) (ah (aH E.iO) aJ))) ⟨h0,t,F⟩ (aM _)) rfl)) ?_;obtain⟨w,J⟩:=Zl s (st:=st) t;have q:(IW s n st).length<=40:=by rw[w];split<;>lia
 show eW X CL b _ _ {nx:=_,rt:=λG _=>G=T.ins "Tree" (Ae _ (IW s n st) _),bk:=_,ct:=_};generalize IW s n st=es at q ⊢;refine aO E.g E.qN Qa4 ?_;refine aO E.g E.sR Qa4 ?_;refine iG E.g E.RX (λj δ=>∃f c,δ=[some _,some Qbr,some Qa3,some _,some (.lst (((Ew s st es j).map .str).map T.sh)),some (.lst (((KP s st es j).map .int).map T.sh)),f,c])
  (sA E.fJ (aE (jz (e7 ..) E.g9 (aH E.eL) E.g8)) Wc E.fH) ⟨_,_,rfl⟩ (λj δ ⟨_,_,e⟩=>by subst e;exact jj rfl) ?turn ?fin
 case turn=>
  rintro j d δ y ⟨f,c,rfl⟩;obtain⟨rfl,K⟩:=Pz y;rw[vw];have lk:(Ew s st es j).length=j:=by unfold Ew;rw[e7,n6]
  have ls:(KP s st es j).length=j:=by unfold KP;rw[e7,n6]
  refine LN (p:=λd=>decide (es.getD d.yc.toNat 0=(j:Int))) (gg:=λd=>T.sh d) E.g E.GB (bI (.cons E.eL.1 (.inl E.GA) (.cons E.RX.1 (.inl E.k_k) .nil)) We) (sA E.fJ (aE (jz (e7 ..) E.g9 (aH E.eL) E.g8)) Wc E.fH) QaG (λC s0 L f0 I d hd=>?Ah) (by simp[fD,mv];lia) ?rest (by exact jj rfl) (sC ⟨_,rfl⟩)
  case Ah=>
   obtain⟨i,hi,rfl⟩:=j0.1 hd;have hi:=mD.1 hi;exact⟨(fK (bH (gH 1) (kP 0) (gP (show(0:Int)<=0+(i:Int) by lia) (show 0+(i:Int)<es.length by lia))) (gH 2)).1,λ_=>v_ (BH 0)⟩
  case rest=>
  have A:((fD 0 ((es.length:Nat):Int).toNat).filter _).map (λd=>T.sh d)=((jo es j).map D.int).map T.sh:=aqA es j;rw[A];refine jH E.qN.1 rfl eS rfl (by rw[e7,e7];lia) ?_;refine jH E.sR.1 rfl (gX aj) rfl (by rw[e7,e7];lia) ?_;have k:(((Ew s st es j).map D.str).map T.sh).length=j:=by rw[e7,e7,lk]
  have r:(((KP s st es j).map D.int).map T.sh).length=j:=by rw[e7,e7,ls]
  have ix:∀{x:T},Dy ((((Ew s st es j).map D.str).map T.sh)++[x]).length (j:Int)=some j:=λ{x}=>by rw[kn,k];exact ug (x3 j)
  have m:∀{x:T},Dy ((((KP s st es j).map D.int).map T.sh)++[x]).length (j:Int)=some j:=λ{x}=>by rw[kn,r];exact ug (x3 j)
  have c0:=me (fS s (j:Nat) / 60) (b:=3) Wl;have c1:=l2 (fS s (j:Nat) / 60) (b:=3) Wl;have ne:(!PC (.lst ((jo es j).map D.int)) (.lst []))=decide (jo es j≠[]):=by
   rw[show PC _ (.lst [])=decide (jo es j=[]) from abt (jo es j) []];by_cases e:jo es j=[]
   .rw[ml e,mn (λz=>z e)];rfl
   .rw[mn e,ml e];rfl
  refine zS (λδ=>δ=[some Qb8,some Qbr,some Qa3,some QbU,some (.lst (((Ew s st es j).map .str).map T.sh++[T.sh (.str (xi s st es j))])),some (.lst (((KP s st es j).map .int).map T.sh++[T.sh (.int (-1))])),some Qce,some QeE]) (Bk (yE E.u (vL E.GB.1) (ck Qa4) (Aq _) (Aq [])).1 ne) (λa=>?_) (λa=>?_) ?_
  .have hz:=ko a;refine yL (cX (bH (ck (fE (ds:=(["one","all",uk.getD st Str.empty]:At).map .str) (aG eS (aG eS (aG (cX (bH (ck (fE (qI (l:=uk) rfl) aL)) (aH E.iO) (gf Str.empty (l:=uk) Wc (show((st:Nat):Int)<3 by lia))) rfl) fL))) aL)) (aE (ji (aE (qG (aE (c_ ((s,(j:Int))) E.i6 E.ic (ah Qby (ah (aH E.RX) aJ)) (show(0:Int)<=(j:Int) by lia) rfl)) aj ⟨Wl,Wl⟩)) aj Wl)) (gf Str.empty c0 (c1))) rfl) (bE E.qN.1 rfl) (aH E.RX) rfl rfl ix (ak ?_);show [_,_,_,_,some (T.lst ((((Ew s st es j).map D.str).map T.sh++[T.sh (.str "leaf")]).set j _)),_,_,_]=_;rw[MC k];unfold xi;rw[dP hz]
  .have hz:jo es j=[]:=Classical.not_not.1 (l6 a);refine ak ?_;unfold xi;rw[dX hz];rfl
  rintro δ rfl;refine zS (λδ=>δ=[some Qb8,some Qbr,some Qa3,some QbU,some (.lst (((Ew s st es QA).map .str).map T.sh)),some (.lst (((KP s st es j).map .int).map T.sh++[T.sh (.int (-1))])),some Qce,some QeE]) (Bk (ve (jC (fK (aH E.iO) aj).1 (λH=>(jM (yE E.u (vL E.GB.1) (ck Qa4) (Aq _) (Aq [])).1)))) (show _=(decide (st=1)&&decide (jo es j≠[])) by rw[show(!PC _ (.lst (([]:AT).map D.int)))=decide (jo es j≠[]) from ne];congr 1;rw[decide_eq_decide];lia)) (λa=>?_) (λa=>?_) ?_
  .rw[lx]at a;have h1:=ko a.1;have hz:=ko a.2;refine yL (cX (bH (ck (fE (qI rfl) aL)) (aE (afJ E.aqL (aE (fK (aH E.RX) aj).2) E.aqK)) (gf Str.empty (by split<;>decide) (by split<;>decide))) rfl) (bE E.qN.1 rfl) (aH E.RX) rfl rfl ix (ak ?_);show [_,_,_,_,some (T.lst ((((Ew s st es j).map D.str).map T.sh++[T.sh (.str (xi s st es j))]).set j _)),_,_,_]=_;rw[MC k,← QB];rw[show RW s st es j=if j=0 then("all":Str) else "one" by unfold RW;rw[dP hz,dX h1]];by_cases e:j=0
   .subst e;rfl
   .rw[dP e,mn (show ¬ (j:Int)=0 by lia)];rfl
  .refine ak ?_;rw[← QB];have e:RW s st es j=xi s st es j:=by
    unfold RW xi;by_cases hz:jo es j=[]
    .rw[dX hz,dX hz]
    .have:¬ st=1:=λz=>by rw[ml z,ml hz]at a;exact absurd a Wl
     rw[dP hz,dP hz,dP this]
   rw[e]
  rintro δ rfl;have o:vf ((Ew s st es QA).map D.str) (j:Int)=some (.str (RW s st es j)):=by
   refine dQ ?_;unfold Ew;rw[ll,ll,oD (x3 j)];rfl
  refine zS (λδ=>δ=[some Qb8,some Qbr,some Qa3,some QbU,some (.lst (((Ew s st es QA).map .str).map T.sh)),some (.lst (((KP s st es QA).map .int).map T.sh)),some Qce,some QeE]) (eU (bH (vL E.qN.1) (aH E.RX) o) cg).1 (λa=>?_) (λa=>?_) ?_
  .have e:=ko a;have hm:=Y2 v e;have B:0<(jo es j).length:=List.length_pos_of_mem hm;have b1:=me (fS s (j:Nat) / 180) (b:=((jo es j).length:Nat)) Wc;have b2:=l2 (fS s (j:Nat) / 180) (b:=((jo es j).length:Nat)) Wc;refine yL (cX (bH (vL E.GB.1) (aE (ji (aE (qG (aE (c_ ((s,(j:Int))) E.i6 E.ic (ah Qby (ah (aH E.RX) aJ)) (show(0:Int)<=(j:Int) by lia) rfl)) aj ⟨Wl,Wl⟩)) (aE (jz (e7 ..) E.g9 (vL E.GB.1) E.g8)) Wc)) (gP b1 b2)) rfl) (bE E.sR.1 rfl) (aH E.RX) rfl rfl m (ak ?_);show [_,_,_,_,_,some (T.lst ((((KP s st es j).map D.int).map T.sh++[T.sh (.int (-1))]).set j _)),_,_]=_;rw[MC r,← QC];unfold VR;rw[dX e]
  .have e:=l6 a;refine ak ?_;rw[← QC];unfold VR;rw[dP e]
  rintro δ rfl;exact ak ⟨_,_,rfl⟩
 case fin=>
  rintro δ ⟨f,c,rfl⟩;rw[show(fD 0 ((es.length:Nat):Int).toNat).length=es.length by simp[fD]];exact bu (aU (mk_ (Ew s st es es.length,es,KP s st es es.length) E.amn E.amm (ah (vL E.qN.1) (ah (aH E.eL) (ah (vL E.sR.1) aJ))) trivial (Dc ..)) rfl) rfl
def gU:RM (ai MH) ([("script",c9),("moods",c9),("style",c9),("elders",.cell),("kinds",c9),("starts",c9),("k",.cell),("near",c9),("_law_elders",bW),("range",bW),("len",bW),("_law_cell_at",bW),("int",bW),("Tree",bW)])=true:=by decide +kernel
def ag2:c6 TU ["script","moods","style"] (ai MH):=jN
def Ez{k:Nat}{e:Expr}{δ:BB}{q a n:Int}{p1 p2 d:Pos}(c:OS X CL "_law_take" k 2 kR pre_take kU kT)(g:Gl X "_law_take")(l:Vn X i "pot")(h:δ[i]? = some (some (.pin y (.lst [.sh (.int q)]))))(he:cO X CL b e (δ.set i none) Qbr (δ.set i none))(j:0<n/\n.natAbs.log2<9000)(f:a=q / n)(m:i<δ.length:=by exact jj rfl)(s1:starEach [.Name "pot" p2,e] X.env=(false,eval (.Name "pot" p2) X.env)::starEach [e] X.env:=by exact aW rfl)(s2:Qah:=by exact aW rfl)(s3:(backTo d (starEach [e] X.env)).any (·.1)=false:=by rfl):lI X CL b (.Call (.Name "_law_take" p1) [.Name "pot" p2,e] [] d) δ (.sh (.int (q % n))) ((δ.set i none).set i (some (.pin y (.lst [.sh (.int a)])))):=by
 subst f;exact r8 (y,q,n) _ c g (z8 l h (qL he tX s2) s1) j rfl ⟨rfl,.inr rfl,trivial⟩ rfl rfl (by rw[n3];exact m) Wl s1 s3
abbrev Ur:=top 70
abbrev MJ:=Addr×Int×Nat
noncomputable abbrev TM:At:=["pot","many","box","far"]
noncomputable def Ax:MJ->B1:=λ(y,p,m)=>[.pin y (.lst [.sh (.int p)]),.sh (.int m)]
def vQ:MJ->B1:=λ(y,p,m)=>[.pin y (.lst [.sh (.int (o6 m p))]),.sh (.int m)]
def vR:MJ->Prop:=λ(y,p,m)=>m<=10
def vS:MJ->T:=λ(y,p,m)=>(.sh (.tup [.int (p7 m p),.int (t5 m p)]):T)
structure amq(X:Cx)(CL:BC):Prop extends bD X where
 dg:Ln X 0 "pot"
 dH:Ln X 1 "many"
 yj:Ln X 2 "box"
 SF:Ln X 3 "far"
 aR:Gl X "_law_take"
 dS:OS X CL "_law_take" 1 2 kR pre_take kU kT
theorem amr(E:amq X CL) :
  oT X CL b Ur TM Ax vR vS vQ:=by
 rintro⟨y,p,m⟩ h;dsimp [vR,vS,vQ]at h ⊢;apply gC E.g E.yj (qZ (Ei (Ez E.dS E.aR E.dg.1 rfl (tR (aH E.dH) aj) (oW Wc Wc) rfl) aZ.m) rfl);apply gC E.g E.SF Qb6;refine fQ (fK (aH E.SF) aj).1 (λa=>?_) (λa=>ak ?_)
 .have a:=ko a;refine vF (pY (ds:=[.int (p7 m p),.int (w7 m p % (2*10 ^ (9:Int).toNat+1)-10 ^ (9:Int).toNat)]) (fh (v_ E.yj.1).m (fh (Ei (Ez E.dS E.aR E.dg.1 rfl (tR (aE (akL aj (aE (yz aj aj ⟨Wl,Wl,Wl⟩)) (.inl ⟨Wl,Wl⟩))) aj) (oW Wl Wl) rfl) ((yz aj aj ⟨Wl,Wl,Wl⟩)).m) tY)) aL) ⟨?_,?_⟩
  .unfold t5;rw[dX a]
  .unfold o6;rw[dX a];exact kO (ds:=[_])
 .have a:=l6 a;refine vF (pY (ds:=[.int (p7 m p),.int (w7 m p % 7-3)]) (fh (v_ E.yj.1).m (fh (Ei Qb6 aZ.m) tY)) aL) ⟨?_,?_⟩
  .unfold t5;rw[dP a]
  .unfold o6;rw[dP a];exact kO (ds:=[_])
def xE:FG TM ["pot","many"] ["_law_take"] (ai Ur):=fG
abbrev Us:=top 71
abbrev MK:=Addr×Int×Nat×At
noncomputable abbrev TK:At:=["pot","many","heard","way","box"]
noncomputable def Ay:MK->B1:=λ(y,p,m,hs)=>[.pin y (.lst [.sh (.int p)]),.sh (.int m),.sh Qcf]
def Az:MK->B1:=λ(y,p,m,hs)=>[.pin y (.lst [.sh (.int (zi m hs p))]),.sh (.int m),.sh Qcf]
def AA:MK->Prop:=λ(y,p,m,hs)=>m<=10/\0<hs.length/\hs.length<=10
def AF:MK->T:=λ(y,p,m,hs)=>(.sh (pf m hs p).d:T)
structure ams(X:Cx)(CL:BC):Prop extends bD X where
 dg:Ln X 0 "pot"
 dH:Ln X 1 "many"
 jc:Ln X 2 "heard"
 gI:Ln X 3 "way"
 yj:Ln X 4 "box"
 aR:Gl X "_law_take"
 ny:Gl X "_law_term"
 aqM:Gl X "str"
 g8:Gl X "len"
 dS:OS X CL "_law_take" 1 2 kR pre_take kU kT
 GC:OS X CL "_law_term" 2 2 Ax vR vS vQ
 W3:lJ X "str"
 g9:lJ X "len"
theorem amt(E:ams X CL) :
  oT X CL b Us TK Ay AA AF Az:=by
 rintro⟨y,p,m,hs⟩ h;obtain⟨hm,h0,h1⟩:=h;apply gC E.g E.gI Qb6;refine fQ (ve (jC (Ka QbD aj).1 (λj=>(jM (Ta (aH E.dH) aj).1)))) (λa=>?_) (λa=>ak ?_)
 .rw[lx]at a;have p1:=ko a.1;have e:p % 5<2/\0<m:=⟨p1,Wc⟩;apply gC E.g E.yj (Ez E.dS E.aR E.dg.1 rfl (v_ E.dH.1) (oW Wc Wc) rfl);refine vF (pY (ds:=[.str _,.int _,.tup _]) (fh eS.m (fh (v_ E.yj.1).m (fh (r8 (y,(p / 5 / m),m) _ E.GC E.ny QdP (show m<=10 by lia) rfl ⟨rfl,.inr rfl,trivial⟩) tY))) aL) ⟨?_,?_⟩
  .show T.sh _=T.sh _;unfold pf;rw[dX e]
   try rfl
  .show Keeps _ [.pin y _,.sh _,.sh _];unfold zi;exact dX e▸kO (ds:=[_,_])
 have c:¬ (p % 5<2/\0<m):=λ⟨f,i⟩=>by
  rw[ml f,ml (show 0<(m:Int) by lia)]at a;exact absurd a Wl
 refine fQ (Ka QbD aj).1 (λa=>?_) (λa=>ak ?_)
 .have a:=ko a;have s0:=me (p / 5) (b:=3) Wl;have cl:∀k:Nat,k<3->(toString (k:Int):Str).length<=2/\(k:Int).natAbs.log2<1920:=by decide +kernel
  obtain⟨sl,sg⟩:=cl (p / 5 % 3).toNat Wc;rw[show(((p / 5 % 3).toNat:Nat))=p / 5 % 3 by lia]at sl sg;refine vF (pY (ds:=[.str _,.str _,.tup _]) (fh eS.m (fh (ab3 eS.m (ab4 E.W3 E.aqM Qb6 sg) (by rw[mv];have h1:("w":Str).length=1:=We;lia)) (fh (r8 (y,(p / 5 / 3),m) _ E.GC E.ny QdP (show m<=10 by lia) rfl ⟨rfl,.inr rfl,trivial⟩) tY))) aL) ⟨?_,?_⟩
  .show T.sh _=T.sh _;unfold pf;rw[dP c,dX a]
   try rfl
  .show Keeps _ [.pin y _,.sh _,.sh _];unfold zi;rw[dP c,dX a];exact kO (ds:=[_,_])
 have d:=l6 a;have g0:=me (p / 5) (b:=hs.length) Wc;have g1:=l2 (p / 5) (b:=hs.length) Wc
 .refine vF (pY (ds:=[.str _,.str _]) (fh eS.m (fh (xr (v_ E.jc.1).m (Ez E.dS E.aR E.dg.1 rfl (jz (e7 ..) E.g9 (aH E.jc) E.g8) (oW Wc Wc) rfl) (gf Str.empty g0 g1)) tY)) aL) ⟨?_,?_⟩
  .show T.sh _=T.sh _;unfold pf;rw[dP c,dP d]
   try rfl
  .show Keeps _ [.pin y _,.sh _,.sh _];unfold zi;rw[dP c,dP d];exact kO (ds:=[_,_])
def mU:FG TK ["pot","many","heard"] ["_law_take","_law_term","str","len"] (ai Us):=fG
abbrev oX:=top 74
abbrev um:=Int×Nat×At
noncomputable abbrev AG:At:=["cell","many","heard","pot"]
noncomputable def qa:um->BA:=λ(c,m,hs)=>[.int c,.int m,.lst (hs.map .str)]
def qb:um->Prop:=λ(c,m,hs)=>m<=10/\0<hs.length/\hs.length<=10
def qc:um->T:=λ(c,m,hs)=>(.sh (.tup ((xc c m hs).map dJ.d)):T)
structure ML(X:Cx)(CL:BC):Prop extends bD X where
 uo:Ln X 0 "cell"
 dH:Ln X 1 "many"
 vU:Ad X "many"
 jc:Ln X 2 "heard"
 uq:Ad X "heard"
 dg:Ln X 3 "pot"
 W4:Ad X "pot"
 xF:Gl X "tuple"
 fH:Gl X "range"
 aR:Gl X "_law_take"
 xG:lJ X "tuple"
 fJ:lJ X "range"
 dS:OS X CL "_law_take" 1 2 kR pre_take kU kT
 Ut:OS X CL "_law_deed" 3 3 Ay AA AF Az
theorem MN(E:ML X CL) :
  lV X CL b oX AG qa qb qc:=by
 rintro⟨c,m,hs⟩ h;have q:=h;apply aO E.g E.dg (aU (cj (ay (qG (aE (ji (aH E.uo) (aE (yz aj aj ⟨Wl,Wl,Wl⟩)) Wl)) aj ⟨Wl,Wl⟩) aQ) aL) rfl);refine L6 (i:=3) rfl λy=>?_;obtain⟨p,l⟩:∃p,p=c % 10 ^ (64:Int).toNat / 13:=⟨_,rfl⟩;show eW X CL b _ _ {nx:=_,rt:=λr _=>r=T.sh _,bk:=_,ct:=_};unfold xc;rw[← l];have s:=l2 p (b:=4) Wl;obtain⟨k,a⟩:∃k:Nat,k=[0,1,0,2].getD (p % 4).toNat 0:=⟨_,rfl⟩;have o:=by
  have:∀j,j<4->[0,1,0,2].getD j 0<=2:=by decide +kernel
  exact a▸this _ Wc
 rw[← a];refine vF (ab7 E.xG (qZ (Kp (n:=k) (i:=3) (λj=>.lst [.sh (.int (qC m hs _ j))]) (λj=>(pf m hs (qC m hs (p / 4) j)).d) QeL E.g.calm E.fJ E.fH (qZ (xr (ef (fE Qda aL)).m Qb6 ?ix) rfl) Wc rfl Wl Wl (λC s0 u f0 t j f=>?Ah)) ?ceq) (eB sL _) E.xF) rfl
 case Ah=>
  exact r8 (y,qC m hs _ j,m,hs) _ (FJ E.Ut) sH (z8 (IL 3) rfl (qL (v_ (IL 2)) (qL (v_ (IL 1)) tX))) q rfl ⟨rfl,.inr rfl,trivial⟩
 case ceq=>
  unfold nN;rw[kq,kq];rfl
 case ix=>
  obtain⟨j,f⟩:∃j:Nat,p % 4=j:=⟨(p % 4).toNat,Wc⟩;have e:j<4:=by lia
  rw[f,ky]at a;rw[f,a]
  match j,e with
  | 0,_=>rfl
  | 1,_=>rfl
  | 2,_=>rfl
  | 3,_=>rfl
def dN:RM (ai oX) ([("cell",c9),("many",.cell),("heard",.cell),("pot",.cell),("tuple",bW),("range",bW),("_law_take",bW)])=true:=by decide +kernel
def IY:c6 AG ["cell","many","heard"] (ai oX):=jN
abbrev Md:=top 72
abbrev W5:=Addr×Int×Nat×Nat
noncomputable abbrev SE:At:=["pot","many","moods","way","one"]
noncomputable def MP:W5->B1:=λ(y,p,m,n)=>[.pin y (.lst [.sh (.int p)]),.sh (.int m),.sh (.int n)]
def MQ:W5->B1:=λ(y,p,m,n)=>[.pin y (.lst [.sh (.int (IJ m n p))]),.sh (.int m),.sh (.int n)]
def MR:W5->Prop:=λ(y,p,m,n)=>m<=10/\0<n/\n<=100
def MS:W5->T:=λ(y,p,m,n)=>(.sh (sN (si m n p)):T)
structure aqO(X:Cx)(CL:BC):Prop extends bD X where
 dg:Ln X 0 "pot"
 dH:Ln X 1 "many"
 fF:Ln X 2 "moods"
 gI:Ln X 3 "way"
 qd:Ln X 4 "one"
 aR:Gl X "_law_take"
 ny:Gl X "_law_term"
 dS:OS X CL "_law_take" 1 2 kR pre_take kU kT
 GC:OS X CL "_law_term" 2 2 Ax vR vS vQ
theorem aqP(E:aqO X CL) :
  oT X CL b Md SE MP MR MS MQ:=by
 rintro⟨y,p,m,n⟩ h;obtain⟨hm,h0,h1⟩:=h;have w0:=me p (b:=6) Wl;apply gC E.g E.gI Qb6;refine fQ (Ka QbD aj).1 (λa=>?_) (λa=>ak ?_)
 .have a:=ko a;refine vF (pY (ds:=[.str _,.int _]) (fh (cX (bH (ck (fE (qI (l:=(["open","shut"])) rfl) aL)) QbD (gf Str.empty w0 (a))) rfl).m (fh (Ez E.dS E.aR E.dg.1 rfl (v_ E.fF.1) (oW Wc Wc) rfl) tY)) aL) ⟨?_,?_⟩
  .show T.sh _=T.sh _;unfold si;have:p % 6=0\/p % 6=1:=by lia
   obtain z|z:=this<;>rw[z]<;>rfl
  .show Keeps _ [.pin y _,.sh _,.sh _];unfold IJ;exact dX a▸kO (ds:=[_,_])
 have c:=l6 a;refine gC E.g E.qd (r8 (y,(p / 6),m) _ E.GC E.ny QdP (show m<=10 by lia) rfl ⟨rfl,.inr rfl,trivial⟩) ?_;refine vF (pY (ds:=[.str _,.tup _,.tup _]) (fh (cX (bH (ck (fE (qI rfl) aL)) (aE (Lk QbD aj)) (gf Str.empty Wc (show p % 6-2<4 by lia))) rfl).m (fh (v_ E.qd.1).m (fh (r8 (y,(o6 m _),m) _ E.GC E.ny QdP (show m<=10 by lia) rfl ⟨rfl,.inr rfl,trivial⟩) tY))) aL) ⟨?_,?_⟩
 .show T.sh _=T.sh _;unfold si;rw[dP c];rfl
 .show Keeps _ [.pin y _,.sh _,.sh _];unfold IJ;exact dP c▸kO (ds:=[_,_])
def vV:FG SE ["pot","many","moods"] ["_law_take","_law_term"] (ai Md):=fG
abbrev W6:=top 73
abbrev Mc:=Int×AT×Nat×At×Nat
noncomputable abbrev SA:At:=["cell","elders","many","heard","style","pot","moods","source","sign","target","mode","asks","deeds"]
noncomputable def MT:Mc->BA:=λ(c,es,m,hs,st)=>[.int c,.lst QbV,.int m,.lst (hs.map .str),.int st]
def MV:Mc->Prop:=λ(c,es,m,hs,st)=>m<=10/\0<hs.length/\hs.length<=10/\0<es.length/\es.length<=100/\(st=1->es=E7)
def MX:Mc->T:=λ(c,es,m,hs,st)=>(.sh (iS (o2 c es.length m hs st)):T)
structure aqQ(X:Cx)(CL:BC):Prop extends bD X where
 uo:Ln X 0 "cell"
 eL:Ln X 1 "elders"
 GA:Ad X "elders"
 dH:Ln X 2 "many"
 vU:Ad X "many"
 jc:Ln X 3 "heard"
 uq:Ad X "heard"
 iO:Ln X 4 "style"
 dg:Ln X 5 "pot"
 W4:Ad X "pot"
 fF:Ln X 6 "moods"
 ag3:Ad X "moods"
 vW:Ln X 7 "source"
 adp:Ad X "source"
 jq:Ln X 8 "sign"
 kW:Ln X 9 "target"
 rj:Ln X 10 "mode"
 yW:Ln X 11 "asks"
 AH:Ln X 12 "deeds"
 g8:Gl X "len"
 aR:Gl X "_law_take"
 fH:Gl X "range"
 xF:Gl X "tuple"
 g9:lJ X "len"
 dS:OS X CL "_law_take" 1 2 kR pre_take kU kT
 fJ:lJ X "range"
 xG:lJ X "tuple"
 aqR:OS X CL "_law_ask" 3 3 MP MR MS MQ
 Ut:OS X CL "_law_deed" 3 3 Ay AA AF Az
theorem aqS(E:aqQ X CL) :
  lV X CL b W6 SA MT MV MX:=by
 rintro⟨c,es,m,hs,st⟩ h;obtain⟨hm,h0,h1,n0,n1,hE⟩:=h;obtain⟨n,R⟩:∃n,n=es.length:=⟨_,rfl⟩;have F:st=1->n=7:=λe=>by rw[R,hE e];rfl
 have I:=YP (c:=c) (st:=st) (n:=n) Wc F;have H:=λe=>(YO (c:=c) (n:=n) (st:=st) e 0).1;have q:o2 c n m hs st=⟨nr c n st,_,_,_,o3 c n hs st,w1 c n hs st⟩:=rfl;have P:t4 c n hs<=2:=by
  have:∀j:Nat,j<4->IM.getD j 0<=2:=by decide +kernel
  exact this _ Wc
 have r:yY c n m hs % 3=(y1 c n m hs:Nat):=by
  unfold y1;lia
 have o:nr c n st=if st=1 then rr.getD _ 0 else c % 10 ^ (64:Int).toNat % (n:Int):=rfl
 have e1:wU c n=c % 10 ^ (64:Int).toNat / (n:Int):=rfl;have e2:tJ c n hs=wU c n / (hs.length:Int):=rfl;have e0:o4 c n hs=tJ c n hs % ((n:Int)+1)-1:=rfl;have e3:wz c n hs=tJ c n hs / ((n:Int)+1):=rfl;have f:o3 c n hs st=if st=1/\o4 c n hs % 2=0 then(sd (nr c n st)).getD (o4 c n hs / 2 % 2).toNat 0 else o4 c n hs:=rfl
 have J:w1 c n hs st=if o3 c n hs st=-1 then("new":Str) else y4.getD (wz c n hs % 3).toNat Str.empty:=rfl
 have Y:wy c n hs=wz c n hs / 3:=rfl;have s:t4 c n hs=IM.getD (wy c n hs % 4).toNat 0:=rfl;have W:y0 c n hs=wy c n hs / 4:=rfl;have L:yY c n m hs=sk m n (y0 c n hs) (t4 c n hs):=rfl;generalize y1 c n m hs=G at q r;generalize yY c n m hs=t at q r L;generalize t4 c n hs=an at q P s L;generalize y0 c n hs=u at q W L;generalize wy c n hs=w at Y s W;generalize w1 c n hs st=mo at q J;generalize wz c n hs=v at e3 J Y;generalize o3 c n hs st=tg at q f J;generalize o4 c n hs=t0 at e0 f;generalize wU c n=N at q e1 e2;generalize nr c n st=k at q o f I H;obtain⟨z,B⟩:∃p,p=c % 10 ^ (64:Int).toNat:=⟨_,rfl⟩;rw[← B]at o e1;refine aO E.g E.dg (aU (cj (ay (ji (aH E.uo) (aE (yz aj aj ⟨Wl,Wl,Wl⟩)) Wl) aQ) aL) (t2:=.lst [.sh (.int z)]) (by rw[B])) ?_;refine L6 (i:=5) rfl λy=>?_;refine aO E.g E.fF (aU (jz (e7 ..) E.g9 (aH E.eL) E.g8) (t2:=.sh (.int (n:Nat))) (by rw[R])) ?_;show eW X CL b _ [some (.sh (.int c)),some QbU,some Qb2,some (.sh Qcf),some Qa3,some (.pin y (.lst [.sh (.int z)])),some Qbr,none,none,none,none,none,none] {nx:=_,rt:=λTv _=>Tv=T.sh (iS (o2 c es.length m hs st)),bk:=_,ct:=_};rw[← R]at n0 n1 ⊢;have g0:=me (N) (b:=(hs.length:Int)) Wc;have g1:=l2 (N) (b:=(hs.length:Int)) Wc;have m0:=me (v) (b:=3) Wl;have m1:=l2 (v) (b:=3) Wl;refine gC E.g E.vW (Ez E.dS E.aR E.dg.1 rfl (v_ E.fF.1) (oW Wc Wc) e1) ?_;refine gC E.g E.jq (xr (v_ E.jc.1).m (Ez E.dS E.aR E.dg.1 rfl (jz (e7 ..) E.g9 (aH E.jc) E.g8) (oW Wc Wc) e2) (gf Str.empty g0 g1)) ?_;refine gC E.g E.kW (qZ (Ei (Ez E.dS E.aR E.dg.1 rfl (tR (aH E.fF) aj) (oW Wc Wc) e3) aZ.m) (t2:=.sh (.int t0)) (by rw[e0])) ?_;show eW X CL b _ [some (.sh (.int c)),some QbU,some Qb2,some (.sh Qcf),some Qa3,some (.pin y (.lst [.sh (.int v)])),some Qbr,some (.sh (.int (z % (n:Int)))),some _,some (.sh (.int t0)),none,none,none] _;obtain⟨sg,A⟩:∃sg,sg=hs.getD (N % (hs.length:Int)).toNat Str.empty:=⟨_,rfl⟩;rw[← A];refine zS (λδ=>δ=[some (.sh (.int c)),some QbU,some Qb2,some (.sh Qcf),some Qa3,some (.pin y (.lst [.sh (.int v)])),some Qbr,some (.sh (.int (k))),some (.sh (.str sg)),some (.sh (.int (t0))),none,none,none]) (fK (aH E.iO) aj).1 (λa=>?_) (λa=>?_) ?_
 .have e:st=1:=by have:=ko a;lia
  have a0:=me (z % (n:Int)) (b:=4) Wl;have a1:=l2 (z % (n:Int)) (b:=4) Wl;refine aO E.g E.vW (cX (bH (ck (fE (ds:=rr.map .int) Qda aL)) (aE (ji (aH E.vW) aj Wl)) (gP (bs:=rr) a0 (show _<((4:Nat):Int) from a1))) rfl) (ak ?_);rw[o,dX e];rfl
 .have e:¬ st=1:=by have:=l6 a;lia
  refine ak ?_;rw[o,dP e]
 rintro δ rfl;have u0:=me (t0 / 2) (b:=2) Wl;have u1:=l2 (t0 / 2) (b:=2) Wl;refine zS (λδ=>δ=[some (.sh (.int c)),some QbU,some Qb2,some (.sh Qcf),some Qa3,some (.pin y (.lst [.sh (.int v)])),some Qbr,some (.sh (.int (k))),some (.sh (.str sg)),some (.sh (.int (tg))),none,none,none]) (ve (jC (fK (aH E.iO) aj).1 (λV=>(jM (fK (aE (ji (aH E.kW) aj Wl)) aj).1)))) (λa=>?_) (λa=>?_) ?_
 .rw[lx]at a;have e:st=1:=by have:=ko a.1;lia
  have ev:=ko a.2;have K:=hE e;have V:=H e;have O:k<7:=by have:=F e;lia
  obtain⟨bl,Qf⟩:∃bl,bl=sd k:=⟨_,rfl⟩;rw[← Qf]at V f;obtain⟨M,Z⟩:∃x,x=E7.getD k.toNat 0:=⟨_,rfl⟩;refine aO E.g E.kW (cX (bH (ck (aU (mR (p:=λd=>decide (E7.getD d.yc.toNat 0=M)) (g:=λd=>T.sh d) (bI (.cons E.eL.1 (.inl E.GA) (.cons E.vW.1 (.inl E.adp) .nil)) We) E.g.calm (sA E.fJ aj Wc E.fH) QaG (λC s0 H0 f0 b' d hd=>?Ah) (by simp[fD,mv])) ?ceq)) (aE (ji (aE (qG (aH E.kW) aj ⟨Wl,Wl⟩)) aj Wl)) (gP (bs:=bl) u0 (by rw[V];exact u1))) rfl) (ak ?_)
  case Ah=>
   obtain⟨i,hi,rfl⟩:=j0.1 hd;have hi:=mD.1 hi;have hi:i<7:=hi;exact⟨(fK (C2 (bH (gH 1) (kP 0) (gP (show(0:Int)<=0+(i:Int) by lia) (show 0+(i:Int)<es.length by rw[K];show 0+(i:Int)<7;lia))) (by rw[K];rfl)) (C2 (bH (gH 1) (gH 2) (gP I.1 (show k<es.length by rw[K];exact O))) (by rw[K,Z]))).1,λ_=>v_ (BH 0)⟩
  case ceq=>
   refine congrArg T.lst ?_;rw[Qf];unfold sd fD;rw[← Z,so,kq,kq,kq];have e1:((λd:D=>decide (E7.getD d.yc.toNat 0=M))∘λ(i:Nat)=>D.int (0+(i:Int)))=λ(i:Nat)=>decide (E7.getD i 0=M):=by
    funext i;show decide (E7.getD (0+(i:Int)).toNat 0=_)=_;rw[vw,ky]
   rw[e1];exact oC λi _=>by
    show T.sh (.int (0+(i:Int)))=T.sh (.int (i:Int));rw[vw]
  rw[f,dX ⟨e,ev⟩];rfl
 .refine ak ?_;rw[f,dP λ⟨z1,z2⟩=>by rw[ml (show(st:Int)=1 by lia),ml z2]at a;exact absurd a Wl]
 rintro δ rfl;refine gC E.g E.rj (xr (ef (fE (qI (l:=y4) rfl) aL)).m (Ez E.dS E.aR E.dg.1 rfl aZ (oW Wl Wl) Y) (gf Str.empty (l:=y4) m0 (show v % 3<3 from m1))) ?_;show eW X CL b _ [some (.sh (.int c)),some QbU,some Qb2,some (.sh Qcf),some Qa3,some (.pin y (.lst [.sh (.int w)])),some Qbr,some (.sh (.int k)),some (.sh (.str sg)),some (.sh (.int tg)),some _,none,none] _;refine zS (λδ=>δ=[some (.sh (.int c)),some QbU,some Qb2,some (.sh Qcf),some Qa3,some (.pin y (.lst [.sh (.int w)])),some Qbr,some (.sh (.int (k))),some (.sh (.str sg)),some (.sh (.int (tg))),some (.sh (.str (mo))),none,none]) (fK (aH E.kW) Qbb).1 (λa=>?_) (λa=>?_) ?_
 .refine aO E.g E.rj eS (ak ?_);rw[J,dX (ko a)];rfl
 .refine ak ?_;rw[J,dP (l6 a)]
 rintro δ rfl;refine Wu (n:=an) (i:=5) (y:=y) (λj=>.lst [.sh (.int (sk m n (u) j))]) (λj=>sN (si m n (sk m n (u) j))) E.g E.yW (bI (.cons E.dH.1 (.inl E.vU) (.cons E.fF.1 (.inl E.ag3) (.cons E.dg.1 (.inl E.W4) .nil))) We) E.fJ E.fH (xr (ef (fE Qda aL)).m (Ez E.dS E.aR E.dg.1 rfl aZ (oW Wl Wl) W) ?ix) Wc rfl Wl Wl (λC s0 H0 f0 b' j U=>?amu) ?rest (by exact jj rfl) (sC ⟨_,rfl⟩)
 case ix=>
  show vf [D.int 0,.int 1,.int 1,.int 2] (w % 4)=some (.int (an:Nat));rw[s];obtain⟨j,U⟩:∃j:Nat,w % 4=j:=⟨(w % 4).toNat,Wc⟩;have S:j<4:=by lia
  rw[U,ky];refine dQ ?_
  match j,S with
  | 0,_=>rfl
  | 1,_=>rfl
  | 2,_=>rfl
  | 3,_=>rfl
 case amu=>
  exact r8 (y,sk m n (u) j,m,n) _ (FJ E.aqR) sH (z8 (IL 3) rfl (qL (v_ (IL 1)) (qL (v_ (IL 2)) tX))) ⟨hm,n0,n1⟩ rfl ⟨rfl,.inr rfl,trivial⟩
 case rest=>
 rw[← L];refine Wu (n:=G) (i:=5) (y:=y) (λj=>.lst [.sh (.int (qC m hs (t / 3) j))]) (λj=>(pf m hs (qC m hs (t / 3) j)).d) E.g E.AH QeL E.fJ E.fH (qZ Qb6 (t2:=.sh (.int (G:Nat))) (by rw[r])) Wc rfl Wl Wl (λC s0 H0 f0 b' j U=>?amv) ?aqV (by exact jj rfl) (sC ⟨_,rfl⟩)
 case amv=>
  exact r8 (y,qC m hs (t / 3) j,m,hs) _ (FJ E.Ut) sH (z8 (IL 3) rfl (qL (v_ (IL 2)) (qL (v_ (IL 1)) tX))) ⟨hm,h0,h1⟩ rfl ⟨rfl,.inr rfl,trivial⟩
 case aqV=>
 have ea:((List.range an).map λj=>T.sh (sN (si m n (sk m n (u) j))))=((EU m n (u) an).map sN).map T.sh:=by unfold EU;rw[kq,kq];rfl
 have ed:((List.range G).map λj=>T.sh (pf m hs (qC m hs (t / 3) j)).d)=((nN m hs (t / 3) G).map dJ.d).map T.sh:=by unfold nN;rw[kq,kq];rfl
 rw[ea,ed];exact bu (aU (iJ (ds:=[.int (k),.str sg,.tup ((EU m n (u) an).map sN),.tup ((nN m hs (t / 3) G).map dJ.d),.int (tg),.str (mo)]) (aG (v_ E.vW.1) (aG (v_ E.jq.1) (aG (Bv E.xG (vL E.yW.1) (eB Gf _) E.xF) (aG (Bv E.xG (vL E.AH.1) (eB sL _) E.xF) (aG (v_ E.kW.1) (aG (v_ E.rj.1) fL)))))) aL) (by rw[q,A];rfl)) rfl
def gy:RM (ai W6) ([("cell",c9),("elders",.cell),("many",.cell),("heard",.cell),("style",c9),("pot",.cell),("moods",.cell),("source",.cell),("sign",c9),("target",c9),("mode",c9),("asks",c9),("deeds",c9),("len",bW),("_law_take",bW),("range",bW),("tuple",bW)])=true:=by decide +kernel
def amw:c6 SA ["cell","elders","many","heard","style"] (ai W6):=jN
abbrev ur:=inClass (top 7) 0
abbrev uv:=BA×BA×V×BA×BA×BA
noncomputable abbrev AI:At:=["self","boxes","names","tree","ins","outs","ways"]
noncomputable def vX:uv->BA:=λ(bs,nm,tv,is,os,ws)=>[.lst bs,.lst nm,.val tv,.lst is,.lst os,.lst ws]
def vY:uv->Prop:=λ(bs,nm,tv,is,os,ws)=>D.bP bs=true/\D.bP nm=true/\D.bP is=true/\D.bP os=true/\D.bP ws=true
def vZ:uv->BN:=λ(bs,nm,tv,is,os,ws)=>(BK bs nm (.sh (.val tv)) is os ws:BN)
structure MY(X:Cx)(CL:BC):Prop extends bD X where
 bA:Ln X 0 "self"
 cB:Ln X 1 "boxes"
 EA:Ln X 2 "names"
 bN:Ln X 3 "tree"
 W7:Ln X 4 "ins"
 MZ:Ln X 5 "outs"
 nW:Ln X 6 "ways"
 bU:Gl X "list"
 bM:lJ X "list"
 aA:jh X.K QE
 ao:jh X.K Q2
 cU:aC X.K QE "boxes"
 bw:aC X.K Q2 "boxes"
 jK:aC X.K QE "names"
 bf:aC X.K QE "tree"
 nA:aC X.K QE "ins"
 kX:aC X.K QE "outs"
 bG:aC X.K QE "ways"
def M0(E:MY X CL)(bs nm:BA)(tv:V)(is os ws:BA)(y:Addr)(h:D.bP bs=true/\D.bP nm=true/\D.bP is=true/\D.bP os=true/\D.bP ws=true) :
  eW X CL b (d9 ur) (Sy AI y "Chart" [.lst bs,.lst nm,.val tv,.lst is,.lst os,.lst ws]) {nx:=λδ=>δ[0]? = some (some (.pin y (.ins "Chart" (BK bs nm (.sh (.val tv)) is os ws)))),rt:=λ_ _=>False}:=by
 obtain⟨h1,h2,d,c,a⟩:=h;refine ja E.aA E.cU E.bA.1 (e9 E.bM (aH E.cB) h1 E.bU aX).m rfl QaV ?_;refine ja E.aA E.jK E.bA.1 (e9 E.bM (aH E.EA) h2 E.bU aX).m rfl QaV ?_;refine ja E.aA E.bf E.bA.1 (v_ E.bN.1).m rfl QaV ?_;refine ja E.aA E.nA E.bA.1 (e9 E.bM (aH E.W7) d E.bU aX).m rfl QaV ?_;exact ja E.aA E.kX E.bA.1 (e9 E.bM (aH E.MZ) c E.bU aX).m rfl QaV (ja E.aA E.bG E.bA.1 (e9 E.bM (aH E.nW) a E.bU aX).m rfl QaV (ak rfl))
def dO:FG AI ["self","boxes","names","tree","ins","outs","ways"] ["list"] (ai ur):=fG
theorem auX{l:Q3}{k:Nat}{z:Int}(hz:z=(k:Int)):cutD l none (some z)=l.take k:=by
 subst hz;unfold cutD;have e1:HT.Il l.length 0 none=0:=rfl;have e2:HT.Il l.length l.length (some k)=min k l.length:=by
  unfold HT.Il;simp;lia
 rw[e1,e2];simp
def oK:CO:=[0,1,0,1,0,1,0,1]
def QJ(c:CH):T:=.ins "Chart" (BK (c.bs.map An) c.nm (.sh (dY c.ks c.es c.ss)) (c.is.map .tup) (c.os.map .tup) (c.ws.map iS))
def KR(c:CH):(QJ c).fB=c.d:=by
 unfold QJ CH.d;rw[TV,T.fB]
def OR:∀k:Nat,k<100->((toString (k:Int):Str).length<=2/\(k:Int).natAbs.log2<1920):=by decide +kernel
abbrev EB:=top 75
abbrev M3:=AT
noncomputable abbrev W8:At:=["script","pot","style","moods","many","ways","heard","tree","boxes","ins","outs","drawn","names"]
noncomputable def xH:M3->BA:=λs=>[.lst (s.map .int)]
def xJ:M3->Prop:=λs=>s.length<=1000
def xK:M3->T:=λs=>(QJ (qU oK 8 s):T)
structure ag4(X:Cx)(CL:BC):Prop extends bD X where
 bR:Ln X 0 "script"
 sS:Ad X "script"
 dg:Ln X 1 "pot"
 iO:Ln X 2 "style"
 ag5:Ad X "style"
 fF:Ln X 3 "moods"
 dH:Ln X 4 "many"
 vU:Ad X "many"
 nW:Ln X 5 "ways"
 jc:Ln X 6 "heard"
 uq:Ad X "heard"
 bN:Ln X 7 "tree"
 Uu:Ad X "tree"
 cB:Ln X 8 "boxes"
 W7:Ln X 9 "ins"
 MZ:Ln X 10 "outs"
 W9:Ln X 11 "drawn"
 EA:Ln X 12 "names"
 ic:Gl X "_law_cell_at"
 aR:Gl X "_law_take"
 QK:Gl X "_law_tree"
 g8:Gl X "len"
 fH:Gl X "range"
 ag6:Gl X "Chart"
 gJ:Gl X "sorted"
 i6:Fc X CL "_law_cell_at" 1 2 ni nj nu
 dS:OS X CL "_law_take" 1 2 kR pre_take kU kT
 amx:Fc X CL "_law_tree" 3 3 Gw Gy Gz
 g9:lJ X "len"
 fJ:lJ X "range"
 ag7:Fm X CL "Chart" 1 7 vX vY vZ
 gK:lJ X "sorted"
 W3:lJ X "str"
 AJ:Fc X CL "_law_some_deeds" 4 3 qa qb qc
 aqX:Fc X CL "_law_way" 4 5 MT MV MX
 b8:jh X.K Qai
 bX:aC X.K Qai "kinds"
 cT:aC X.K Qai "elders"
 lam:YB X CL "#_law_chart.<locals>.<lambda>" "_law_chart.<locals>.<lambda>"
 dp:X.A.depth<recursionLimit
 rm:eO 4 X.A
theorem ag8(E:ag4 X CL) :
  lV X CL b EB W8 xH xJ xK:=by
 intro s h;dsimp only [xJ,xH,xK]at h ⊢;have ab:s.length<=1000:=h;have z0:(0:Int)<=0:=by decide
 have G:1<=8/\8<=10:=by decide
 have pM:=Uj (SL:=oK) (s:=s) Wl;obtain⟨x,Yd,I⟩:=MD (SL:=oK) (mm:=8) (s:=s);have ae:=SI (SL:=oK) (s:=s) G;obtain⟨aI,ax,H⟩:=MF (SL:=oK) (s:=s) G;have ag:=Me (mm:=8) (s:=s);have aa:=SH (mm:=8) (s:=s);obtain⟨ZY,hw⟩:=Ul (SL:=oK) (s:=s) G;have i1:=(Gn (SL:=oK) (mm:=8) (s:=s) 1).2;have i2:=(Gn (SL:=oK) (mm:=8) (s:=s) 2).2;have DM:QJ (qU oK 8 s)=.ins "Chart" (BK (((List.range (WZ 8 s)).map (xt s)).map An) (((List.range (uY oK 8 s).length).map xf).map .str) (.sh (dY (Ew s (cst oK s) (uY oK 8 s) (uY oK 8 s).length) (uY oK 8 s) (KP s (cst oK s) (uY oK 8 s) (uY oK 8 s).length))) ((ph oK 8 s 1).map .tup) ((ph oK 8 s 2).map .tup) ((va oK 8 s).map iS)):=rfl;have n:va oK 8 s=eK bT.src ((List.range (r0 8 s)).map λ(k:Nat)=>o2 Qc4 (uY oK 8 s).length (WZ 8 s) (ov oK 8 s) (cst oK s)):=rfl;have u:∀j,ph oK 8 s j=(List.range (uY oK 8 s).length).map λ(k:Nat)=>(xc (fS s (j+(k:Int))) (WZ 8 s) (ov oK 8 s)).map dJ.d:=λ_=>rfl;have F:uY oK 8 s=IW s (vg oK 8 s) (cst oK s):=rfl;have W:vb s=fS s 0 % 10 ^ (9:Int).toNat:=rfl;have L:cst oK s=oK.getD (vb s % 8).toNat 0:=rfl;have eq1:r4 s=vb s / 8:=rfl;have N:((cmd 8 s:Nat):Int)=1+r4 s % ((8:Nat):Int):=by unfold cmd;lia
 have eq2:xp 8 s=r4 s / ((8:Nat):Int):=rfl;have M:((WZ 8 s:Nat):Int)=xp 8 s % 4:=by unfold WZ;lia
 have eq3:xn 8 s=xp 8 s / 4:=rfl;have K:((r0 8 s:Nat):Int)=1+xn 8 s % 8:=by unfold r0;lia
 have eq4:xm 8 s=xn 8 s / 8:=rfl;have O:zp 8 s=qr.take (1+xm 8 s % 3).toNat:=rfl;have eq5:r3 8 s=xm 8 s / 3:=rfl;have r:ov oK 8 s=if cst oK s=1/\0<r3 8 s % 3 then [("go":Str)] else zp 8 s:=rfl
 have p:HA oK 8 s=if cst oK s=1 then r3 8 s / 3 else r3 8 s:=rfl
 have P:vg oK 8 s=if cst oK s=2 then(11+HA oK 8 s % 20).toNat else cmd 8 s:=rfl
 show eW X CL b _ _ {nx:=_,rt:=λTv _=>Tv=QJ (qU oK 8 s),bk:=_,ct:=_};rw[DM];clear DM;generalize va oK 8 s=ws at ZY hw n ⊢;generalize ph oK 8 s=R at i1 i2 u ⊢;generalize uY oK 8 s=es at aI ax H hw n u F ⊢;generalize vg oK 8 s=mo at ae F P;generalize HA oK 8 s=q6 at p P;generalize ov oK 8 s=t at x Yd I hw n u r;generalize r3 8 s=q5 at eq5 r p;generalize zp 8 s=h0 at O r;generalize xm 8 s=q4 at eq4 O eq5;generalize r0 8 s=wn at aa n K;generalize xn 8 s=q3 at eq3 K eq4;generalize WZ 8 s=a at ag i1 i2 hw n u M ⊢;generalize xp 8 s=q2 at eq2 M eq3;generalize cmd 8 s=md at N P;generalize r4 s=q1 at eq1 N eq2;generalize cst oK s=st at pM H n F L r p P ⊢;generalize vb s=S at W L eq1;have p4:a<=10/\0<t.length/\t.length<=10:=⟨Wc,x,Wc⟩;refine aO E.g E.dg (aU (cj (ay (ji (aE (c_ ((s,0)) E.i6 E.ic (ah Qby (ah aj aJ)) (z0) rfl)) (aE (yz aj aj ⟨Wl,Wl,Wl⟩)) Wl) aQ) aL) (t2:=.lst [.sh (.int S)]) (by rw[W])) ?_;refine L6 (i:=1) rfl λy=>?_;have c0:=me S (b:=8) Wl;have c1:=l2 S (b:=8) Wl;refine gC E.g E.iO (xr (ef (fE (ds:=[.int 0,.int 1,.int 0,.int 1,.int 0,.int 1,.int 0,.int 1]) (aG aZ (aG aZ (aG aZ (aG aZ Qda)))) aL)).m (Ez E.dS E.aR E.dg.1 rfl aZ (oW Wl Wl) eq1) (show _=some (D.int (st:Nat)) from ?ix)) ?_
 case ix=>
  rw[L];obtain⟨j,hj⟩:∃j:Nat,S % 8=j:=⟨(S % 8).toNat,Wc⟩;have ar:j<8:=by lia
  rw[hj,ky];refine dQ ?_
  match j,ar with
  | 0,_=>rfl
  | 1,_=>rfl
  | 2,_=>rfl
  | 3,_=>rfl
  | 4,_=>rfl
  | 5,_=>rfl
  | 6,_=>rfl
  | 7,_=>rfl
 refine gC E.g E.fF (qZ (Eh aZ.m (Ez E.dS E.aR E.dg.1 rfl aZ (oW Wl Wl) eq2)) (t2:=.sh (.int (md:Nat))) (by rw[N];rfl)) ?_;refine gC E.g E.dH (qZ (Ez E.dS E.aR E.dg.1 rfl aZ (oW Wl Wl) eq3) (t2:=.sh (.int (a:Nat))) (by rw[M])) ?_;show eW X CL b _ [some Qb8,some (.pin y (.lst [.sh (.int q3)])),some Qa3,some (.sh (.int md)),some (.sh (.int a)),none,none,none,none,none,none,none,none] _;refine gC E.g E.nW (qZ (Eh aZ.m (Ez E.dS E.aR E.dg.1 rfl aZ (oW Wl Wl) eq4)) (t2:=.sh (.int (wn:Nat))) (by rw[K])) ?_;have d0:=me q4 (b:=3) Wl;have aT:cutD (qr.map D.str) none (some (1+q4 % 3))=h0.map D.str:=by
  rw[auX (k:=(1+q4 % 3).toNat) Wc,← List.map_take,O]
 refine gC E.g E.jc (qZ (YS (ds:=qr.map .str) (ef (fE (qI (l:=qr) rfl) aL)) (vA _) (Eh aZ.m (Ez E.dS E.aR E.dg.1 rfl aZ (oW Wl Wl) eq5))) (t2:=.lst ((h0.map .str).map T.sh)) (by rw[aT])) ?_;show eW X CL b _ [some Qb8,some (.pin y (.lst [.sh (.int q5)])),some Qa3,some (.sh (.int md)),some (.sh (.int a)),some (.sh (.int wn)),some (.lst ((h0.map .str).map T.sh)),none,none,none,none,none,none] _;refine L1 (λδ=>δ=[some Qb8,some (.pin y (.lst [.sh (.int q6)])),some Qa3,some (.sh (.int md)),some (.sh (.int a)),some (.sh (.int wn)),some (.lst ((t.map .str).map T.sh)),none,none,none,none,none,none]) ?k1 (λk=>?i1)
 case i1=>
  by_cases e:st=1
  .rw[dX e]at p;refine ap6 (ap5 (acf (Bk (fK (aH E.iO) aj).1 (ml (show(st:Int)=1 by lia))) (ace (agl (Ez E.dS E.aR E.dg.1 rfl aZ (oW Wl Wl) p) aj)))) (λA=>?_) (λA=>ak (k _ ?_))
   .refine aO E.g E.jc (fE (ds:=[.str "go"]) (aG eS fL) aL) (ak (k _ ?_));rw[r,dX ⟨e,ko A⟩];rfl
   .rw[r,dP λz=>absurd z.2 (l6 A)];rfl
  .rw[dP e]at p;refine fQ (ve (jC (q:=false) (Bk (fK (aH E.iO) aj).1 (mn (show ¬ (st:Int)=1 by lia))) (λz=>by cases z))) (λA=>by cases A) (λ_=>ak (k _ ?_));rw[r,dP λz=>e z.1,p]
 case k1=>
 rintro δ rfl;refine L1 (λδ=>∃o,δ=[some Qb8,o,some Qa3,some (.sh (.int mo)),some (.sh (.int a)),some (.sh (.int wn)),some (.lst ((t.map .str).map T.sh)),none,none,none,none,none,none]) ?k2 (λk=>?i2)
 case i2=>
  refine fQ (fK (aH E.iO) aj).1 (λA=>?_) (λA=>ak (k _ ⟨some (.pin y (.lst [.sh (.int q6)])),?_⟩))
  .have e:st=2:=by have:=ko A;lia
   rw[dX e]at P;refine gC E.g E.fF (qZ (Eh aZ.m Qb6) (t2:=.sh (.int (mo:Nat))) (by rw[show((mo:Nat):Int)=11+q6 % 20 by lia])) (ak (k _ ⟨_,rfl⟩))
  .have e:¬ st=2:=by have:=l6 A;lia
   rw[dP e]at P;rw[P]
 case k2=>
 rintro δ ⟨o,rfl⟩;refine aO E.g E.bN (jA (aU (c_ (s,mo,st) E.amx E.QK (ah Qby (ah (aH E.fF) (ah (aH E.iO) aJ))) ⟨ab,Wc,Wc,pM⟩ (Dc ..)) (t2:=.ins "Tree" (Ae (Ew s st es es.length) es (KP s st es es.length))) (by rw[F];rfl)) (YV ..)) ?_;have Ku:((Ew s st es es.length).map D.str).length=es.length:=by unfold Ew;rw[e7,e7,n6]
 refine aO E.g E.fF (jz Ku E.g9 Qdn E.g8) ?_;refine C8 (i:=6) (d:=.lst (t.map .str)) rfl (cz _) ?_;refine FN An (xt s) E.g E.cB (bI (.cons E.bR.1 (.inl E.sS) .nil) We) E.fJ E.fH (aH E.dH) Wc (λC s0 Z f0 Y i B=>?Ah) ?_
 case Ah=>
  obtain⟨sl,sg⟩:=OR i Wc;have i0:=me (i:Int) (b:=2) Wl;have aw:=(show ∀j:Nat,j<2->0<y8.getD j 0 by decide +kernel) ((i:Int) % 2).toNat Wc;refine aU (iJ (ds:=[.str (("b":Str)++(toString (i:Int):Str)),.int (fS s (10+(i:Int)) % 10 ^ (30:Int).toNat % y8.getD ((i:Int) % 2).toNat 0-2)]) (aG (aa2 cg (aE (Wg E.W3 sH (kP 0) (by exact sg))) ((by rw[mv];have h1:("b":Str).length=1:=We;show("b":Str).length+(toString (i:Int):Str).length<=_;lia))) (aG (Lk (aE (ji (aE (ji (aE (c_ ((s,10+(i:Int))) (jy E.i6) sH (ah (gH 1) Qec) (show(0:Int)<=10+(i:Int) by lia) rfl)) (aE (yz aj aj ⟨Wl,Wl,Wl⟩)) Wl)) (bH (ck (aU (cj (ay aZ (ay (yz aj aj ⟨Wl,Wl,Wl⟩) aQ)) aL) (t2:=.lst ((y8.map D.int).map T.sh)) rfl)) (aE (ji (kP 0) aj Wl)) (gP (bs:=y8) i0 (show(i:Int) % 2<2 by lia))) aw)) aj) fL)) aL) ?_;rw[show((i:Int) % 2).toNat=i % 2 by lia];rfl
 refine FN .tup (λk=>(xc (fS s (1+(k:Int))) a t).map dJ.d) E.g E.W7 QeM E.fJ E.fH (aH E.fF) Wc (λC s0 Z f0 Y i B=>aU (c_ ((fS s (1+(i:Int)),a,t)) (jy E.AJ) sH (ah (aE (c_ ((s,1+(i:Int))) (jy E.i6) sH (ah (gH 3) Qec) (show(0:Int)<=1+(i:Int) by lia) rfl)) (ah (gH 2) (ah (gH 1) aJ))) (p4) (eB sL _)) rfl) ?_;rw[← u 1];refine FN .tup (λk=>(xc (fS s (2+(k:Int))) a t).map dJ.d) E.g E.MZ QeM E.fJ E.fH (aH E.fF) Wc (λC s0 Z f0 Y i B=>aU (c_ ((fS s (2+(i:Int)),a,t)) (jy E.AJ) sH (ah (aE (c_ ((s,2+(i:Int))) (jy E.i6) sH (ah (gH 3) Qec) (show(0:Int)<=2+(i:Int) by lia) rfl)) (ah (gH 2) (ah (gH 1) aJ))) (p4) (eB sL _)) rfl) ?_;rw[← u 2];have J:st=1->es=E7:=H;refine FN iS (λk=>o2 Qc4 es.length a t st) E.g E.W9 (bI (.cons E.jc.1 (.inl E.uq) (.cons E.dH.1 (.inl E.vU) (.cons E.bR.1 (.inl E.sS) (.cons E.iO.1 (.inl E.ag5) (.cons E.bN.1 (.inl E.Uu) .nil))))) We) E.fJ E.fH (aH E.nW) Wc (λC s0 Z f0 Y i B=>aU (c_ (fS s (13+(i:Int)),es,a,t,st) (jy E.aqX) sH (ah (aE (c_ ((s,13+(i:Int))) (jy E.i6) sH (ah (gH 3) Qec) (show(0:Int)<=13+(i:Int) by lia) rfl)) (ah (cH (by exact E.b8) (by exact E.cT) (gH 5) kC) (ah (gH 2) (ah (gH 1) (ah (gH 4) aJ))))) ⟨p4.1,x,p4.2.2,Wc,Wc,J⟩ (Gp (Uk Wc (λe=>by rw[J e];rfl) x I).i)) rfl) ?_;have V:∀w∈(List.range wn).map λ(k:Nat)=>o2 Qc4 es.length a t st,D.tQ (iS w)=true:=λw hm=>by
  obtain⟨k,_,rfl⟩:=j0.1 hm;exact Gp (Uk Wc (λe=>by rw[J e];rfl) x I).i
 have U:(((List.range wn).map λ(k:Nat)=>o2 Qc4 es.length a t st).map iS).length<64:=by rw[e7,e7,n6];lia
 generalize (List.range wn).map (λ(k:Nat)=>o2 Qc4 es.length a t st)=dr at V U n ⊢;refine FN .str xf E.g E.EA (bI .nil We) E.fJ E.fH (aH E.fF) Wc (λC s0 Z f0 Y i B=>?au7) ?_
 case au7=>
  obtain⟨sl,sg⟩:=OR i Wc;exact aU (aa2 cg (aE (Wg E.W3 sH (kP 0) (sg))) ((by rw[mv];have h1:("m":Str).length=1:=We;show("m":Str).length+(toString (i:Int):Str).length<=_;lia))) rfl
 have ib:D.bP (((List.range a).map (xt s)).map An)=true:=eB Qcq _;have iw:D.bP QaQ=true:=iK λd hd=>by
  obtain⟨w,hm,rfl⟩:=j0.1 hd;exact Gp (hw w hm).i
 have iT:∀j:Int,(∀l∈R j,(l.length<=2/\D.bP l=true)/\∀d∈l,p6 a d)->D.bP ((R j).map D.tup)=true:=λj h=>iK λd hd=>by
  obtain⟨l,hm,rfl⟩:=j0.1 hd;exact(h l hm).1.2
 refine bu (mkP (f:="tree") (SV:=F7 (((List.range a).map (xt s)).map An) (((List.range es.length).map xf).map .str)) (Z9:=F8 ((R 1).map .tup) ((R 2).map .tup) QaQ) (λv=>(((List.range a).map (xt s)).map An,((List.range es.length).map xf).map .str,v,(R 1).map .tup,(R 2).map .tup,ws.map iS)) E.ag7 E.ag6
  (P0 (vL E.cB.1) (P0 (vL E.EA.1) (abw (v_ E.bN.1) (ah (vL E.W7.1) (ah (vL E.MZ.1) (ah (ck (aU (yI (y:="way") (g:=λd=>d.SR.yc) E.lam E.g E.dp E.gK E.gJ (bI .nil We) (vL E.W9.1) (iK λd hd=>?tQ) U (λf c s0 Z Y d hd=>?key)) (t2:=.lst ((ws.map iS).map T.sh)) ?eq)) aJ))))))
  (λv=>rfl) (λv=>⟨ib,vA _,iT 1 i1,iT 2 i2,iw⟩) (λv=>rfl) (Ml ib (vA _)) (Mm (iT 1 i1) (iT 2 i2) iw)) rfl
 case tQ=>
  obtain⟨w,hm,rfl⟩:=j0.1 hd;exact V w hm
 case key=>
  obtain⟨w,hm,rfl⟩:=j0.1 hd;exact bC (aE (v_ (Tg (i:=0) rfl We))) aj rfl
 case eq=>
  rw[pQ,n];rfl
def cI:RM (ai EB) ([("script",.cell),("pot",c9),("style",.cell),("moods",c9),("many",.cell),("ways",c9),("heard",.cell),("tree",.cell),("boxes",c9),("ins",c9),("outs",c9),("drawn",c9),("names",c9),("_law_cell_at",bW),("_law_take",bW),("_law_tree",bW),("len",bW),("range",bW),("Chart",bW),("sorted",bW)])=true:=by decide +kernel
def QL:c6 W8 ["script"] (ai EB):=jN
def w4(s:AT)(st mo:Nat):AT:=(List.range (min mo (s.length-st))).map λ(k:Nat)=>(oR s (some ((st:Int)+(k:Int))) none (some (mo:Int))).sum
theorem aha(s:AT)(st mo:Nat):(w4 s st mo).length<=s.length:=by unfold w4;simp;lia
abbrev EC:=top 80
abbrev M4:=AT×Nat×Nat
abbrev Xa:At:=["script","start","most","many"]
noncomputable def B4:M4->BA:=λ(s,st,mo)=>[.lst (s.map .int),.int st,.int mo]
def B5:M4->Prop:=λ(s,st,mo)=>s.length<=63/\0<mo/\mo<=100/\st<=100
def xM:M4->T:=λ(s,st,mo)=>(.lst (((w4 s st mo).map .int).map T.sh):T)
structure ahb(X:Cx)(CL:BC):Prop extends bD X where
 bR:Ln X 0 "script"
 sS:Ad X "script"
 uw:Ln X 1 "start"
 ahc:Ad X "start"
 TJ:Ln X 2 "most"
 amB:Ad X "most"
 dH:Ln X 3 "many"
 aqY:Gl X "min"
 aqZ:Gl X "max"
 g8:Gl X "len"
 fH:Gl X "range"
 aq0:lJ X "min"
 aq1:lJ X "max"
 g9:lJ X "len"
 fJ:lJ X "range"
 aq2:lJ X "sum"
theorem ahd(E:ahb X CL) :
  lV X CL b EC Xa B4 B5 xM:=by
 rintro⟨s,st,mo⟩ h;dsimp [xM]at h ⊢;obtain⟨hs,c,a,e⟩:=h;refine aO E.g E.dH (aU (afM E.g E.aq0 E.aqY (ah (aH E.TJ) (ah (aE (afN E.g E.aq1 E.aqZ (ah aj (ah (aE (Lk (aE (jz (e7 ..) E.g9 Qby E.g8)) (aH E.uw))) aJ)))) aJ))) (t2:=.sh (.int ((min mo (s.length-st):Nat)))) (by
  apply congrArg (λz=>T.sh _)
  all_goals lia)) ?_
 refine bu (aU (mR (p:=λ_=>true) (g:=λd=>T.sh (.int (oR s (some (st+d.yc.toNat)) none (some mo)).sum)) (bI (.cons E.TJ.1 (.inl E.amB) (.cons E.bR.1 (.inl E.sS) (.cons E.uw.1 (.inl E.ahc) .nil))) We) E.g.calm (sA E.fJ (aH E.dH) Wc E.fH) QaG (λC s0 j f0 f d hd=>?Ah) (l0 (cL (by simp[fD];lia)))) ?eq) rfl
 case Ah=>
  obtain⟨i,hi,rfl⟩:=j0.1 hd;have et:(D.int (0+i)).yc.toNat=i:=by show(0+(i:Int)).toNat=i;lia
  refine⟨rfl,λ_=>aU (afX (afG E.g We) (E.aq2) (ck (aU (YR (gH 2) (bz _) (xg (aE (tR (gH 3) (kP 0)))) zT (xg (gH 1)) (λz=>by lia)) (by rw[ab1]))) sH) ?_⟩;show T.sh _=T.sh _;rw[et,vw]
 case eq=>
  rw[qH];unfold fD w4;rw[kq,kq,kq];congr 1;refine oC λk _=>?_;show T.sh (.int (oR s (some (st+((0+(k:Int)).toNat))) _ _).sum)=_;rw[show(0+(k:Int)).toNat=k by lia];rfl
def jr:RM (ai EC) ([("script",.cell),("start",.cell),("most",.cell),("many",c9),("min",bW),("max",bW),("len",bW),("range",bW)])=true:=by decide +kernel
def ads:c6 Xa ["script","start","most"] (ai EC):=jN
def sU(l:List WT):BA:=l.map λq=>.tup [yS q.1,.lst (q.2.1.map .int),.lst q.2.2]
noncomputable def j8(r:BA)(l:List WT):BA:=r++l.flatMap (·.2.2)
abbrev qe:=inClass (top 61) 6
abbrev qf:=D×D×List WT×AT×BA
noncomputable abbrev v5:At:=["self","rows","step"]
def lY:qf->BA:=λ(cd,pl,l,bs,r)=>[.ins "NestRun" (sO cd pl (sU l) bs (RV (some r)))]
def lZ:qf->Prop:=λ(cd,pl,l,bs,r)=>D.bP r=true/\r.length<=5000/\l.length<=100/\∀q∈l,q.2.2.length<=4000/\D.bP q.2.2=true
def mh:qf->T:=λ(cd,pl,l,bs,r)=>(.lst ((j8 r l).map T.sh):T)
structure GD(X:Cx)(CL:BC):Prop extends bD X where
 bA:Ln X 0 "self"
 cC:Ln X 1 "rows"
 fN:Ln X 2 "step"
 bU:Gl X "list"
 bM:lJ X "list"
 ao:jh X.K Q2
 dh:aC X.K Q2 "past"
 jt:aC X.K Q2 "first_rows"
theorem GF(E:GD X CL) :
  lV X CL b qe v5 lY lZ mh:=by
 rintro⟨cd,pl,l,bs,r⟩ h;obtain⟨v,m,w,c⟩:=h;apply aO E.g E.cC (jk E.bM (fW E.ao E.jt (v_ E.bA.1) Zc) E.bU aX);have hlen:∀j,(j8 r (l.take j)).length<=r.length+4000*j:=λj=>by
  unfold j8;rw[kn];have:∀l:List WT,(∀q∈l,q.2.2.length<=4000)->(l.flatMap (·.2.2)).length<=4000*l.length:=by
   intro l
   induction l with
   | nil=>intro _;exact kr _
   | cons q l k=>
    intro h;rw[sv,kn,lr];have h1:=h q fX;have h2:=k λp n=>h p (i8 _ n);lia
  have h1:=this (l.take j) λq hm=>(c q (rf hm)).1;have h2:(l.take j).length<=j:=by rw[mT];lia
  lia
 refine iG E.g E.fN (λj δ=>∃o,δ=[some (.sh (.ins "NestRun" (sO cd pl (sU l) bs (RV (some r))))),some (.lst ((j8 r (l.take j)).map T.sh)),o])
  (dF (fW E.ao E.dh (v_ E.bA.1) Gh)) ⟨ _,by rw[List.take_zero];unfold j8;rw[List.flatMap_nil,km];rfl⟩ (λj δ ⟨_,e⟩=>by subst e;exact jj rfl) ?turn ?fin
 case turn=>
  rintro j d δ t ⟨o,rfl⟩;obtain⟨q,rfl,_,a,x,_,f⟩:=j5 t;obtain⟨u,i⟩:=c q a;have s:=hlen j;refine nV E.cC.1 rfl (bC (aH E.fN) aj zv) i rfl (by rw[e7];lia) (ak ⟨some (.sh (.tup [yS q.1,.lst (q.2.1.map .int),.lst q.2.2])),?_⟩);rw[f];unfold j8;rw[FV,sv,List.flatMap_nil,km,← jw,kc (l₂:=q.2.2)];rfl
 case fin=>
  rintro δ ⟨o,rfl⟩;have e:(sU l).length=l.length:=e7 ..;rw[e,mf];exact bu (vM E.cC.1) rfl
def iV:FG v5 ["self"] ["list"] (ai qe):=fG
abbrev nX:=inClass (top 63) 3
abbrev nY:=D×Pl×BA×AT×DO
abbrev uZ:At:=["self"]
def kY:nY->BA:=λ(cd,p,pa,bs,ex)=>[.ins "NestRun" (sO cd (yS p) pa bs ex)]
def kZ:nY->Prop:=λ(cd,p,pa,bs,ex)=>True
noncomputable def k6:nY->T:=λ(cd,p,pa,bs,ex)=>(.tup [.lst ((p.1.map .int).map T.sh),.lst ((p.2.map .int).map T.sh),.lst ((bs.map .int).map T.sh)]:T)
structure DN(X:Cx)(CL:BC):Prop extends bD X where
 bA:Ln X 0 "self"
 bU:Gl X "list"
 bM:lJ X "list"
 aA:jh X.K QE
 ao:jh X.K Q2
 cU:aC X.K QE "boxes"
 bw:aC X.K Q2 "boxes"
 bJ:aC X.K Q2 "place"
def DP(E:DN X CL) :
  lV X CL b nX uZ kY kZ k6:=by
 rintro⟨cd,p,pa,bs,ex⟩ h;exact bu (lQ (ay (jk E.bM (nU Qd2 aj yM) E.bU aX) (ay (jk E.bM (nU Qd2 aj FL) E.bU aX) (ay (jk E.bM (fW E.ao E.bw (v_ E.bA.1) xD) E.bU aX) aQ))) aL) rfl
def mj:FG uZ ["self"] ["list"] (ai nX):=fG
abbrev mq:=inClass (top 61) 7
abbrev mw:=D×D×BA×AT×DO
abbrev sV:At:=["self"]
def j9:mw->BA:=λ(cd,pl,pa,bs,ex)=>[.ins "NestRun" Qc3]
def kg:mw->Prop:=λ(cd,pl,pa,bs,ex)=>True
noncomputable def kh:mw->T:=λ(cd,pl,pa,bs,ex)=>(.lst ((bs.map .int).map T.sh):T)
structure B6(X:Cx)(CL:BC):Prop extends bD X where
 bA:Ln X 0 "self"
 bU:Gl X "list"
 bM:lJ X "list"
 aA:jh X.K QE
 ao:jh X.K Q2
 cU:aC X.K QE "boxes"
 bw:aC X.K Q2 "boxes"
def B7(E:B6 X CL) :
  lV X CL b mq sV j9 kg kh:=by
 rintro⟨cd,pl,pa,bs,ex⟩ h;exact bu (jk E.bM (fW E.ao E.bw (v_ E.bA.1) xD) E.bU aX) rfl
def k7:FG sV ["self"] ["list"] (ai mq):=fG
abbrev n5:=inClass (top 63) 2
abbrev n9:=D×Pl×BA×AT×DO
abbrev u5:At:=["self"]
def k8:n9->BA:=λ(cd,p,pa,bs,ex)=>[.ins "NestRun" (sO cd (yS p) pa bs ex)]
def k9:n9->Prop:=λ(cd,p,pa,bs,ex)=>True
noncomputable def lg:n9->T:=λ(cd,p,pa,bs,ex)=>(.lst ((p.1.map .int).map T.sh):T)
structure DQ(X:Cx)(CL:BC):Prop extends bD X where
 bA:Ln X 0 "self"
 bU:Gl X "list"
 bM:lJ X "list"
 ao:jh X.K Q2
 bJ:aC X.K Q2 "place"
def DR(E:DQ X CL) :
  lV X CL b n5 u5 k8 k9 lg:=by
 rintro⟨cd,p,pa,bs,ex⟩ h;exact bu (jk E.bM (nU Qd2 aj yM) E.bU aX) rfl
def mz:FG u5 ["self"] ["list"] (ai n5):=fG
abbrev ux:=inClass (top 61) 5
abbrev uy:=D×D×BA×AT×DO
abbrev AK:At:=["self"]
def qg:uy->BA:=λ(cd,pl,pa,bs,ex)=>[.ins "NestRun" Qc3]
def qh:uy->Prop:=λ(cd,pl,pa,bs,ex)=>True
noncomputable def qi:uy->T:=λ(cd,pl,pa,bs,ex)=>(.sh (.int ((pa.length:Nat):Int)):T)
structure M5(X:Cx)(CL:BC):Prop extends bD X where
 bA:Ln X 0 "self"
 g8:Gl X "len"
 g9:lJ X "len"
 ao:jh X.K Q2
 dh:aC X.K Q2 "past"
def M6(E:M5 X CL) :
  lV X CL b ux AK qg qh qi:=by
 rintro⟨cd,pl,pa,bs,ex⟩ h;exact bu (Ea E.g9 (cH E.ao E.dh (aH E.bA) Gh) E.g8) rfl
def rq:FG AK ["self"] ["len"] (ai ux):=fG
noncomputable def qm(r:BA)(p:Pl)(bs:AT)(n:Nat):T:=.lst [.lst (r.map T.sh),.tup [.lst ((p.1.map .int).map T.sh),.lst ((p.2.map .int).map T.sh),.lst ((bs.map .int).map T.sh)],.lst ((bs.map .int).map T.sh),.lst ((p.1.map .int).map T.sh),.sh (.int (n:Nat))]
noncomputable def He(r:BA)(p:Pl)(bs:AT)(n:Nat):D:=.lst [.lst r,.tup [.lst (p.1.map .int),.lst (p.2.map .int),.lst Qbo],.lst Qbo,.lst (p.1.map .int),.int (n:Nat)]
def Uv(r:BA)(p:Pl)(bs:AT)(n:Nat):(qm r p bs n).fB=He r p bs n:=by
 unfold qm He;rw[T.fB,T.cQ,cz,T.cQ,auM,T.cQ,cz,T.cQ,cz,T.cQ,T.cQ,T.fB]
def AO{r:BA}(h:D.bP r=true)(p:Pl)(bs:AT)(n:Nat):(qm r p bs n).clean=true:=by
 unfold qm;rw[T.clean,T.cW,dR h,T.cW,Ge (bz _) (bz _) (bz _),T.cW,aM,T.cW,aM];rfl
abbrev Uw:=top 76
abbrev Ux:=D×Pl×List WT×AT×BA
abbrev TC:At:=["run"]
def GH:Ux->BA:=λ(cd,p,l,bs,r)=>[.ins "NestRun" (sO cd (yS p) (sU l) bs (RV (some r)))]
def GJ:Ux->Prop:=λ(cd,p,l,bs,r)=>D.bP r=true/\r.length<=5000/\l.length<=100/\∀q∈l,q.2.2.length<=4000/\D.bP q.2.2=true
def GK:Ux->T:=λ(cd,p,l,bs,r)=>(qm (j8 r l) p bs l.length:T)
structure amC(X:Cx)(CL:BC):Prop extends bD X where
 QM:Ln X 0 "run"
 GL:Fq X CL "NestRun" "story" 1 1 lY lZ mh
 DS:Fq X CL "NestRun" "state" 1 1 kY kZ k6
 B8:Fq X CL "NestRun" "numbers" 1 1 j9 kg kh
 DT:Fq X CL "NestRun" "moods" 1 1 k8 k9 lg
 M7:Fq X CL "NestRun" "fed" 1 1 qg qh qi
def amD(E:amC X CL) :
  lV X CL b Uw TC GH GJ GK:=by
 rintro⟨cd,p,l,bs,r⟩ h;have no:∀{m:Str},(m==("chart"))=false->(m==("place"))=false->(m==("past"))=false->(m==("boxes"))=false->(m==("first_rows"))=false->(sO cd (yS p) (sU l) bs (RV (some r))).lookup m=none:=Yw;have hi:=iK λd hd=>by
  obtain z|z:=i3.1 hd
  .exact gY h.1 d z
  .obtain⟨q,a,z⟩:=l4.1 z;exact gY (h.2.2.2 q a).2 d z
 have c:(sU l).length=l.length:=e7 ..;exact bu (cj (ay (q0_ (cd,yS p,l,bs,r) E.GL (aH E.QM) (no We We We We We) rfl h (dR hi)) (ay (q0_ (cd,p,sU l,bs,RV _) E.DS (aH E.QM) (no We We We We We) rfl trivial (Ge (bz _) (bz _) (bz _))) (ay (q0_ (cd,yS p,sU l,bs,RV _) E.B8 (aH E.QM) (no We We We We We) rfl trivial (aM _)) (ay (q0_ (cd,p,sU l,bs,RV _) E.DT (aH E.QM) (no We We We We We) rfl trivial (aM _)) (ay (aU (q0_ (cd,yS p,sU l,bs,RV _) E.M7 (aH E.QM) (no We We We We We) rfl trivial rfl) (by rw[← c];rfl)) aQ))))) aL) rfl
def Xb:FG TC ["run"] [] (ai Uw):=fG
abbrev Uy:=top 78
abbrev Uz:=BA×Pl×AT×Nat
abbrev TB:At:=["look","state"]
def AQ:Uz->BA:=λ(r,p,bs,n)=>[He r p bs n]
def AU:Uz->Prop:=λ(r,p,bs,n)=>D.bP r=true
def AV:Uz->T:=λ(r,p,bs,n)=>(qm r p bs n:T)
structure amE(X:Cx)(CL:BC):Prop extends bD X where
 gD:Ln X 0 "look"
 Xc:Ln X 1 "state"
 bU:Gl X "list"
 bM:lJ X "list"
def amF(E:amE X CL) :
  lV X CL b Uy TB AQ AU AV:=by
 rintro⟨r,p,bs,n⟩ h;dsimp only [AU,AQ,AV]at h ⊢;have hi:D.bP r=true:=h;refine aO E.g E.Xc (lQ (ay (e9 E.bM (bC (bH (aH E.gD) aj FL) aj yM) (bz _) E.bU aX) (ay (e9 E.bM (bC (bH (aH E.gD) aj FL) aj FL) (bz _) E.bU aX) (ay (e9 E.bM (bC (bH (aH E.gD) aj FL) aj zv) (bz _) E.bU aX) aQ))) aL) ?_;exact bu (cj (ay (e9 E.bM (bH (aH E.gD) aj yM) hi E.bU aX) (ay (vM E.Xc.1) (ay (e9 E.bM (bH (aH E.gD) aj zv) (bz _) E.bU aX) (ay (e9 E.bM (bH (aH E.gD) aj OP) (bz _) E.bU aX) (ay (cX (bH (aH E.gD) aj (dQ (j:=4) rfl)) rfl) aQ))))) aL) rfl
def ED:FG TB ["look"] ["list"] (ai Uy):=fG
abbrev M8:=top 79
abbrev EE:=Addr×BA×Pl×AT×Nat
abbrev Xd:At:=["look"]
def B9:EE->B1:=λ(y,r,p,bs,n)=>[.pin y (qm r p bs n)]
noncomputable def Ca:EE->B1:=λ(y,r,p,bs,n)=>[.pin y (.lst [.lst (r.map T.sh++[.sh (.tup [.str "in",.int 0])]),.tup [.lst ((p.1.map .int).map T.sh++[.sh (.int 0)]),.lst (((p.2.map .int).map T.sh).set 0 (.sh (.int 0))),.lst ((bs.map .int).map T.sh++[.sh (.int 5)])],.lst ((bs.map .int).map T.sh++[.sh (.int 5)]),.lst ((p.1.map .int).map T.sh++[.sh (.int 0)]),.sh (.int (n:Nat))])]
def Cb:EE->Prop:=λ(y,r,p,bs,n)=>r.length<=1000000/\0<p.2.length/\p.1.length<=1000/\bs.length<=1000
noncomputable def Cd:EE->T:=λ(y,r,p,bs,n)=>(.sh .non:T)
structure ahf(X:Cx)(CL:BC):Prop extends bD X where
 gD:Ln X 0 "look"
theorem ahg(E:ahf X CL) :
  oT X CL b M8 Xd B9 Cb Cd Ca:=by
 rintro⟨y,r,p,bs,n⟩ h;obtain⟨h1,h2,d,c⟩:=h;have e1:((p.1.map D.int).map T.sh).length<=1000000:=by rw[e7,e7];lia
 have e2:((bs.map D.int).map T.sh).length<=1000000:=by rw[e7,e7];lia
 have a:Dy ((p.2.map D.int).map T.sh).length 0=some 0:=by rw[e7,e7];exact ug h2
 refine yK QcM rfl rfl (iJ (aG eS (aG aZ fL)) aL) rfl rfl (by rw[e7];exact h1) ?_;refine yK (iM QcM rfl rfl aj rfl) rfl rfl aZ rfl rfl e1 ?_;refine yL aZ (iM QcM rfl rfl aj rfl) aj rfl rfl a ?_;exact yK (iM QcM rfl rfl aj rfl) rfl rfl aZ rfl rfl e2 (yK QcM rfl rfl aZ rfl rfl e2 (yK QcM rfl rfl aZ rfl rfl e1 (ak ⟨rfl,kO (ds:=[])⟩)))
def QN:FG Xd ["look"] [] (ai M8):=fG
noncomputable def OF:D->BA
 | .lst l=>l
 | _=>[]
abbrev GN:=top 77
abbrev GO:=CH
noncomputable abbrev QO:At:=["chart","tree","lists"]
def yX:GO->BA:=λc=>[c.d]
def yZ:GO->Prop:=λc=>True
def y9:GO->T:=λc=>(.lst ((Dj c).map λd=>T.lst ((OF d).map T.sh)):T)
structure adv(X:Cx)(CL:BC):Prop extends bD X where
 aK:Ln X 0 "chart"
 bN:Ln X 1 "tree"
 Xe:Ln X 2 "lists"
 bM:lJ X "list"
 aA:jh X.K QE
 ao:jh X.K Q2
 b8:jh X.K Qai
 bf:aC X.K QE "tree"
 cU:aC X.K QE "boxes"
 bw:aC X.K Q2 "boxes"
 jK:aC X.K QE "names"
 nA:aC X.K QE "ins"
 kX:aC X.K QE "outs"
 bG:aC X.K QE "ways"
 bX:aC X.K Qai "kinds"
 cT:aC X.K Qai "elders"
 jJ:aC X.K Qai "starts"
def adw(E:adv X CL) :
  lV X CL b GN QO yX yZ y9:=by
 intro c h;refine aO E.g E.bN (fW E.aA E.bf (v_ E.aK.1) fM) ?_;refine aO E.g E.Xe (aU (cj (ay (fW E.aA E.cU (v_ E.aK.1) Df) (ay (fW E.aA E.jK (v_ E.aK.1) Dg) (ay (fW E.aA E.nA (v_ E.aK.1) Kv) (ay (fW E.aA E.kX (v_ E.aK.1) F6) (ay QcQ (ay (fW E.b8 E.bX (v_ E.bN.1) jn) (ay (fW E.b8 E.cT (v_ E.bN.1) kC) (ay (fW E.b8 E.jJ (v_ E.bN.1) C9) aQ)))))))) aL) (t2:=.lst ((Dj c).map _)) rfl) ?_;apply C8 (i:=2) rfl (cz _);refine bu (aU (mR (bI .nil We) E.g.calm (dF (v_ E.Xe.1)) QaG (λC s0 e f0 a d hd=>⟨rfl,λ_=>?Ah⟩) (l0 (cL QaV))) rfl) rfl
 case Ah=>
  obtain⟨ds,rfl⟩:∃ds,d=.lst ds:=by
   unfold Dj at hd;simp at hd;obtain rfl|rfl|rfl|rfl|rfl|rfl|rfl|rfl:=hd<;>exact⟨_,rfl⟩
  exact jk (E.bM) (v_ (BH 0)) sH aX
def xN:FG QO ["chart"] [] (ai GN):=fG
abbrev EF:=top 14
abbrev M9:=At×AT×AT×Int
abbrev Xf:At:=["tree","mood"]
def xO:M9->BA:=λ(ks,es,ss,m)=>[dY ks es ss,.int m]
def pR:M9->Prop:=λ(ks,es,ss,m)=>es.length<=1000
def xP:M9->T:=λ(ks,es,ss,m)=>(.lst (((jo es m).map .int).map T.sh):T)
structure ahh(X:Cx)(CL:BC):Prop extends bD X where
 bN:Ln X 0 "tree"
 cD:Ln X 1 "mood"
 amG:Ad X "mood"
 v7:Gl X "enumerate"
 v8:lJ X "enumerate"
 b8:jh X.K Qai
 cT:aC X.K Qai "elders"
def ahi(E:ahh X CL) :
  lV X CL b EF Xf xO pR xP:=by
 rintro⟨ks,es,ss,m⟩ h;refine bu (Ft (afU (xs:=["place","elder"]) (.cons E.cD.1 (.inl E.amG) .nil) We) E.g.calm
  (PV 0 E.v8 (fW E.b8 E.cT (v_ E.bN.1) kC) E.v7) QaG (λC s0 c f0 a=>⟨Wk (by show List.Nodup (["place","elder","mood"]:At);decide +kernel) E.g.calm (SK rfl We) (SK rfl We),λd hd=>?Ah⟩) (by rw[e7,n6];exact l0 (cL h))) (congrArg _ (aci es m))
 case Ah=>
  obtain⟨i,hi,rfl⟩:=j0.1 hd;exact⟨_,rfl,rfl,(fK (kP 1) (gH 2)).1,λ_=>v_ (BH 0)⟩
def AW:RM (ai EF) ([("tree",c9),("mood",.cell),("enumerate",bW)])=true:=by decide +kernel
def adx:c6 Xf ["tree","mood"] (ai EF):=jN
abbrev v9:=top 34
abbrev wc:=At×AT×AT×AT×Nat×Str
noncomputable abbrev Dl:At:=["tree","memory","mood","mode","kind"]
def rA:wc->BA:=λ(ks,es,ss,mem,m,mode)=>[dY ks es ss,.lst QbN,.int m,.str mode]
def rB:wc->Prop:=λ(ks,es,ss,mem,m,mode)=>es.length<=900/\ks.length=es.length/\ss.length=es.length/\mem.length=es.length/\m<es.length/\t8 mode/\∀k:Nat,k<es.length->aY ks k=true\/av ks k=true\/ks.getD k Str.empty="one"
def mV:wc->T:=λ(ks,es,ss,mem,m,mode)=>(.lst (((OU Qas Q1 es ss mem (eX mode || g6 mode) m).map .int).map T.sh):T)
structure QS(X:Cx)(CL:BC):Prop extends bD X where
 bN:Ln X 0 "tree"
 di:Ln X 1 "memory"
 cD:Ln X 2 "mood"
 rj:Ln X 3 "mode"
 UA:Ln X 4 "kind"
 AX:Gl X "inner"
 Nb:Fc X CL "inner" 1 2 xO pR xP
 b8:jh X.K Qai
 bX:aC X.K Qai "kinds"
 jJ:aC X.K Qai "starts"
theorem QT(E:QS X CL) :
  lV X CL b v9 Dl rA rB mV:=by
 rintro⟨ks,es,ss,mem,m,mode⟩ h;dsimp [mV]at h ⊢;obtain⟨k,l,hs,hm,o,f,j⟩:=h;apply aO E.g E.UA (cX (bH Qdn QaZ (gf _ Wc Wc)) rfl);refine fQ (eU (aH E.UA) cg).1 (λc=>?_) (λc=>ak ?_)
 .apply bu Qa4;unfold OU;rw[dX (show aY ks m=true from c)];rfl
 refine fQ (eU (aH E.UA) cg).1 (λd=>?_) (λd=>ak ?_)
 .apply bu (c_ ((ks,es,ss,(m:Int))) E.Nb E.AX Qei ((by dsimp [pR];lia)) (aM _));unfold OU;rw[dP (λz=>by rw[show aY ks m=false from c]at z;cases z),dX (show av ks m=true from d)];rfl
 have key:OU Qas Q1 es ss mem (eX mode || g6 mode) m=[kD ss mem (eX mode || g6 mode) m]:=by
  unfold OU;rw[dP (λz=>by rw[show aY ks m=false from c]at z;cases z),dP (λz=>by rw[show av ks m=false from d]at z;cases z)]
 rw[key];have i:(eX mode || g6 mode)=!decide (mode="new"):=by
  obtain e|e|e:=f<;>rw[e]<;>decide +kernel
 refine fQ (ve (Wa (eU (aH E.rj) cg).1 (λn=>(Sw (fK (bH (aH E.di) QaZ (gP Wc Wc)) Qbb).1)))) (λa=>?_) (λa=>ak ?_)
 .apply bu (fE (aG (cX (bH (cH E.b8 E.jJ QaY C9) QaZ (gP Wc Wc)) rfl) fL) aL);have e:kD ss mem (eX mode || g6 mode) m=ss.getD (m:Int).toNat 0:=by
   unfold kD;rw[dP (λz=>by
    rw[i]at z;simp at a;obtain w|w:=a
    .rw[ml w]at z;cases z.1
    .exact z.2 w)]
  rw[e];rfl
 .apply bu (fE (aG (cX (bH (aH E.di) QaZ (gP Wc Wc)) rfl) fL) aL);have e:kD ss mem (eX mode || g6 mode) m=mem.getD (m:Int).toNat 0:=by
   unfold kD;simp at a;rw[dX ⟨by rw[i,mn a.1];rfl,a.2⟩]
  rw[e];rfl
def iQ:FG Dl ["tree","memory","mood","mode"] ["inner"] (ai v9):=fG
abbrev GP:=top 33
abbrev GQ:=At×AT×AT×AT×Nat×Str
noncomputable abbrev QV:At:=["tree","memory","mood","mode","found","further","place"]
def qj:GQ->BA:=λ(ks,es,ss,mem,m,mode)=>[dY ks es ss,.lst QbN,.int m,.str mode]
def ki(dd:Nat):GQ->Prop:=λ(ks,es,ss,mem,m,mode)=>(es.length<=900/\ks.length=es.length/\ss.length=es.length/\mem.length=es.length/\m<es.length/\t8 mode/\∀k:Nat,k<es.length->aY ks k=true\/av ks k=true\/ks.getD k Str.empty="one")/\dG Qas Q1 es ss mem/\es.length<=m+dd+1
def mC:GQ->T:=λ(ks,es,ss,mem,m,mode)=>(.lst (((IQ ks es ss mem mode m).map .int).map T.sh):T)
structure ady(X:Cx)(CL:BC)(dd:Nat):Prop extends bD X where
 bN:Ln X 0 "tree"
 di:Ln X 1 "memory"
 cD:Ln X 2 "mood"
 rj:Ln X 3 "mode"
 eY:Ln X 4 "found"
 KS:Ln X 5 "further"
 jB:Ln X 6 "place"
 wg:Gl X "opened_in"
 lq:Gl X "opened"
 QW:Fc X CL "opened_in" 2 4 rA rB mV
 sW:∀d',d'<dd->Fc X CL "opened" (3+d') 4 qj (ki d') mC
theorem adz{dd:Nat}(E:ady X CL dd) :
  lV X CL b GP QV qj (ki dd) mC:=by
 rintro⟨ks,es,ss,mem,m,mode⟩ h;dsimp [mC]at h ⊢;obtain⟨C,c,N⟩:=h;have x:=C;obtain⟨J,K,hs,hm,A,I,v⟩:=C;have u:IQ ks es ss mem mode m=(m:Int)::(OU Qas Q1 es ss mem (eX mode || g6 mode) m).flatMap Qdx:=by
  unfold IQ;rw[Qk c _ (es.length+1) A Wc Wc,jP]
 rw[u];apply aO E.g E.eY (fE (aG (v_ E.cD.1) fL) aL);refine aO E.g E.KS (akO (t:=.sh (.str QdF)) (eU (aH E.rj) cg).1 (λr=>aU eS (by rw[dX (show eX mode=true from r)])) (λr=>aU eS (by rw[dP (λz=>by rw[show eX mode=false from r]at z;cases z)]))) ?_;have l:t8 QdF:=by
  split
  .exact .inr QaG
  .exact .inl rfl
 have n:eX QdF=eX mode:=by
  cases e:eX mode with
  | true=>decide +kernel
  | false=>decide +kernel
 have i:g6 QdF=false:=by
  cases e:eX mode with
  | true=>decide +kernel
  | false=>decide +kernel
 generalize M:(if eX mode=true then("far":Str) else "new")=B at l n i ⊢;have f:∀p∈OU _ _ es ss mem (eX mode || g6 mode) m,p∈jo es m:=λp H=>sJ c A H;have y:=Ai c (far:=eX mode) (near:=g6 mode) (d:=es.length+1) A;rw[jP]at y;generalize w:OU _ _ es ss mem _ m=a at f y ⊢;refine iG E.g E.jB (λj δ=>∃o,δ=[some _,some _,some _,some _,some (.lst ((((m:Int)::(a.take j).flatMap (λp=>jP Qas Q1 es ss mem (eX mode) es.length false p)).map _).map _)),some _,o])
  (dF (ef (aU (t2:=T.lst ((a.map _).map _)) (c_ ((ks,es,ss,mem,m,mode)) E.QW E.wg (ah QaY (ah (aH E.di) (ah QaZ (ah (aH E.rj) aJ)))) (x) (aM _)) (by rw[← w];rfl)))) ⟨_,rfl⟩ (λj δ ⟨_,e⟩=>by subst e;exact jj rfl) ?turn ?fin
 case turn=>
  rintro j d δ L ⟨o,rfl⟩;obtain⟨p,rfl,_,s,R,_,F⟩:=j5 L;have P:=cu c.pre (f p s);obtain⟨q,rfl⟩:∃q:Nat,p=q:=⟨p.toNat,Wc⟩;have G:=Ai c (far:=eX mode) (near:=false) (d:=es.length) (k:=q) Wc;have hpl:(((m:Int)::(a.take j).flatMap Qdx).length)<=es.length:=by
   refine kM ?_ y;apply Nat.succ_le_succ;have h2:=Fn j a
   conv=>rhs;rw[← h2]
   rw[FV,kn];lia
  refine nV E.eY.1 rfl (ck (c_ (ks,es,ss,mem,q,B) (E.sW (dd-1) Wc) E.lq (ah QaY (ah (aH E.di) (ah (aH E.jB) (ah (aH E.KS) aJ)))) (⟨⟨J,K,hs,hm,Wc,l,v⟩,c,Wc⟩) (aM _))) (bz _) rfl ?len (ak ?_)
  case len=>
   rw[e7,e7,e7];show _+(jP _ _ es ss mem _ _ _ q).length<=_;lia
  have O:(((m:Int)::(a.take j).flatMap Qdx).map D.int).map T.sh++((IQ ks es ss mem B q).map D.int).map T.sh=(((m:Int)::(a.take QA).flatMap Qdx).map D.int).map T.sh:=by
   unfold IQ;rw[n,i,F];simp
  rw[O];exact⟨_,rfl⟩
 case fin=>
  rintro δ ⟨o,rfl⟩;rw[e7,mf];exact bu (vM E.eY.1) rfl
def iu:FG QV ["tree","memory","mood","mode"] ["opened_in","opened"] (ai GP):=fG
abbrev Ce:=top 46
abbrev Cg:=BA×BA×D×ES×BA×BA×AT
noncomputable abbrev KW:At:=["chart","come","rows","mood"]
def qO:Cg->BA:=λ(bs,nm,tr,is,os,ws,a)=>[g7 bs nm tr (is.map .tup) os ws,.lst (a.map .int)]
def nB:Cg->Prop:=λ(bs,nm,tr,is,os,ws,a)=>ua is/\a.length<=1000/\∀m∈a,0<=m/\m<is.length
def nE:Cg->T:=λ(bs,nm,tr,is,os,ws,a)=>(.lst ((inR is a).map T.sh):T)
structure Zi(X:Cx)(CL:BC):Prop extends bD X where
 aK:Ln X 0 "chart"
 uz:Ln X 1 "come"
 cC:Ln X 2 "rows"
 cD:Ln X 3 "mood"
 aA:jh X.K QE
 nA:aC X.K QE "ins"
theorem Zj(E:Zi X CL) :
  lV X CL b Ce KW qO nB nE:=by
 rintro⟨bs,nm,tr,is,os,ws,a⟩ h;dsimp [nE]at h ⊢;obtain⟨c,p,n⟩:=h;apply aO E.g E.cC Qa4;refine iG E.g E.cD (λj δ=>∃o,δ=[some _,some _,some (.lst ((inR is (a.take j)).map T.sh)),o])
  (dF (v_ E.uz.1)) ⟨_,rfl⟩ (λj δ ⟨_,e⟩=>by subst e;exact jj rfl) ?turn ?fin
 case turn=>
  rintro j d δ l ⟨o,rfl⟩;obtain⟨m,rfl,_,hm,q,_,f⟩:=j5 l;obtain⟨m0,m1⟩:=n m hm;have k:=(Ga c (a.take j)).1;have i:(a.take j).length<=j:=by simp;lia
  obtain⟨g1,g2⟩:=c.get _;apply jH E.cC.1 rfl (iJ (aG eS (aG (v_ E.cD.1) fL)) aL) rfl (by rw[e7];lia);refine nV E.cC.1 rfl (bH (cH E.aA E.nA QaJ Kv) QaZ (gf [] m0 m1)) g2 rfl (by rw[kn,e7,sE];lia) (ak ⟨some Qb2,?_⟩);rw[f,acy,kc,jw];rfl
 case fin=>
  rintro δ ⟨o,rfl⟩;rw[e7,mf];exact bu (vM E.cC.1) rfl
def qk:FG KW ["chart","come"] [] (ai Ce):=fG
abbrev Nf:=top 41
abbrev Ng:=BA×BA×At×AT×AT×ES×BA×BA
noncomputable abbrev Xg:At:=["chart","memory","opens"]
def Ci:Ng->BA:=λ(bs,nm,ks,es,ss,is,os,ws)=>[g7 bs nm Qa5 (is.map .tup) os ws]
def Cj:Ng->Prop:=λ(bs,nm,ks,es,ss,is,os,ws)=>nm.length=es.length/\0<es.length/\es.length<=40/\ks.length=es.length/\ss.length=es.length/\is.length=es.length/\ua is/\(∀k:Nat,k<es.length->aY ks k=true\/av ks k=true\/ks.getD k Str.empty="one")/\dG Qas Q1 es ss QcN
def xQ:Ng->T:=λ(bs,nm,ks,es,ss,is,os,ws)=>(.tup [.lst ((inR is (IQ ks es ss QcN "new" 0)).map T.sh),.lst (((IQ ks es ss QcN "new" 0).map .int).map T.sh),.lst (((List.replicate es.length (-1)).map .int).map T.sh)]:T)
structure ahk(X:Cx)(CL:BC):Prop extends bD X where
 aK:Ln X 0 "chart"
 di:Ln X 1 "memory"
 cY:Ln X 2 "opens"
 g8:Gl X "len"
 lq:Gl X "opened"
 sX:Gl X "in_rows"
 g9:lJ X "len"
 sW:Fc X CL "opened" 43 4 qj (ki 40) mC
 Ck:Fc X CL "in_rows" 1 2 qO nB nE
 aA:jh X.K QE
 bf:aC X.K QE "tree"
 jK:aC X.K QE "names"
theorem ahl(E:ahk X CL) :
  lV X CL b Nf Xg Ci Cj xQ:=by
 rintro⟨bs,nm,ks,es,ss,is,os,ws⟩ h;dsimp [xQ]at h ⊢;obtain⟨d,h0,l,j,hs,hi,i,e,f⟩:=h;apply aO E.g E.di (aU (af0 (ck (fE (aG (gX aj) fL) aL)) (aE (jz d E.g9 (cH E.aA E.jK QaJ Dg) E.g8)) rfl Wc Wc (by rw[mv];simp;lia)) (by rw[acE]));have k:(List.replicate _ (-1)).length=es.length:=sT ..;apply aO E.g E.cY (aU (c_ (ks,es,ss,List.replicate _ _,0,("new":Str)) E.sW E.lq (ah Qcc (ah (vL E.di.1) (ah aj (ah cg aJ)))) (⟨⟨Wc,j,hs,k,h0,.inl rfl,e⟩,f,Wc⟩) (aM _)) (t2:=.lst _) rfl);have c:(IQ ks es ss _ "new" 0).length<=es.length:=Ai f h0;have a:∀m∈IQ ks es ss _ "new" 0,0<=m/\m<is.length:=λm hm=>by
  have n:=bS f _ h0 m hm;lia
 generalize IQ ks es ss _ _ 0=ops at c a ⊢;exact bu (lQ (ay (aU (c_ (bs,nm,dY ks es ss,is,os,ws,ops) E.Ck E.sX (ah QaJ (ah (vL E.cY.1) aJ)) (⟨i,Wc,a⟩) (dR (Ga i ops).2)) rfl) (ay (vM E.cY.1) (ay (vM E.di.1) aQ))) aL) rfl
def ql:FG Xg ["chart"] ["len","opened","in_rows"] (ai Nf):=fG
abbrev GR:=top 8
abbrev GU:=(List (Str×Int))×BA×D×BA×BA×BA
abbrev QX:At:=["chart"]
def za:GU->BA:=λ(bs,nm,tr,is,os,ws)=>[g7 (bs.map An) nm tr is os ws]
def uA:GU->Prop:=λ(bs,nm,tr,is,os,ws)=>bs.length<=1000
noncomputable def uB:GU->T:=λ(bs,nm,tr,is,os,ws)=>(.lst (((bs.map (·.2)).map D.int).map T.sh):T)
structure adA(X:Cx)(CL:BC):Prop extends bD X where
 aK:Ln X 0 "chart"
 aA:jh X.K QE
 ao:jh X.K Q2
 cU:aC X.K QE "boxes"
 bw:aC X.K Q2 "boxes"
theorem adB(E:adA X CL) :
  lV X CL b GR QX za uA uB:=by
 rintro⟨bs,nm,tr,is,os,ws⟩ h;dsimp [uA,uB]at h ⊢;refine bu (mR (p:=λ_=>true) (g:=λd=>T.sh d.at2) (bI .nil We) E.g.calm (dF (fW E.aA E.cU (v_ E.aK.1) Df)) QaG (λC s0 e f0 c d hd=>?Ah) (l0 (cL WE))) ?eq
 case Ah=>
  obtain⟨p,a,rfl⟩:=j0.1 hd;exact⟨rfl,λ_=>cX (bC (kP 0) aj rfl) rfl⟩
 case eq=>
  apply(agB λp _=>rfl).trans;rw[kq,kq];rfl
def KY:FG QX ["chart"] [] (ai GR):=fG
abbrev Nh:=top 19
abbrev Ni:=Int×Int×AT
noncomputable abbrev Xh:At:=["term","boxes","box","more"]
noncomputable def xR:Ni->BA:=λ(a,mo,bs)=>[.tup [.int a,.int mo],.lst Qbo]
def sY:Ni->Prop:=λ(a,mo,bs)=>a=-1\/(0<=a/\a<bs.length)
def xS:Ni->T:=λ(a,mo,bs)=>(.sh (.int (p9 a mo bs)):T)
structure ahm(X:Cx)(CL:BC):Prop extends bD X where
 XN:Ln X 0 "term"
 cB:Ln X 1 "boxes"
 yj:Ln X 2 "box"
 UB:Ln X 3 "more"
theorem ahn(E:ahm X CL) :
  lV X CL b Nh Xh xR sY xS:=by
 rintro⟨c,mo,bs⟩ h;dsimp [sY]at h ⊢;apply aO E.g E.yj (cX (bC (aH E.XN) aj rfl) rfl);apply aO E.g E.UB (cX (bC (aH E.XN) aj rfl) rfl);refine fQ (fK (aH E.yj) Qbb).1 (λa=>?_) (λa=>?_)
 .apply bu (v_ E.UB.1);have e:=ko a;show T.sh _=T.sh _;rw[p9,dX e]
 .apply ak;have e:=l6 a;apply bu (tR (bH (aH E.cB) (aH E.yj) (gP Wc Wc)) (aH E.UB));show T.sh _=T.sh _;rw[p9,dP e]
def wk:FG Xh ["term","boxes"] [] (ai Nh):=fG
abbrev rC:=top 54
abbrev rD:=J×Bool×AT
abbrev yk:At:=["row","place","boxes","behind"]
def oh:rD->BA:=λ(r,back,bs)=>[r.d,.int (if back then 2 else 3),.lst Qbo]
def oi:rD->Prop:=λ(r,back,bs)=>∃o m,r.ok (o,m,bs)
def jS:rD->T:=λ(r,back,bs)=>(.lst (((Mj back r bs).map .int).map T.sh):T)
structure IZ(X:Cx)(CL:BC):Prop extends bD X where
 wm:Ln X 0 "row"
 jB:Ln X 1 "place"
 cB:Ln X 2 "boxes"
 cJ:Ln X 3 "behind"
 bU:Gl X "list"
 bM:lJ X "list"
def I0(E:IZ X CL) :
  lV X CL b rC yk oh oi jS:=by
 rintro⟨r,back,bs⟩ h;dsimp [jS]at h ⊢;obtain⟨o,m,h⟩:=h;apply aO E.g E.cJ (jk E.bM (v_ E.cB.1) E.bU aX);refine fQ (eU (bC (aH E.wm) aj (auK r)) cg).1 (λa=>?_) (λa=>ak ?_)
 .rw[auJ h]at a;cases r with
  | put x p q=>
   have hlen:((bs.map D.int).map T.sh).length=bs.length:=by simp
   have c:vf [D.str "put",.int x,.int p,.int q] (if back then 2 else 3)=some (.int (if back then p else q)):=by cases back<;>rfl
   refine yL (cX (bC (aH E.wm) (aH E.jB) c) rfl) (bE E.cJ.1 rfl) (bC (aH E.wm) aj rfl) rfl rfl (ZA h.1 (hlen▸h.2)) (ak ?_);apply bu (vM E.cJ.1);rw[Mj,qY,qY];rfl
  | _=>cases a
 .have e:Mj back r bs=bs:=by cases r<;>first|rfl|cases a
  apply bu (vM E.cJ.1);rw[e]
def iy:FG yk ["row","place","boxes"] ["list"] (ai rC):=fG
abbrev GV:=top 53
abbrev GX:=J×AT
abbrev QY:At:=["row","boxes"]
def zb:GX->BA:=λ(r,bs)=>[r.d,.lst Qbo]
def zc:GX->Prop:=λ(r,bs)=>∃o m,r.ok (o,m,bs)
def zf:GX->T:=λ(r,bs)=>(.lst (((Mj false r bs).map .int).map T.sh):T)
structure adD(X:Cx)(CL:BC):Prop extends bD X where
 wm:Ln X 0 "row"
 cB:Ln X 1 "boxes"
 rE:Gl X "with_number"
 aho:Gl X "AFTER"
 Ja:Fc X CL "with_number" 1 3 oh oi jS
 ahp:∃u,X.mg "AFTER" = some (.int 3 u)
def adE(E:adD X CL) :
  lV X CL b GV QY zb zc zf:=by
 rintro⟨r,bs⟩ h;exact bu (c_ (r,false,bs) E.Ja E.rE (ah (aH E.wm) (ah (aE (eG E.ahp E.aho)) QbZ)) h (aM _)) rfl
def sZ:FG QY ["row","boxes"] ["with_number","AFTER"] (ai GV):=fG
abbrev UC:=top 52
abbrev UD:=dJ×AT
abbrev XB:At:=["deed","boxes","word","row"]
def GY:UD->BA:=λ(q,bs)=>[q.d,.lst Qbo]
def GZ:UD->Prop:=λ(q,bs)=>q.ok bs
def G0:UD->T:=λ(q,bs)=>(.tup [.lst (((Mj false (q.row bs) bs).map .int).map T.sh),.sh (q.row bs).d]:T)
structure amH(X:Cx)(CL:BC):Prop extends bD X where
 jE:Ln X 0 "deed"
 cB:Ln X 1 "boxes"
 wu:Ln X 2 "word"
 wm:Ln X 3 "row"
 uC:Gl X "value"
 G3:Gl X "redone"
 AY:Fc X CL "value" 1 2 xR sY xS
 adG:Fc X CL "redone" 2 2 zb zc zf
def amI(E:amH X CL) :
  lV X CL b UC XB GY GZ G0:=by
 rintro⟨q,bs⟩ h;have o:(T.lst (((Mj false (q.row bs) bs).map _).map _)).clean=true:=w9▸qJ _;have fin:∀(e:Str) (p1 p2 l k j i f n:Pos) (n1:Nat),eW X CL b [.Return (some (.Tuple [.Call (.Name _ p1) [.Name _ p2,.Name _ l] [] k,.Name _ j] n1 i)) f] [some (.sh q.d),some _,some (.sh (.str e)),some _] {nx:=λ_=>(T.tup [.lst (((Mj false (q.row bs) bs).map .int).map T.sh),.sh (q.row bs).d])=.sh .non,rt:=λt _=>t=.tup _}:=λe p1 p2 l k j i f n n1=>bu (lQ (ay (c_ (q.row bs,bs) E.adG E.G3 (ah (aH E.wm) QbZ) (alS h) o) (ay (v_ E.wm.1) aQ)) aL) rfl;cases q with
 | put x c m=>
  apply aO E.g E.wu (cX QbH rfl);refine fQ (eU (aH E.wu) cg).1 (λa=>?_) (λa=>absurd rfl (l6 a));refine aO E.g E.wm (iJ (ds:=[.str _,.int x,.int _,.int _]) (ay eS (ay (nU (v_ E.jE.1) aj rfl) (ay (cX (bH (aH E.cB) QbH (gP h.1.1 h.1.2)) rfl) (ay (c_ (c,m,bs) E.AY E.uC (ah QbH QbZ) h.2 rfl) aQ)))) aL) (ak ?_);exact fin _ _ _ _ _ _ _ _ ⟨0,0,0,0⟩ _
 | call s=>
  apply aO E.g E.wu (cX QbH rfl);refine fQ (eU (aH E.wu) cg).1 (λa=>absurd (show("call")="put" from ko a) We) (λa=>?_);refine fQ (eU (aH E.wu) cg).1 (λa=>absurd (show("call")="say" from ko a) We) (λa=>?_);refine aO E.g E.wm (iJ (ds:=[.str _,.str s]) (ay eS (ay (nU (v_ E.jE.1) aj rfl) aQ)) aL) (ak (ak ?_));exact fin _ _ _ _ _ _ _ _ ⟨0,0,0,0⟩ _
 | say s c m=>
  apply aO E.g E.wu (cX QbH rfl);refine fQ (eU (aH E.wu) cg).1 (λa=>absurd (show("say")="put" from ko a) We) (λa=>?_);refine fQ (eU (aH E.wu) cg).1 (λa=>?_) (λa=>absurd rfl (l6 a));refine aO E.g E.wm (iJ (ds:=[.str _,.str s,.int _]) (ay eS (ay (nU (v_ E.jE.1) aj rfl) (ay (c_ (c,m,bs) E.AY E.uC (ah QbH QbZ) h rfl) aQ))) aL) (ak (ak ?_));exact fin _ _ _ _ _ _ _ _ ⟨0,0,0,0⟩ _
def uD:FG XB ["deed","boxes"] ["value","redone"] (ai UC):=fG
abbrev zg:=top 55
abbrev zj:=Bool×List dJ×AT
abbrev G4:At:=["deeds","boxes","behind","rows","called","deed","step"]
def uE:zj->BA:=λ(l,a,bs)=>[Lv l (a.map dJ.d),.lst Qbo]
def oY:zj->Prop:=λ(l,a,bs)=>a.length<=1000/\∀q∈a,q.ok bs
def oZ:zj->T:=λ(l,a,bs)=>(.tup [.lst (((a.foldl aft bs).map .int).map T.sh),.lst (((sM a bs).map J.d).map T.sh),.lst (((vJ a).map .str).map T.sh)]:T)
structure UE(X:Cx)(CL:BC):Prop extends bD X where
 AH:Ln X 0 "deeds"
 cB:Ln X 1 "boxes"
 cJ:Ln X 2 "behind"
 cC:Ln X 3 "rows"
 lu:Ln X 4 "called"
 jE:Ln X 5 "deed"
 fN:Ln X 6 "step"
 bU:Gl X "list"
 UG:Gl X "done"
 bM:lJ X "list"
 amJ:Fc X CL "done" 3 2 GY GZ G0
theorem UH(E:UE X CL) :
  lV X CL b zg G4 uE oY oZ:=by
 rintro⟨l,a,bs⟩ h;dsimp [oY]at h ⊢;apply aO E.g E.cJ (jk E.bM (v_ E.cB.1) E.bU aX);apply aO E.g E.cC (cj aQ aL);apply aO E.g E.lu (cj aQ aL);have u:∀(p w:Pos) (t r o i f:Option T),X7 X CL b (.Name "deed" p) (.Name "deeds" w) [some (.sh (Lv l (a.map dJ.d))),some (.sh Qbh),t,r,o,i,f] (a.map dJ.d) [some (.sh (Lv l (a.map dJ.d))),some (.sh Qbh),t,r,o,i,f]:=by
  intro p w t r o i f;cases l
  .exact Fi (v_ E.AH.1)
  .exact dF (v_ E.AH.1)
 refine iG E.g E.jE (λj δ=>∃i f,δ=[some _,some _,some (.lst ((((a.take j).foldl aft bs).map _).map T.sh)),some (.lst (((sM (a.take j) bs).map J.d).map T.sh)),some (.lst (((vJ (a.take j)).map .str).map T.sh)),i,f]) (u _ _ _ _ _ _ _) ⟨_,_,rfl⟩ (λj δ ⟨_,_,e⟩=>by subst e;exact jj rfl) ?turn ?fin
 case turn=>
  rintro j d δ y ⟨i,f,rfl⟩;rw[ll]at y;obtain⟨q,n,rfl⟩:=wb.1 y;have hm:=l3 n;have A:(sM (a.take j) bs).length<=1000:=by rw[acC,mT];lia
  have v:(vJ (a.take j)).length<=1000:=kM (yl _ _) (by rw[mT];lia);have C:vJ (a.take QA)=vJ (a.take j)++(KG q).toList:=by
   rw[lX n];unfold vJ;rw[List.filterMap_append];cases q<;>rfl
  rw[lX n,acB,List.foldl_append,← lX n,C];have z:=acA (a.take j) bs;have f7:=WN z q (h.2 q hm);generalize (a.take j).foldl aft bs=cur at z f7 ⊢;generalize sM _ bs=rs at A ⊢;generalize vJ _=cs at v ⊢;apply aO E.g E.fN (c_ (q,cur) E.amJ E.UG (ah (aH E.jE) (ah (vL E.cJ.1) aJ)) f7 (TY _ _ _));apply aO E.g E.cJ QbG;apply jH E.cC.1 rfl (cX (d:=(q.row cur).d) (bC (vE E.fN.1 rfl rfl) aj rfl) (En cur q)) rfl WE;have B:(rs.map J.d).map T.sh++[T.sh (q.row cur).d]=((rs++[q.row cur]).map J.d).map T.sh:=by rw[kc,kc];rfl
  rw[B];cases q with
  | put x k m=>
   refine fQ (eU QbH cg).1 (λc=>absurd (show("put")="call" from ko c) We) (λc=>ak (ak ⟨some (.sh (dJ.put x k m).d),some (.tup [.sh .any,.sh ((dJ.put x k m).row cur).d]),?_⟩));rw[show(KG _).toList=[] from rfl,km];rfl
  | say s k m=>
   refine fQ (eU QbH cg).1 (λc=>absurd (show("say")="call" from ko c) We) (λc=>ak (ak ⟨some (.sh (dJ.say s k m).d),some (.tup [.sh .any,.sh ((dJ.say s k m).row cur).d]),?_⟩));rw[show(KG _).toList=[] from rfl,km];rfl
  | call s=>
   refine fQ (eU QbH cg).1 (λc=>?_) (λc=>absurd rfl (l6 c));refine jH E.lu.1 rfl (cX QbH rfl) rfl WE (ak (ak ⟨some (.sh (dJ.call s).d),some (.tup [.sh .any,.sh ((dJ.call s).row cur).d]),?_⟩));have es:(cs.map D.str).map T.sh++[T.sh (.str s)]=((cs++(KG (dJ.call s)).toList).map D.str).map T.sh:=by rw[kc,kc];rfl
   rw[← es];rfl
 case fin=>
  rintro δ ⟨i,f,rfl⟩;rw[e7,mf];exact bu (lQ (ay (vM E.cJ.1) (ay (vM E.cC.1) (ay (vM E.lu.1) aQ))) aL) rfl
def fZ:FG G4 ["deeds","boxes"] ["list","done"] (ai zg):=fG
abbrev wA:=top 58
abbrev wB:=Bool×List It×AT
abbrev Dm:At:=["script","boxes","behind","rows","called","part","step"]
def jL:wB->BA:=λ(l,xs,bs)=>[Lv l (xs.map It.d),.lst Qbo]
def i7:wB->Prop:=λ(l,xs,bs)=>xs.length<=1000/\∀x∈xs,x.ok bs
def mW:wB->T:=λ(l,xs,bs)=>(.tup [.lst (((xs.foldl It.af bs).map .int).map T.sh),.lst (((Eo xs bs).map J.d).map T.sh),.lst (((dm xs).map .str).map T.sh)]:T)
structure QZ(X:Cx)(CL:BC):Prop extends bD X where
 bR:Ln X 0 "script"
 cB:Ln X 1 "boxes"
 cJ:Ln X 2 "behind"
 cC:Ln X 3 "rows"
 lu:Ln X 4 "called"
 G5:Ln X 5 "part"
 fN:Ln X 6 "step"
 bU:Gl X "list"
 Xi:Gl X "MARKS"
 zk:Gl X "all_done"
 bM:lJ X "list"
 EG:GT X "MARKS" ["out","keep","way","in"]
 UI:Fc X CL "all_done" 4 2 uE oY oZ
theorem Q0(E:QZ X CL) :
  lV X CL b wA Dm jL i7 mW:=by
 rintro⟨l,xs,bs⟩ h;dsimp [i7,jL]at h ⊢;apply aO E.g E.cJ (e9 E.bM (aH E.cB) (bz _) E.bU aX);refine aO E.g E.cC (cj aQ aL) ?_;refine aO E.g E.lu (cj aQ aL) ?_;have u:∀(p v:Pos) (t s r f a:Option T),X7 X CL b (.Name "part" p) (.Name "script" v) [some (.sh (Lv l (xs.map It.d))),some (.sh Qbh),t,s,r,f,a] (xs.map It.d) [some (.sh (Lv l (xs.map It.d))),some (.sh Qbh),t,s,r,f,a]:=by
  intro p v t s r f a;cases l
  .exact Fi (v_ E.bR.1)
  .exact dF (v_ E.bR.1)
 refine iG E.g E.G5 (λj δ=>∃f a,δ=[some _,some _,some (.lst ((((xs.take j).foldl It.af bs).map _).map T.sh)),some (.lst (((Eo (xs.take j) bs).map J.d).map T.sh)),some (.lst (((dm (xs.take j)).map .str).map T.sh)),f,a]) (u _ _ _ _ _ _ _) ⟨_,_,rfl⟩ (λj δ ⟨_,_,e⟩=>by subst e;exact jj rfl) ?turn ?fin
 case turn=>
  rintro j d δ o ⟨f,a,rfl⟩;rw[ll]at o;obtain⟨x,n,rfl⟩:=wb.1 o;have hm:=l3 n;have D:(Eo (xs.take j) bs).length<=1000:=by rw[Ao,mT];lia
  have C:(dm (xs.take j)).length<=1000:=kM (yl _ _) (by rw[mT];lia);have A:=ud (xs.take j) bs;have f7:=agG A x (h.2 x hm);have e1:(xs.take QA).foldl It.af bs=((xs.take j).foldl It.af bs |> λc=>x.af c):=by rw[lX n,List.foldl_append];rfl
  have e2:Eo (xs.take QA) bs=Eo (xs.take j) bs++[x.j ((xs.take j).foldl It.af bs)]:=by rw[lX n,agF];rfl
  have z:dm (xs.take QA)=dm (xs.take j)++x.call.toList:=by rw[lX n,Qt]
  rw[e1,e2,z];clear e1 e2 z;generalize (xs.take j).foldl _ bs=cur at A f7 ⊢;generalize Eo _ bs=rs at D ⊢;have m:=agE x;by_cases i:x.told=true
  .obtain⟨q,rfl⟩:∃q,x=.oV q:=by cases x<;>first|exact⟨_,rfl⟩|cases i
   refine fQ (Wh (l:=Mt) (bC (aE (v_ (d:=.tup (.str q.w::q.ds)) E.G5.1)) aj P4) (aE (PY E.EG E.Xi)) rfl rfl).1 (λk=>by rw[show decide (q.w∈Mt)=false from m]at k;cases k) (λk=>?_);refine aO E.g E.fN (c_ (true,[q],cur) E.UI E.zk (ah (ck (cj (ay (v_ E.G5.1) aQ) aL)) (ah (vL E.cJ.1) aJ)) (by exact⟨Wm,λy B=>j2.1 B▸f7 ⟩) (Ge (bz _) (KH _ _) (eB Qcq _))) ?_;rw[show oZ _=T.tup [.lst _,.lst ([(q.row cur).d].map _),.lst _] from rfl];apply aO E.g E.cJ QbG;have F:(vJ [q]).length<=1:=yl _ _;apply nV E.cC.1 rfl (ck QbG) (by exact KH [q] cur) rfl WE;refine nV E.lu.1 rfl (ck QbG) (vA _) rfl WE (ak (ak ⟨some (.sh q.d),some (.tup [.sh .any,.sh .any,.sh .any]),?_⟩));rw[kc,kc,kc,kc];rfl
  .have i:=by simpa using i
   have o:x.j cur=x.sj:=by cases x<;>first|rfl|cases i
   have H:x.af cur=cur:=by cases x<;>first|rfl|cases i
   have G:x.call=none:=by cases x<;>first|rfl|cases i
   rw[i]at m;refine fQ (Wh (l:=Mt) (bC (aE (v_ E.G5.1)) aj P4) (aE (PY E.EG E.Xi)) rfl rfl).1 (λk=>?_) (λk=>by rw[m]at k;cases k);refine jH E.cC.1 rfl (cX (aH E.G5) (Mu x)) rfl WE (ak (ak ⟨some (.sh x.d),a,?_⟩));rw[o,G,show(x.af) cur=cur from H,show none.toList=[] from rfl,km,kc,kc];rfl
 case fin=>
  rintro δ ⟨f,a,rfl⟩;rw[e7,mf];exact bu (lQ (ay (vM E.cJ.1) (ay (vM E.cC.1) (ay (vM E.lu.1) aQ))) aL) rfl
def dU:FG Dm ["script","boxes"] ["list","MARKS","all_done"] (ai wA):=fG
abbrev uF:=top 28
abbrev uG:=BA×BA×D×BA×BA×List bT×Int
noncomputable abbrev AZ:At:=["chart","number"]
def ly:uG->BA:=λ(bs,nm,tr,is,os,ws,i)=>[g7 bs nm tr is os QaQ,.int i]
def iz:uG->Prop:=λ(bs,nm,tr,is,os,ws,i)=>0<=i/\i<ws.length
def lz:uG->T:=λ(bs,nm,tr,is,os,ws,i)=>(.sh (.bl (oU ws i)):T)
structure Nj(X:Cx)(CL:BC):Prop extends bD X where
 aK:Ln X 0 "chart"
 cy:Ln X 1 "number"
 nF:Gl X "TARGET"
 nG:∃u,X.mg "TARGET" = some (.int 4 u)
 aA:jh X.K QE
 bG:aC X.K QE "ways"
def Nk(E:Nj X CL) :
  lV X CL b uF AZ ly iz lz:=by
 rintro⟨bs,nm,tr,is,os,ws,i⟩ h;obtain⟨h0,h1⟩:=h;exact bu (Lp (bC (bH (cH E.aA E.bG QaJ gQ) (aH E.cy) (gf w0 h0 h1)) (aE (eG E.nG E.nF)) (dQ rfl)) Qbb).2 rfl
def mX:FG AZ ["chart","number"] ["TARGET"] (ai uF):=fG
abbrev Nm:=top 11
abbrev Nn:=At×AT×AT×Int
noncomputable abbrev Xj:At:=["tree","mood","found","elder"]
def mF:Nn->BA:=λ(ks,es,ss,m)=>[dY ks es ss,.int m]
def mG:Nn->Prop:=λ(ks,es,ss,m)=>fj es/\0<=m/\m<es.length/\es.length<=1000
def mH:Nn->T:=λ(ks,es,ss,m)=>(.lst (((bL es m).map .int).map T.sh):T)
structure ahq(X:Cx)(CL:BC):Prop extends bD X where
 bN:Ln X 0 "tree"
 cD:Ln X 1 "mood"
 eY:Ln X 2 "found"
 jd:Ln X 3 "elder"
 b8:jh X.K Qai
 cT:aC X.K Qai "elders"
theorem ahr(E:ahq X CL) :
  lV X CL b Nm Xj mF mG mH:=by
 rintro⟨ks,es,ss,m⟩ h;obtain⟨f,h0,h1,hlen⟩:=h;apply aO E.g E.eY Qa4;apply aO E.g E.jd (cX (bH (cH E.b8 E.cT QaY kC) QaZ (gP h0 h1)) rfl);have hm:=f.at h0 h1;apply Lx E.g (λn δ=>∃(k:Int) (l:AT),δ=[some _,some _,some (.lst ((l.map .int).map T.sh)),some (.sh (.int k))] /\ -1<=k/\k<n/\k<es.length/\l++Ej n es k=bL es m/\l.length+n<=es.length+1) (es.length+1)
  ⟨ _,[],rfl,hm.1,Wc,Wc,rfl,Wm⟩
 rintro n δ ⟨k,l,rfl,k0,k1,k2,d,j⟩;refine⟨_,_,(Lp (aH E.jd) Qbb).1,λa=>?_,λa=>?_⟩
 .have c:=by simpa using a
  have i:=f.at Wc k2;cases n with
  | zero=>lia
  | succ n=>
   apply jH E.eY.1 rfl (v_ E.jd.1) rfl WE;apply aO E.g E.jd (cX (bH (cH E.b8 E.cT QaY kC) (aH E.jd) (gP Wc k2)) rfl);refine ak ⟨n,x3 _,_,l++[k],?_,i.1,Wc,Wc,?_,WE⟩
   .simp
   .rw[← d,Ej,dP c,jw];rfl
 .have c:=by simpa using a
  subst c;have e:l=bL es m:=by
   rw[← d];cases n with
   | zero=>rw[Ej,km]
   | succ n=>rw[Ej,dX rfl,km]
  subst e;exact bu (vM E.eY.1) rfl
def wC:FG Xj ["tree","mood"] [] (ai Nm):=fG
abbrev G6:=top 13
abbrev G7:=At×AT×AT×Int×Int
noncomputable abbrev Q5:At:=["tree","mood","other"]
def mJ:G7->BA:=λ(ks,es,ss,m,o)=>[dY ks es ss,.int m,.int o]
def mK:G7->Prop:=λ(ks,es,ss,m,o)=>fj es/\0<=m/\m<es.length/\es.length<=1000
def mL:G7->T:=λ(ks,es,ss,m,o)=>(.sh (.bl (decide (o=-1) || decide (o∈bL es m))):T)
structure adH(X:Cx)(CL:BC):Prop extends bD X where
 bN:Ln X 0 "tree"
 cD:Ln X 1 "mood"
 iR:Ln X 2 "other"
 lA:Gl X "above"
 pe:Fc X CL "above" 1 2 mF mG mH
def adI(E:adH X CL) :
  lV X CL b G6 Q5 mJ mK mL:=by
 rintro⟨ks,es,ss,m,o⟩ h;exact bu (S3 (fK (aH E.iR) Qbb).2 (λ_=>aa4 (Ec (aH E.iR) (ck (c_ (ks,es,ss,m) E.pe E.lA Qei h (aM _))) rfl rfl).2)) rfl
def tu:FG Q5 ["tree","mood","other"] ["above"] (ai G6):=fG
abbrev ME:=top 17
abbrev Mo:=At×AT×AT×Int×Int
noncomputable abbrev Su:At:=["tree","one","other","upper"]
def Np:Mo->BA:=λ(ks,es,ss,a,c)=>[dY ks es ss,.int a,.int c]
def Nq:Mo->Prop:=λ(ks,es,ss,a,c)=>fj es/\es.length<=1000/\ks.length=es.length/\(0<=a/\a<es.length)/\0<=c/\c<es.length
def EH:Mo->T:=λ(ks,es,ss,a,c)=>(.sh (.int (L8 QaD es a c)):T)
structure aq4(X:Cx)(CL:BC):Prop extends bD X where
 bN:Ln X 0 "tree"
 qd:Ln X 1 "one"
 iR:Ln X 2 "other"
 je:Ln X 3 "upper"
 lA:Gl X "above"
 nI:Gl X "within"
 pe:Fc X CL "above" 1 2 mF mG mH
 nJ:Fc X CL "within" 2 3 mJ mK mL
 b8:jh X.K Qai
 bX:aC X.K Qai "kinds"
theorem aq5(E:aq4 X CL) :
  lV X CL b ME Su Np Nq EH:=by
 rintro⟨ks,es,ss,a,c⟩ h;dsimp [EH]at h ⊢;obtain⟨p,r,z,⟨s,a1⟩,c0,c1⟩:=h;refine iG E.g E.je (λj δ=>∃o,(∀x∈(bL es a).take j,(cA ks x&&decide (x∈bL es c))=false)/\δ=[some _,some _,some _,o])
  (dF (ef (c_ (_,_,_,_) E.pe E.lA (ah QaY (ah (aH E.qd) aJ)) ((⟨p,s,a1,r⟩)) (aM _)))) ⟨_,λx i=>by simp at i,rfl⟩ (λj δ ⟨_,_,e⟩=>by subst e;exact jj rfl) ?turn ?fin
 case turn=>
  rintro j d δ m ⟨o,k,rfl⟩;rw[ll]at m;cases i:(bL es a)[j]? with
  | none=>rw[i]at m;cases m
  | some x=>
   rw[i]at m;cases m;have n:=l3 i;have u:=bF p s a1 n;have w:=(lL.1 i).1;have t:(bL es a).take QA=(bL es a).take j++[x]:=by rw[ri,i];rfl
   refine fQ (ve (jC (eU (bH Qdn (aH E.je) (gf Str.empty Wc Wc)) cg).1 (λA=>(jM (vt (c_ (_,_,_,_,_) E.nJ E.nI (ah QaY (ah (aH E.iR) (ah (aH E.je) aJ))) ((⟨p,c0,c1,r⟩)) rfl)))))) (λl=>?_) (λl=>ak (ak ⟨_,?_,rfl⟩))
   .apply bu (v_ E.je.1);have q:(cA ks x&&decide (x∈bL es c))=true:=by
     have:decide (x=-1)=false:=mn Wc;rw[this]at l;exact l
    have:(bL es a).find? (λx=>cA ks x&&decide (x∈bL es c))=some x:=by
     have v:=by
      have h2:=Fn j (bL es a);rw[JP w]at h2;have:=(lL.1 i).2;rw[this]at h2;exact h2.symm
     conv=>lhs;rw[v]
     rw[List.find?_append,List.find?_eq_none.2 (λy f=>by rw[k y f];decide),sr,q];rfl
    show _=T.sh _;unfold L8;rw[this];rfl
   .intro y f;rw[t]at f;obtain f|f:=i3.1 f
    .exact k y f
    .have e:=by simpa using f
     subst e;have:decide (y=-1)=false:=mn Wc;rw[this]at l;exact l
 case fin=>
  rintro δ ⟨o,k,rfl⟩;rw[e7,mf]at k;apply bu (gX aj);unfold L8;rw[List.find?_eq_none.2 (λy f=>by rw[k y f];decide)];rfl
def zl:FG Su ["tree","one","other"] ["above","within"] (ai ME):=fG
abbrev Cm:=top 29
abbrev Cp:=BA×BA×At×AT×AT×BA×BA×List bT×Int
noncomputable abbrev KZ:At:=["chart","number","way"]
def nK:Cp->BA:=λ(bs,nm,ks,es,ss,is,os,ws,i)=>[g7 bs nm Qa5 is os QaQ,.int i]
def kE:Cp->Prop:=λ(bs,nm,ks,es,ss,is,os,ws,i)=>fj es/\es.length<=1000/\ks.length=es.length/\QcZ/\QdH/\0<=(gS ws i).ka/\(gS ws i).ka<es.length
def nL:Cp->T:=λ(bs,nm,ks,es,ss,is,os,ws,i)=>(.sh (.int (iU ks es Qbk)):T)
structure Zk(X:Cx)(CL:BC):Prop extends bD X where
 aK:Ln X 0 "chart"
 cy:Ln X 1 "number"
 gI:Ln X 2 "way"
 Mn:Gl X "top"
 G8:Gl X "SOURCE"
 nF:Gl X "TARGET"
 aq6:Fc X CL "top" 3 3 Np Nq EH
 tD:∃u,X.mg "SOURCE" = some (.int 0 u)
 nG:∃u,X.mg "TARGET" = some (.int 4 u)
 aA:jh X.K QE
 bG:aC X.K QE "ways"
 bf:aC X.K QE "tree"
def Zm(E:Zk X CL) :
  lV X CL b Cm KZ nK kE nL:=by
 rintro⟨bs,nm,ks,es,ss,is,os,ws,i⟩ h;obtain⟨d,e,f,⟨c,i1⟩,hs,a⟩:=h;exact aO E.g E.gI (aU (Bs QcQ (aH E.cy) (gf w0 c i1)) rfl) (bu (c_ (ks,es,ss,(gS ws i).src,(gS ws i).ka) E.aq6 E.Mn (ah Qcc (ah (bC QbD (aE (eG E.tD E.G8)) yM) (ah QdG aJ))) (⟨d,e,f,hs,a⟩) rfl) rfl)
def ku:FG KZ ["chart","number"] ["top","SOURCE","TARGET"] (ai Cm):=fG
abbrev Nr:=top 12
abbrev Nt:=At×AT×AT×Int
abbrev Xk:At:=["tree","mood"]
def Cq:Nt->BA:=λ(ks,es,ss,m)=>[dY ks es ss,.int m]
def xT:Nt->Prop:=λ(ks,es,ss,m)=>fj es/\0<=m/\m<es.length/\es.length<=1000
def Cr:Nt->T:=λ(ks,es,ss,m)=>(.sh (.int ((bL es m).length:Nat)):T)
structure ahs(X:Cx)(CL:BC):Prop extends bD X where
 bN:Ln X 0 "tree"
 cD:Ln X 1 "mood"
 g8:Gl X "len"
 lA:Gl X "above"
 g9:lJ X "len"
 pe:Fc X CL "above" 1 2 mF mG mH
def aht(E:ahs X CL) :
  lV X CL b Nr Xk Cq xT Cr:=by
 rintro⟨ks,es,ss,m⟩ h;have a:((bL es m).map D.int).length=(bL es m).length:=by simp
 exact bu (jz a E.g9 (ck (c_ (ks,es,ss,m) E.pe E.lA Qei h (qJ _))) E.g8) rfl
def wF:FG Xk ["tree","mood"] ["len","above"] (ai Nr):=fG
abbrev wG:=top 30
abbrev wH:=At×AT×AT×Int×Int
noncomputable abbrev Dn:At:=["tree","one","other"]
def rG:wH->BA:=λ(ks,es,ss,t,u)=>[dY ks es ss,.int t,.int u]
def mY:wH->Prop:=λ(ks,es,ss,t,u)=>fj es/\es.length<=1000/\(-1<=t/\t<es.length) /\ -1<=u/\u<es.length
def mZ:wH->T:=λ(ks,es,ss,t,u)=>(.sh (.bl (KJ es t u)):T)
structure Q6(X:Cx)(CL:BC):Prop extends bD X where
 bN:Ln X 0 "tree"
 qd:Ln X 1 "one"
 iR:Ln X 2 "other"
 nI:Gl X "within"
 nJ:Fc X CL "within" 2 3 mJ mK mL
theorem Q7(E:Q6 X CL) :
  lV X CL b wG Dn rG mY mZ:=by
 rintro⟨ks,es,ss,t,u⟩ h;dsimp [mZ]at h ⊢;obtain⟨c,d,⟨t0,t1⟩,u0,u1⟩:=h;unfold KJ;refine fQ (ve (Wa (fK (aH E.qd) (aH E.iR)).1 (λf=>(Wa (fK (aH E.qd) Qbb).1 (λe=>(Sw (fK (aH E.iR) Qbb).1)))))) (λa=>?_) (λa=>ak ?_)
 .apply bu vp;rw[a];rfl
 .rw[a];simp at a;apply bu (S3 (c_ ((ks,es,ss,t,u)) E.nJ E.nI (ah QaY (ah (aH E.qd) (ah (aH E.iR) aJ))) ((⟨c,Wc,Wc,d⟩)) rfl) (λf=>(aa4 (c_ ((ks,es,ss,u,t)) E.nJ E.nI (ah QaY (ah (aH E.iR) (ah (aH E.qd) aJ))) ((⟨c,Wc,Wc,d⟩)) rfl))));rw[mn a.2.2,mn a.2.1];rfl
def lB:FG Dn ["tree","one","other"] ["within"] (ai wG):=fG
abbrev Nu:=top 31
abbrev UJ:=BA×BA×At×AT×AT×BA×BA×List bT×AT
noncomputable abbrev Xt:At:=["chart","found","chosen","tops","number","upper"]
def A0:UJ->BA:=λ(bs,nm,ks,es,ss,is,os,ws,row)=>[g7 bs nm Qa5 is os QaQ,.lst (row.map .int)]
def A1:UJ->Prop:=λ(bs,nm,ks,es,ss,is,os,ws,row)=>fj es/\es.length<=900/\ks.length=es.length/\row.length<=63/\(∀k∈row,0<=k/\k<ws.length)/\∀w∈ws,(0<=w.src/\w.src<es.length) /\ -1<=w.ka/\w.ka<es.length
def A2:UJ->T:=λ(bs,nm,ks,es,ss,is,os,ws,row)=>(.lst (((PX ks es ws row).map .int).map T.sh):T)
structure amL(X:Cx)(CL:BC):Prop extends bD X where
 aK:Ln X 0 "chart"
 pA:Ad X "chart"
 eY:Ln X 1 "found"
 G9:Ln X 2 "chosen"
 UK:Ln X 3 "tops"
 cy:Ln X 4 "number"
 je:Ln X 5 "upper"
 Nv:Ad X "upper"
 gJ:Gl X "sorted"
 uH:Gl X "has_target"
 mO:Gl X "way_top"
 aq8:Gl X "any"
 gK:lJ X "sorted"
 uI:Fc X CL "has_target" 1 2 ly iz lz
 tE:Fc X CL "way_top" 4 2 nK kE nL
 aq9:lJ X "any"
 ahu:Fc X CL "depth" 2 2 Cq xT Cr
 tD:∃u,X.mg "SOURCE" = some (.int 0 u)
 Q8:Fc X CL "tops_meet" 3 3 rG mY mZ
 aA:jh X.K QE
 bf:aC X.K QE "tree"
 bG:aC X.K QE "ways"
 lam:YB X CL "#kept.<locals>.<lambda>" "kept.<locals>.<lambda>"
 dp:X.A.depth<recursionLimit
 rm:eO 4 X.A
theorem amM(E:amL X CL) :
  lV X CL b Nu Xt A0 A1 A2:=by
 rintro⟨bs,nm,ks,es,ss,is,os,ws,row⟩ h;dsimp only [A1,A0,A2]at h ⊢;obtain⟨H,F,M,Z,G,hw⟩:=h;refine aO E.g E.G9 Qa4 ?_;refine aO E.g E.UK Qa4 ?_;have R:∀(l:AT) (x:Int),(l.map D.int).map T.sh++[T.sh (.int x)]=((l++[x]).map D.int).map T.sh:=by intros;simp
 have P:∀{w:bT},w∈ws->-1<=iU ks es w/\iU ks es w<es.length:=λ{w} hm=>by
  have hs:=(hw w hm).1;rcases acF (bY:=cA ks) (es:=es) (a:=w.src) (c:=w.ka) with z|z
  .unfold iU;rw[z];lia
  .have:=bF H hs.1 hs.2 z;unfold iU;lia
 have Y:(eK Qbd row).length<=63:=by rw[xo];exact Z
 have B:∀k∈eK Qbd row,0<=k/\k<ws.length:=λk M=>G k (lT.1 M);have N:∀l:AT,(∀k∈l,0<=k/\k<ws.length)->∀t∈(nH ks es ws l).2,-1<=t/\t<es.length:=by
  have gen:∀(l:AT) (s:AT×AT),(∀k∈l,0<=k/\k<ws.length)->(∀t∈s.2,-1<=t/\t<es.length)->∀t∈(l.foldl Qef s).2,-1<=t/\t<es.length:=by
   intro l
   induction l with
   | nil=>intro s _ hs;exact hs
   | cons k l V=>
    intro s F hs;rw[vk];refine V _ (λq v=>F q (i8 _ v)) ?_;obtain⟨k0,k1⟩:=F k fX;unfold Zb;split
    .split
     .exact hs
     .intro t u;obtain z|z:=i3.1 u
      .exact hs t z
      .rw[j2.1 z];exact P (t9 k0 k1)
    .exact hs
  exactλl F=>gen l ([],[]) F (λt u=>by cases u)
 refine iG E.g E.cy (λj δ=>∃o n,δ=[some _,some (.sh (.lst (row.map .int))),some (.lst (((nH ks es ws ((eK Qbd row).take j)).1.map .int).map T.sh)),some (.lst (((nH ks es ws ((eK Qbd row).take j)).2.map .int).map T.sh)),o,n])
  (dF (ef (ds:=(eK Qbd row).map .int) (aU (yI (y:="way") (g:=λd=>Gg es ws d.yc) E.lam E.g E.dp E.gK E.gJ QdN (aH E.eY) (bz _) WE (λf c s0 H0 b' d hd=>?key)) (by rw[pQ];rfl)))) ⟨_,_,rfl⟩ (λj δ ⟨_,_,e⟩=>by subst e;exact jj rfl) ?turn ?fin
 case key=>
  obtain⟨k,A,rfl⟩:=j0.1 hd;obtain⟨k0,k1⟩:=G k A;obtain⟨⟨s0,s1⟩,_⟩:=hw _ (t9 k0 k1);exact aE (aU (gX (aE (c_ (ks,es,ss,(gS ws k).src) (alx E.ahu (E.rm.mono Wl)) (Ti We) (ah (cH (by exact E.aA) (by exact E.bf) (aE (v_ (LV (i:=1) rfl We))) fM) (ah (bC (bH (cH (by exact E.aA) (by exact E.bG) (aE (v_ (LV (i:=1) rfl We))) gQ) (aE (v_ (Tg (i:=0) rfl We))) (gf (f:=iS) w0 k0 k1)) (aE (eG (by exact E.tD) (Ti We))) yM) aJ)) (by dsimp only [xT];exact⟨H,s0,s1,Wc⟩) rfl))) rfl)
 case turn=>
  rintro j d δ hj ⟨o,n,rfl⟩;obtain⟨k,rfl,_,A,LX,_,S⟩:=j5 hj;obtain⟨k0,k1⟩:=B k A;obtain⟨J,I⟩:=hw _ (t9 k0 k1);have hlen:=WR ks es ws ((eK Qbd row).take j);have nR:((eK Qbd row).take j).length<=63:=by rw[mT];lia
  have r:=N ((eK Qbd row).take j) λq v=>B q (rf v);show eW X CL b _ _ {nx:=λδ=>∃o n,δ=[_,_,some (.lst _),some (.lst _),o,n],rt:=_,bk:=_,ct:=λδ=>∃o n,δ=[_,_,some (.lst _),some (.lst _),o,n]};rw[S,acQ];generalize nH ks es ws ((eK Qbd row).take j)=s at hlen r ⊢;obtain⟨cs,As⟩:=s;dsimp only at hlen r ⊢;unfold Zb;dsimp only;refine zS (λδ=>∃O n,(if oU ws k=true then(if As.any (KJ es (iU ks es (gS ws k)))=true then(cs,As) else(cs++[k],As++[iU ks es (gS ws k)])) else(cs++[k],As))=(cs++[k],O)/\δ=[some (.sh (g7 bs nm Qa5 is os QaQ)),some (.sh (.lst (row.map .int))),some (.lst ((cs.map .int).map T.sh)),some (.lst ((O.map .int).map T.sh)),some (.sh (.int k)),n])
   (vt (aU (c_ (bs,nm,dY ks es ss,is,os,ws,k) E.uI E.uH Qd9 (by dsimp only [iz];exact⟨k0,k1⟩) rfl) (t2:=.sh (.bl (oU ws k))) rfl)) (λm=>?_) (λm=>?_) ?_
  .have m:oU ws k=true:=m;have W:¬ (gS ws k).ka=-1:=by unfold oU at m;simpa using m
   refine aO E.g E.je (aU (c_ (bs,nm,ks,es,ss,is,os,ws,k) E.tE E.mO Qd9 (by dsimp only [kE];exact⟨H,Wc,M,⟨k0,k1⟩,J,Wc,I.2⟩) rfl) rfl) ?_;have K:=P (t9 (ws:=ws) k0 k1);refine fQ (vt (aU (alm E.g E.aq9 (ck (aU (abP (p:=λ_=>true) (g:=λd=>T.sh (.bl (KJ es (iU ks es (gS ws k)) d.yc))) (bI (.cons E.aK.1 (.inl E.pA) (.cons E.je.1 (.inl E.Nv) .nil)) We) E.g.calm (vL E.UK.1) (λd _=>rfl) (λC s0 H0 f0 b' d hd=>?Ah) (l0 (cL (by rw[e7];lia)))) ?ceq)) E.aq8) (t2:=.sh (.bl (As.any (KJ es (iU ks es (gS ws k)))))) (congrArg (λz=>T.sh (.bl z)) (by rw[List.any_map];rfl)))) (λv=>?_) (λv=>ak ?_)
   case Ah=>
    obtain⟨t,L,rfl⟩:=j0.1 hd;exact⟨rfl,λ_=>aU (c_ (ks,es,ss,iU ks es (gS ws k),t) (jy E.Q8) sH (ah (cH (by exact E.aA) (by exact E.bf) (gH 1) fM) (ah (gH 2) (ah (kP 0) aJ))) (by dsimp only [mY];exact⟨H,Wc,K,r t L⟩) rfl) rfl⟩
   case ceq=>
    rw[qH,kq,kq,kq];rfl
   .refine ak7 ?_;rw[dX m,dX v];exact⟨_,_,rfl⟩
   .refine jH E.UK.1 rfl (v_ E.je.1) rfl WE (ak ⟨As++[iU ks es (gS ws k)],some (.sh (.int (iU ks es (gS ws k)))),?_,?_⟩)
    .rw[dX m,dP (by rw[v];decide)]
    .rw[R];rfl
  .have m:oU ws k=false:=m;exact ak ⟨As,_,by rw[dP (by rw[m];decide)],rfl⟩
  rintro δ ⟨O,U,eT,rfl⟩;rw[eT];refine jH E.G9.1 rfl (v_ E.cy.1) rfl WE (ak ?_);rw[R];exact⟨_,_,rfl⟩
 case fin=>
  rintro δ ⟨o,n,rfl⟩;rw[e7,mf];have hlen:=WR ks es ws (eK Qbd row);exact bu (aU (tW E.gK (vL E.G9.1) Wc E.gJ) rfl) rfl
def jT:RM (ai Nu) ([("chart",.cell),("found",c9),("chosen",c9),("tops",c9),("number",c9),("upper",.cell),("sorted",bW),("has_target",bW),("way_top",bW),("any",bW)])=true:=by decide +kernel
def Xl:c6 Xt ["chart","found"] (ai Nu):=jN
abbrev m5:=top 26
abbrev rH:=BA×BA×At×AT×AT×BA×BA×BA×AT
abbrev ym:At:=["chart","opens"]
def oj:rH->BA:=λ(bs,nm,ks,es,ss,is,os,ws,ops)=>[g7 bs nm Qa5 is os ws,.lst QcG]
def om:rH->Prop:=λ(bs,nm,ks,es,ss,is,os,ws,ops)=>ops.length<=1000/\∀x∈ops,0<=x/\x<ks.length
def jU:rH->T:=λ(bs,nm,ks,es,ss,is,os,ws,ops)=>(.lst (((Y9 ks ops).map .int).map T.sh):T)
structure Jb(X:Cx)(CL:BC):Prop extends bD X where
 aK:Ln X 0 "chart"
 pA:Ad X "chart"
 cY:Ln X 1 "opens"
 aA:jh X.K QE
 b8:jh X.K Qai
 bX:aC X.K Qai "kinds"
 bf:aC X.K QE "tree"
def Jc(E:Jb X CL) :
  lV X CL b m5 ym oj om jU:=by
 rintro⟨bs,nm,ks,es,ss,is,os,ws,ops⟩ h;dsimp [jU]at h ⊢;obtain⟨f,e⟩:=h;refine bu (mR (p:=λd=>ON ks d.yc) (g:=T.sh) QdN E.g.calm (dF (v_ E.cY.1)) QaG (λC s0 j f0 i d hd=>?Ah) (Nat.le_of_lt (cL (by simpa using f)))) ?eq
 case Ah=>
  obtain⟨x,c,rfl⟩:=j0.1 hd;obtain⟨x0,a⟩:=e x c;exact⟨(eU (bH (cH (by exact E.b8) (by exact E.bX) (cH (by exact E.aA) (by exact E.bf) (gH 1) fM) jn) (kP 0) (gf _ x0 a)) cg).1,λ_=>v_ (BH 0)⟩
 case eq=>
  rw[so,kq,kq];rfl
def qo:RM (ai m5) ([("chart",.cell),("opens",c9)])=true:=by decide +kernel
def Hf:c6 ym ["chart","opens"] (ai m5):=jN
abbrev UL:=top 24
abbrev UM:=List uf×AT
noncomputable abbrev U2:At:=["asks","opens","ask"]
def Hg:UM->BA:=λ(l,ops)=>[.tup (l.map sN),.lst QcG]
def Hh:UM->Prop:=λ(l,ops)=>∀a∈l,a.LG
def A3:UM->T:=λ(l,ops)=>(.sh (.bl (KL ops (l.map sN))):T)
structure amN(X:Cx)(CL:BC):Prop extends bD X where
 yW:Ln X 0 "asks"
 cY:Ln X 1 "opens"
 qP:Ln X 2 "ask"
def amO(E:amN X CL) :
  lV X CL b UL U2 Hg Hh A3:=by
 rintro⟨l,ops⟩ h;dsimp [A3]at h ⊢;refine iG E.g E.qP (λj δ=>∃o,(∀d∈(l.map sN).take j,Y8 ops d=true)/\δ=[some _,some _,o])
  (Fi (v_ E.yW.1)) ⟨_,λx v=>by simp at v,rfl⟩ (λj δ ⟨_,_,e⟩=>by subst e;exact jj rfl) ?turn ?fin
 case turn=>
  rintro j d δ s ⟨o,p,rfl⟩;have t:(l.map sN).take QA=(l.map sN).take j++[d]:=by rw[ri,s];rfl
  have n:=l3 s;have no:Y8 ops d=false->KL ops _=false:=λe=>List.all_eq_false.2 ⟨d,n,by rw[e];decide⟩;obtain⟨a,z,rfl⟩:=j0.1 n;have w:=h a z;have i:Y8 ops _=true->∀y∈(l.map sN).take _,Y8 ops y=true:=λe y f=>by
   rw[t]at f;obtain f|f:=i3.1 f
   .exact p y f
   .exact j2.1 f▸e
  cases a with
  | num mk b1 m1 b2 m2=>
   obtain⟨n1,u⟩:=agJ w;refine fQ (ve (jC (q:=false) (eU QbW cg).1 (λr=>absurd (ko r) n1))) (λc=>by simp at c) (λ_=>ak ?_);refine fQ (ve (jC (q:=false) (eU QbW cg).1 (λr=>absurd (ko r) u))) (λc=>by simp at c) (λ_=>ak (ak ⟨_,i rfl,rfl⟩))
  | DL op m=>
   have hf:=acH ops op m;refine fQ (ve (jC (eU QbW cg).1 (λ_=>jM (Lz QbW (aH E.cY) rfl rfl).1))) (λc=>?_) (λc=>ak ?_)
   .have c:=c;apply bu vp;rw[no];rw[hf];cases op with
    | false=>exact absurd c (by rw[show decide _=false by decide +kernel];simp)
    | true=>rw[Bool.and_eq_true]at c;simpa using c.2
   refine fQ (ve (jC (eU QbW cg).1 (λ_=>jM (Ec QbW (aH E.cY) rfl rfl).1))) (λk=>?_) (λk=>ak (ak ⟨_,i ?_,rfl⟩))
   .apply bu vp;rw[no];rw[hf];cases op with
    | true=>exact absurd k (by rw[show decide _=false by decide +kernel];simp)
    | false=>rw[Bool.and_eq_true]at k;simpa using k.2
   .rw[hf];cases op with
    | true=>simpa using c
    | false=>simpa using k
 case fin=>
  rintro δ ⟨o,p,rfl⟩;rw[mf]at p;apply bu vp;rw[show KL ops _=true from vr.2 p]
def EI:FG U2 ["asks","opens"] [] (ai UL):=fG
abbrev A4:=top 23
abbrev Hi:=BA×BA×At×AT×AT×BA×BA×List bT×AT×Int×Str
noncomputable abbrev Q9:At:=["chart","opens","leaf","sign","found","number","way","line"]
def zm:Hi->BA:=λ(bs,nm,ks,es,ss,is,os,ws,ops,leaf,sg)=>[g7 bs nm Qa5 is os QaQ,.lst QcG,.int leaf,.str sg]
def zo:Hi->Prop:=λ(bs,nm,ks,es,ss,is,os,ws,ops,leaf,sg)=>fj es/\es.length<=900/\0<=leaf/\leaf<es.length/\ws.length<=63/\YE ws
def qp:Hi->T:=λ(bs,nm,ks,es,ss,is,os,ws,ops,leaf,sg)=>(.lst (((xl ws ops sg (leaf::bL es leaf)).map .int).map T.sh):T)
structure adO(X:Cx)(CL:BC):Prop extends bD X where
 aK:Ln X 0 "chart"
 pA:Ad X "chart"
 cY:Ln X 1 "opens"
 Hj:Ln X 2 "leaf"
 jq:Ln X 3 "sign"
 eY:Ln X 4 "found"
 cy:Ln X 5 "number"
 gI:Ln X 6 "way"
 UN:Ln X 7 "line"
 amP:Ad X "line"
 lA:Gl X "above"
 v7:Gl X "enumerate"
 amQ:Gl X "SIGN"
 G8:Gl X "SOURCE"
 UO:Gl X "fits"
 UQ:Gl X "ASKS"
 gJ:Gl X "sorted"
 pe:Fc X CL "above" 1 2 mF mG mH
 v8:lJ X "enumerate"
 amR:∃u,X.mg "SIGN" = some (.int 1 u)
 tD:∃u,X.mg "SOURCE" = some (.int 0 u)
 amS:Fc X CL "fits" 1 2 Hg Hh A3
 UR:∃u,X.mg "ASKS" = some (.int 2 u)
 gK:lJ X "sorted"
 aA:jh X.K QE
 bG:aC X.K QE "ways"
 bf:aC X.K QE "tree"
 lam:YB X CL "#goable.<locals>.<lambda>" "goable.<locals>.<lambda>"
 dp:X.A.depth<recursionLimit
 rm:eO 1 X.A
theorem adP(E:adO X CL) :
  lV X CL b A4 Q9 zm zo qp:=by
 rintro⟨bs,nm,ks,es,ss,is,os,ws,ops,leaf,sg⟩ h;dsimp [qp]at h ⊢;obtain⟨z,I,f0,f1,L,s⟩:=h;have N:(bL es leaf).length<=es.length+1:=xu _ _ _;have J:([D.int leaf]++(bL es leaf).map _)=(leaf::bL es leaf).map _:=rfl;refine aO E.g E.UN (aU (zW (ck (ds:=[.int leaf]) (cj (ay (v_ E.Hj.1) aQ) aL)) (ck (c_ (ks,es,ss,leaf) E.pe E.lA (ah Qcc (ah (aH E.Hj) aJ)) (⟨z,f0,f1,Wc⟩) (aM _))) rfl (bz _) (l0 (cL WE))) (t2:=.lst (((leaf::bL es leaf).map .int).map T.sh)) rfl) ?_;generalize leaf::bL es leaf=ln;apply aO E.g E.eY Qa4;have C:∀(l:AT) (x:Int),(l.map D.int).map T.sh++[T.sh (.int x)]=((l++[x]).map D.int).map T.sh:=by simp
 refine ak8 E.g (Wk E.g.nd E.g.calm E.cy E.gI) (λj δ=>∃n m,δ=[some _,some _,some _,some _,some (.lst ((((u4 ws ops sg ln j).map λ(k:Nat)=>(k:Int)).map .int).map T.sh)),n,m,some _])
  (PV w0 E.v8 QcQ E.v7) ⟨_,_,rfl⟩ (λj δ ⟨_,_,e⟩=>by subst e;intro i hi;simp only[fO,kf,mI]at hi;obtain rfl|rfl:=hi<;>exact jj rfl) ?turn ?fin
 case turn=>
  rintro j d δ A ⟨n,m,rfl⟩;obtain⟨i,rfl,hi,F,u,_,_⟩:=j5 A;have B:=by
   rw[List.getElem?_range (by simpa using (List.getElem?_eq_some_iff.1 hi).1)]at hi;exact(l1 hi).symm
  subst B;have u:=mD.1 F;refine⟨_,rfl,?_⟩;obtain⟨w,hw⟩:∃w,ws.getD i w0=w:=⟨_,rfl⟩;have o:w∈ws:=by rw[← hw,lj,l9 u];exact List.getElem_mem _
  obtain⟨al,t,r⟩:=s w o;show eW X CL b _ _ {nx:=λδ=>∃n m,δ=[_,_,_,_,some _,n,m,_],rt:=_,bk:=_,ct:=_};rw[acI,hw];have q:=WO ws ops sg ln i;refine fQ (ve (jC (eU (bC QbD (aE (eG E.amR E.amQ)) FL) (aH E.jq)).1 (λ_=>jC (Ec (bC QbD (aE (eG E.tD E.G8)) yM) (vL E.UN.1) rfl rfl).1 (λ_=>jM (vt (aU (c_ (al,ops) E.amS E.UO (ah (C2 (bC QbD (aE (eG E.UR E.UQ)) zv) (congrArg _ t)) (ah (aH E.cY) aJ)) (r) rfl) (t2:=.sh (.bl (KL ops w.asks))) (by rw[t];rfl))))))) (λa=>?_) (λa=>ak (ak ?_))
  .have a:uW ops sg ln w=true:=a;refine jH E.eY.1 rfl (v_ E.cy.1) rfl WE (ak (ak ?_));rw[C,dX a,kc];exact⟨_,_,rfl⟩
  .have a:uW ops sg ln w=false:=a;rw[dP (by rw[a];decide),km];exact⟨_,_,rfl⟩
 case fin=>
  rintro δ ⟨n,m,rfl⟩;rw[e7,n6];have q:=WO ws ops sg ln ws.length;have G:∀{k:Nat},k∈u4 ws ops sg ln _->k<ws.length/\(ws.getD k w0).src∈ln:=λp=>by
   obtain⟨h1,h2⟩:=k3.1 p;simp only[uW,lx,vu]at h2;exact⟨mD.1 h1,h2.2.1⟩
  refine bu (aU (yI (y:="way") (g:=λd=>((BQ ln (ws.getD d.yc.toNat w0).src))) E.lam E.g E.dp E.gK E.gJ (bI (.cons E.aK.1 (.inl E.pA) (.cons E.UN.1 (.inl E.amP) .nil)) We) (vL E.eY.1) (bz _) WE (λf c s0 M K d hd=>?key)) ?eq) rfl
  case key=>
   obtain⟨x,v,rfl⟩:=j0.1 hd;obtain⟨k,p,rfl⟩:=j0.1 v;obtain⟨k1,k2⟩:=G p;have H:vf QaQ k=some _:=(gf w0 Wc Wc).trans (by rw[ky]);refine aE (aU (abO (C2 (aE (v_ (LV (i:=2) rfl We))) (cz _)) (bC (bH (cH (E.aA) (E.bG) (aE (v_ (LV (i:=1) rfl We))) gQ) (aE (v_ (Tg (i:=0) rfl We))) H) (aE (eG (E.tD) (Ti We))) yM) (Mv k2) (λi hi=>alT hi)) ?_);show T.sh _=T.sh (.int ((BQ ln (ws.getD (k:Int).toNat w0).src:Nat):Int));rw[ky]
  case eq=>
   rw[pQ];rfl
def dB:RM (ai A4) ([("chart",.cell),("opens",c9),("leaf",c9),("sign",c9),("found",c9),("number",c9),("way",c9),("line",.cell),("above",bW),("enumerate",bW),("SIGN",bW),("SOURCE",bW),("fits",bW),("ASKS",bW),("sorted",bW)])=true:=by decide +kernel
def K0:c6 Q9 ["chart","opens","leaf","sign"] (ai A4):=jN
abbrev Nx:=top 20
abbrev Ny:=Str×Int×Int×Int×Int×AT
noncomputable abbrev Xm:At:=["ask","boxes","mark","one","other"]
noncomputable def Ct:Ny->BA:=λ(mk,b1,m1,b2,m2,bs)=>[.tup [.str mk,.tup [.int b1,.int m1],.tup [.int b2,.int m2]],.lst Qbo]
def Cu:Ny->Prop:=λ(mk,b1,m1,b2,m2,bs)=>(b1=-1\/(0<=b1/\b1<bs.length))/\(b2=-1\/(0<=b2/\b2<bs.length))
def Cv:Ny->T:=λ(mk,b1,m1,b2,m2,bs)=>(.sh (.bl (T3 mk (p9 b1 m1 bs) (p9 b2 m2 bs))):T)
structure ahv(X:Cx)(CL:BC):Prop extends bD X where
 qP:Ln X 0 "ask"
 cB:Ln X 1 "boxes"
 Nz:Ln X 2 "mark"
 qd:Ln X 3 "one"
 iR:Ln X 4 "other"
 uC:Gl X "value"
 AY:Fc X CL "value" 1 2 xR sY xS
def ahw(E:ahv X CL) :
  lV X CL b Nx Xm Ct Cu Cv:=by
 rintro⟨mk,b1,m1,b2,m2,bs⟩ h;apply aO E.g E.Nz (cX QbW rfl);refine aO E.g E.qd (c_ (b1,m1,bs) E.AY E.uC (ah QbW QbZ) h.1 rfl) ?_;refine aO E.g E.iR (c_ (b2,m2,bs) E.AY E.uC (ah QbW QbZ) h.2 rfl) ?_;refine fQ (eU (aH E.Nz) cg).1 (λa=>?_) (λa=>ak ?_)
 .apply bu (Ka (aH E.qd) (aH E.iR)).2;show T.sh _=T.sh _;rw[T3,dX (ko a)]
 refine fQ (eU (aH E.Nz) cg).1 (λc=>?_) (λc=>ak ?_)
 .apply bu (apw (aH E.qd) (aH E.iR)).2;show T.sh _=T.sh _;rw[T3,dP (l6 a),dX (ko c)]
 refine fQ (eU (aH E.Nz) cg).1 (λd=>?_) (λd=>ak ?_)
 .apply bu (fK (aH E.qd) (aH E.iR)).2;show T.sh _=T.sh _;rw[T3,dP (l6 a),dP (l6 c),dX (ko d)]
 .apply bu (Lp (aH E.qd) (aH E.iR)).2;show T.sh _=T.sh _;rw[T3,dP (l6 a),dP (l6 c),dP (l6 d)]
def qq:FG Xm ["ask","boxes"] ["value"] (ai Nx):=fG
abbrev zq:=top 21
abbrev zu:=Bool×List Ask×AT
noncomputable abbrev Hl:At:=["asks","boxes","ask"]
def uJ:zu->BA:=λ(l,a,bs)=>[Lv l (a.map z3),.lst Qbo]
def uK:zu->Prop:=λ(l,a,bs)=>∀q∈a,N0 bs q
def pB:zu->T:=λ(l,a,bs)=>(.sh (.bl (a.all (hQ bs))):T)
structure UT(X:Cx)(CL:BC):Prop extends bD X where
 yW:Ln X 0 "asks"
 cB:Ln X 1 "boxes"
 qP:Ln X 2 "ask"
 NB:Gl X "holds"
 ahx:Fc X CL "holds" 2 2 Ct Cu Cv
def UU(E:UT X CL) :
  lV X CL b zq Hl uJ uK pB:=by
 rintro⟨l,c,bs⟩ h;dsimp [pB]at h ⊢;have i:∀(p m:Pos) (o:Option T),X7 X CL b (.Name "ask" p) (.Name "asks" m) [some (.sh (Lv l (c.map z3))),some (.sh Qbh),o] (c.map z3) [some (.sh (Lv l (c.map z3))),some (.sh Qbh),o]:=by
  intro p m o;cases l
  .exact Fi (v_ E.yW.1)
  .exact dF (v_ E.yW.1)
 refine iG E.g E.qP (λj δ=>(∃o,δ=[some _,some _,o])/\∀q∈c.take j,hQ bs q=true) (i _ _ _) ⟨⟨_,rfl⟩,Wm⟩ (λj δ ⟨⟨o,e⟩,_⟩=>by subst e;exact jj rfl) ?_ ?_
 .rintro j d δ r ⟨⟨o,rfl⟩,f⟩;rw[ll]at r;obtain⟨q,n,rfl⟩:=wb.1 r;have hm:=l3 n;refine fQ (akM (vt (c_ (q.1,q.2.1,q.2.2.1,q.2.2.2.1,q.2.2.2.2,bs) E.ahx E.NB (ah (aH E.qP) QbZ) (h q hm) rfl))) (λk=>?_) (λk=>?_)
  .apply bu vp;show T.sh _=T.sh _;have hf:hQ bs q=false:=by simpa [hQ] using k
   rw[List.all_eq_false.2 ⟨q,hm,by simp[hf]⟩]
  .refine ak (ak ⟨⟨_,rfl⟩,?_⟩);have hf:=by simpa using k
   intro s a;rw[ri,n]at a;obtain h'|h':=i3.1 a
   .exact f s h'
   .have:=by simpa using h'
    exact this▸hf
 .rintro δ ⟨⟨o,rfl⟩,f⟩;apply bu vp;rw[e7,mf]at f;rw[vr.2 f]
def nM:FG Hl ["asks","boxes"] ["holds"] (ai zq):=fG
abbrev rJ:=top 25
abbrev rK:=BA×BA×D×BA×BA×List bT×Nat×bT
abbrev yo:At:=["chart","way"]
def oq:rK->BA:=λ(bs,nm,tr,is,os,ws,k,w)=>[g7 bs nm tr is os QaQ,.int k]
def ou:rK->Prop:=λ(bs,nm,tr,is,os,ws,k,w)=>ws[k]? = some w/\w.asks.length<=1000/\D.bP w.asks=true/\∀d∈w.asks,∃x r,d=.tup (.str x::r)
def ow:rK->T:=λ(bs,nm,tr,is,os,ws,k,w)=>(.sh (.tup (LF w.asks)):T)
structure Jd(X:Cx)(CL:BC):Prop extends bD X where
 aK:Ln X 0 "chart"
 gI:Ln X 1 "way"
 xF:Gl X "tuple"
 UQ:Gl X "ASKS"
 xG:lJ X "tuple"
 UR:∃u,X.mg "ASKS" = some (.int 2 u)
 aA:jh X.K QE
 bG:aC X.K QE "ways"
def Je(E:Jd X CL) :
  lV X CL b rJ yo oq ou ow:=by
 rintro⟨bs,nm,tr,is,os,ws,k,w⟩ h;obtain⟨c,a,hi,e⟩:=h;have f:vf _ k=some (iS w):=dQ (by rw[ll,c];rfl);refine bu (Bv E.xG (afH (aU (mR (bI .nil We) E.g.calm (Fi (nU (Bs QcQ QbD f) (aE (eG E.UR E.UQ)) rfl)) QaG (λC s0 j f0 i d hd=>?Ah) (l0 (cL a))) rfl) rfl) (iK λd hd=>gY hi d (k3.1 hd).1) E.xF) rfl
 case Ah=>
  obtain⟨x,r,rfl⟩:=e d hd;exact⟨(afO (bC (kP 0) aj yM) (aE (iJ (aG eS (aG eS fL)) aL)) rfl rfl).1,λ_=>v_ (BH 0)⟩
def ju:FG yo ["chart","way"] ["tuple","ASKS"] (ai rJ):=fG
abbrev NC:=top 27
abbrev NF:=BA×BA×At×AT×AT×BA×BA×List bT×AT×AT×Str
noncomputable abbrev Xn:At:=["chart","opens","boxes","sign","found","leaf","number"]
def Cw:NF->BA:=λ(bs,nm,ks,es,ss,is,os,ws,ops,vs,sg)=>[g7 bs nm Qa5 is os QaQ,.lst QcG,.lst (vs.map .int),.str sg]
def Cy:NF->Prop:=λ(bs,nm,ks,es,ss,is,os,ws,ops,vs,sg)=>fj es/\es.length<=900/\ks.length=es.length/\ws.length<=63/\ops.length<=1000/\(∀x∈ops,0<=x/\x<es.length)/\Er es.length vs ws
def xU:NF->T:=λ(bs,nm,ks,es,ss,is,os,ws,ops,vs,sg)=>(.lst (((OW ws ops vs sg es (Y9 ks ops)).map .int).map T.sh):T)
structure ahy(X:Cx)(CL:BC):Prop extends bD X where
 aK:Ln X 0 "chart"
 cY:Ln X 1 "opens"
 cB:Ln X 2 "boxes"
 jq:Ln X 3 "sign"
 eY:Ln X 4 "found"
 Hj:Ln X 5 "leaf"
 cy:Ln X 6 "number"
 rL:Gl X "open_leaves"
 A5:Gl X "goable"
 zx:Gl X "all_hold"
 rM:Gl X "number_asks"
 bU:Gl X "list"
 Jf:Fc X CL "open_leaves" 1 2 oj om jU
 tF:Fc X CL "goable" 2 4 zm zo qp
 UW:Fc X CL "all_hold" 3 2 uJ uK pB
 Jg:Fc X CL "number_asks" 1 2 oq ou ow
 bM:lJ X "list"
theorem ahz(E:ahy X CL) :
  lV X CL b NC Xn Cw Cy xU:=by
 rintro⟨bs,nm,ks,es,ss,is,os,ws,ops,vs,sg⟩ h;dsimp [xU]at h ⊢;obtain⟨U,Y,P,ZY,n,O,p⟩:=h;apply aO E.g E.eY af2;have H:∀x∈Y9 ks _,0<=x/\x<es.length:=λx B=>O x (k3.1 B).1;have W:(Y9 ks _).length<=1000:=kM (pz _ _) n;refine iG E.g E.Hj (λj δ=>∃v c,δ=[some _,some _,some _,some _,some (.rZ (oo (OW ws ops vs sg es ((Y9 ks ops).take j)))),v,c])
  (dF (ef (aU (c_ (bs,nm,ks,es,ss,is,os,ws.map _,ops) E.Jf E.rL (ah QaJ (ah (aH E.cY) aJ)) (⟨n,λx B=>by have:=O x B;lia⟩) (aM _)) rfl))) ⟨_,_,rfl⟩ (λj δ ⟨_,_,e⟩=>by subst e;exact jj rfl) ?turn ?fin
 case turn=>
  rintro j d δ Z ⟨v,c,rfl⟩;obtain⟨x,rfl,_,A,LX,_,R⟩:=j5 Z;obtain⟨x0,S⟩:=H x A;rw[R,acO];have hpl:=WQ ws ops vs sg es ((Y9 ks ops).take j);have aa:((Y9 ks ops).take j).length<=1000:=by rw[mT];lia
  generalize OW ws _ vs sg es _=acc at hpl ⊢;have Ku:(oo acc).length<=1000000:=by unfold oo;rw[e7];lia
  have o:∀{k:Int},k∈xl ws ops sg (x::bL es x)->0<=k/\k<ws.length:=Mw;have D:o9 ws _ vs sg es _ x=match (xl ws ops sg _).filter _ with | []=>acc|k::_=>IV _ k:=rfl
  rw[D];have N:qp (bs,nm,ks,es,ss,is,os,ws,ops,x,sg)=T.lst _:=rfl;generalize xl ws _ sg _=go at o N ⊢;refine iG E.g E.cy (λi δ=>∃c,(∀k∈go.take i,y2 vs (ws.getD k.toNat w0)=false)/\δ=[some _,some _,some _,some _,some _,some _,c])
   (dF (ef (aU (c_ _ E.tF E.A5 (ah QaJ (ah (aH E.cY) (ah (aH E.Hj) (ah (aH E.jq) aJ)))) (⟨U,Y,x0,S,ZY,p.ok⟩) (N▸aM _)) N))) ⟨_,λk P=>by simp at P,rfl⟩ (λj δ ⟨_,_,e⟩=>by subst e;exact jj rfl) ?Ra ?fin2
  case Ra=>
   rintro i d δ hi ⟨c,l,rfl⟩;obtain⟨k,rfl,J,I,_,_,L⟩:=j5 hi;obtain⟨k0,k1⟩:=o I;obtain⟨w,hw⟩:∃w,ws.getD k.toNat w0=w:=⟨_,rfl⟩;have m:ws[k.toNat]? = some w:=by rw[← hw,lj,l9 Wc];rfl
   obtain⟨al,t,M,f⟩:=p w (l3 m);have G:=t▸agL f;have C:(al.flatMap HI).all (hQ vs)=y2 vs w:=by unfold y2;exact t▸(alY f).symm
   have De:w.asks.length<=2:=by rw[t,e7];exact M
   have s:=t▸eB (Gf) _;have Dd:∀d∈w.asks,∃x r,d=.tup (.str x::r):=λd hd=>by
    rw[t]at hd;obtain⟨q,_,rfl⟩:=j0.1 hd;cases q<;>exact⟨_,_,rfl⟩
   have K:k.toNat=k:=by lia
   refine fQ (vt (aU (c_ (false,al.flatMap _,vs) E.UW E.zx (ah (aE (aU (c_ (bs,nm,dY ks es ss,is,os,ws,k.toNat,w) E.Jg E.rM (ah QaJ (ah (C2 (aH E.cy) (congrArg _ K.symm)) aJ)) (⟨m,Wc,s,Dd⟩) ((iK λd hd=>gY s d (k3.1 hd).1))) (congrArg (λz=>T.sh _) G))) QbZ) (agM f) rfl) (congrArg (λz=>T.sh _) C))) (λF=>?_) (λF=>ak (ak ⟨_,?_,rfl⟩))
   .refine alk (.inl k) E.u E.eY.1 vp (aH E.cy) rfl Ku (Wi (ak ?_));rw[agO];obtain⟨r,V⟩:=Za J (hw▸F) l;exact V▸⟨_,_,rfl⟩
   .intro y a;rw[L]at a;obtain a|a:=i3.1 a
    .exact l y a
    .rw[j2.1 a,hw];exact F
  case fin2=>
   rintro δ ⟨c,l,rfl⟩;rw[e7,mf]at l;rw[List.filter_eq_nil_iff.2 (λy a=>by rw[l y a];decide)];exact ak ⟨_,_,rfl⟩
 case fin=>
  rintro δ ⟨v,c,rfl⟩;rw[e7,mf];apply bu (abv E.g E.bM (vE E.eY.1 rfl (by rw[T.fB])) E.bU);rw[acM]
def iA:FG Xn ["chart","opens","boxes","sign"] ["open_leaves","goable","all_hold","number_asks","list"] (ai NC):=fG
abbrev NK:=top 36
abbrev UX:=At×AT×AT×AT×Int
noncomputable abbrev US:At:=["tree","opens","upper"]
def Ho:UX->BA:=λ(ks,es,ss,ops,u)=>[dY ks es ss,.lst QcG,.int u]
def Hq:UX->Prop:=λ(ks,es,ss,ops,u)=>fj es/\es.length<=1000/\ops.length<=1000/\∀m∈ops,0<=m/\m<es.length
def Hr:UX->T:=λ(ks,es,ss,ops,u)=>(.lst (((yf es ops u).map .int).map T.sh):T)
structure amU(X:Cx)(CL:BC):Prop extends bD X where
 bN:Ln X 0 "tree"
 Uu:Ad X "tree"
 cY:Ln X 1 "opens"
 je:Ln X 2 "upper"
 Nv:Ad X "upper"
 uL:Gl X "reversed"
 uM:lJ X "reversed"
 nJ:Fc X CL "within" 2 3 mJ mK mL
theorem amV(E:amU X CL) :
  lV X CL b NK US Ho Hq Hr:=by
 rintro⟨ks,es,ss,ops,u⟩ h;obtain⟨a,c,e,hm⟩:=h;refine bu (mR (p:=λd=>decide (u=-1) || decide (u∈bL es d.yc)) (g:=T.sh) (bI (.cons E.bN.1 (.inl E.Uu) (.cons E.je.1 (.inl E.Nv) .nil)) We) E.g.calm
  (ak3 E.uM (v_ E.cY.1) E.uL) QaG (λC s0 k f0 f d hd=>?Ah) (l0 (cL WE))) ?eq
 case Ah=>
  obtain⟨i,hi,rfl⟩:=j0.1 (x2.1 hd);have j:=hm i hi;exact⟨vt (c_ (ks,es,ss,i,u) (jy E.nJ) sH (ah (gH 1) (ah (kP 0) (ah (gH 2) aJ))) (⟨a,Wc,Wc,c⟩) rfl),λ_=>v_ (BH 0)⟩
 case eq=>
  rw[← List.map_reverse,so,List.filter_reverse];rfl
def xV:RM (ai NK) ([("tree",.cell),("opens",c9),("upper",.cell),("reversed",bW)])=true:=by decide +kernel
def ahB:c6 US ["tree","opens","upper"] (ai NK):=jN
abbrev zy:=top 42
abbrev zA:=BA×BA×At×AT×AT×BA×BA×List bT×AT×AT
noncomputable abbrev Hs:At:=["chart","opens","going","gone","number"]
def uN:zA->BA:=λ(bs,nm,ks,es,ss,is,os,ws,ops,gs)=>[g7 bs nm Qa5 is os QaQ,.lst QcG,.lst (gs.map .int)]
def pC:zA->Prop:=λ(bs,nm,ks,es,ss,is,os,ws,ops,gs)=>fj es/\es.length<=1000/\ks.length=es.length/\ops.length<=1000/\(∀m∈ops,0<=m/\m<es.length)/\(∀i∈gs,QcZ/\QdH/\0<=(gS ws i).ka/\(gS ws i).ka<es.length)/\((gs.map (gS ws)).flatMap λw=>yf es ops QaO).length<64
def pD:zA->T:=λ(bs,nm,ks,es,ss,is,os,ws,ops,gs)=>(.lst (((oS ks es ops (gs.map (gS ws))).map .int).map T.sh):T)
structure UY(X:Cx)(CL:BC):Prop extends bD X where
 aK:Ln X 0 "chart"
 cY:Ln X 1 "opens"
 lC:Ln X 2 "going"
 rN:Ln X 3 "gone"
 cy:Ln X 4 "number"
 UZ:Gl X "left"
 mO:Gl X "way_top"
 gJ:Gl X "sorted"
 amW:Fc X CL "left" 3 3 Ho Hq Hr
 tE:Fc X CL "way_top" 4 2 nK kE nL
 gK:lJ X "sorted"
 aA:jh X.K QE
 bf:aC X.K QE "tree"
theorem U0(E:UY X CL) :
  lV X CL b zy Hs uN pC pD:=by
 rintro⟨bs,nm,ks,es,ss,is,os,ws,ops,gs⟩ h;dsimp [pD]at h ⊢;obtain⟨f,k,r,a,p,t,l⟩:=h;apply aO E.g E.rN Qa4;refine iG E.g E.cy (λj δ=>∃o,δ=[some _,some _,some _,some (.lst (((((gs.take j).map (gS ws)).flatMap λw=>yf es ops QaO).map .int).map T.sh)),o])
  (dF (v_ E.lC.1)) ⟨_,rfl⟩ (λj δ ⟨_,e⟩=>by subst e;exact jj rfl) ?turn ?fin
 case turn=>
  rintro j d δ s ⟨o,rfl⟩;obtain⟨i,rfl,_,hi,v,_,m⟩:=j5 s;obtain⟨⟨n,i1⟩,hs,c⟩:=t i hi;have u:(((gs.take j).map _).flatMap _).length<64:=List.map_take▸q7 (rg _ _) l;have q:(yf es ops (iU ks es Qbk)).length<=1000:=by
   unfold yf;rw[ti];exact kM (pz _ _) a
  refine nV E.rN.1 rfl (ck (aU (c_ (ks,es,ss,ops,iU ks es _) E.amW E.UZ (ah Qcc (ah (aH E.cY) (ah (aE (aU (c_ (bs,nm,ks,es,ss,is,os,ws,i) E.tE E.mO Qd9 (⟨f,k,r,⟨n,i1⟩,hs,c⟩) rfl) rfl)) aJ))) (⟨f,k,a,p⟩) (aM _)) rfl)) (bz _) rfl (by simp only[e7];lia) (ak ⟨some (.sh Qaw),?_⟩);rw[m];simp
 case fin=>
  rintro δ ⟨o,rfl⟩;rw[e7,mf];exact bu (SY E.gK (vL E.rN.1) l E.gJ) rfl
def gM:FG Hs ["chart","opens","going"] ["left","way_top","sorted"] (ai zy):=fG
abbrev uO:=top 37
abbrev uP:=At×AT×AT×AT×AT×AT
noncomputable abbrev A6:At:=["tree","memory","opens","moods","behind","mood","elder"]
def qu:uP->BA:=λ(ks,es,ss,mem,ops,gj)=>[dY ks es ss,.lst QbN,.lst QcG,.lst (gj.map .int)]
def lD:uP->Prop:=λ(ks,es,ss,mem,ops,gj)=>fj es/\ks.length=es.length/\mem.length=es.length/\(∀m∈ops,0<=m/\m<es.length)/\(∀m∈gj,0<=m/\m<es.length)
def qv:uP->T:=λ(ks,es,ss,mem,ops,gj)=>(.lst (((TH QaD es gj mem ops).map .int).map T.sh):T)
structure NP(X:Cx)(CL:BC):Prop extends bD X where
 bN:Ln X 0 "tree"
 di:Ln X 1 "memory"
 cY:Ln X 2 "opens"
 fF:Ln X 3 "moods"
 cJ:Ln X 4 "behind"
 cD:Ln X 5 "mood"
 jd:Ln X 6 "elder"
 bU:Gl X "list"
 bM:lJ X "list"
 b8:jh X.K Qai
 cT:aC X.K Qai "elders"
 bX:aC X.K Qai "kinds"
theorem NQ(E:NP X CL) :
  lV X CL b uO A6 qu lD qv:=by
 rintro⟨ks,es,ss,mem,ops,gj⟩ h;obtain⟨t,u,hm,p,a⟩:=h;refine aO E.g E.cJ (e9 E.bM (aH E.di) (bz _) E.bU aX) ?_;refine iG E.g E.cD (λj δ=>∃i f,δ=[some _,some _,some _,some _,some (.lst (((TH QaD es gj mem (ops.take j)).map _).map _)),i,f])
  (dF (v_ E.cY.1)) ⟨_,_,rfl⟩ (λj δ ⟨_,_,e⟩=>by subst e;exact jj rfl) ?turn ?fin
 case turn=>
  rintro j d δ s ⟨i,f,rfl⟩;obtain⟨x,rfl,_,k,_,_,m⟩:=j5 s;have n:=p x k;have r:=Ek QaD es gj (ops.take j) mem;apply aO E.g E.jd (cX (bH (cH E.b8 E.cT QaY kC) QaZ (gP Wc Wc)) rfl);rw[m,ack];unfold t6;generalize es.getD _ 0=q;generalize TH _ es gj mem _=acc at r ⊢;refine fQ (ve (jC (Ec (aH E.jd) (aH E.fF) (rfl) rfl).1 (λl=>(jM (eU (bH Qdn (aH E.jd) (gf Str.empty (a q (ko l)).1 (by have:=a q (ko l);lia))) cg).1)))) (λc=>?_) (λc=>ak (ak ?_))
  .rw[lx,vu]at c;have o:=a q c.1;have hlen:((acc.map D.int).map T.sh).length=acc.length:=by simp
   refine yL (v_ E.cD.1) (bE E.cJ.1 rfl) (aH E.jd) rfl rfl (ZA o.1 Wc) (ak (ak ?_));rw[dX (show q∈gj/\cA ks q=true from c),qY,qY];exact⟨_,_,rfl⟩
  .rw[dP (λz=>by
    have:(decide (q∈gj)&&decide (ks.getD q.toNat Str.empty="one"))=true:=by
     rw[lx,vu];exact z
    rw[this]at c;cases c)]
   exact⟨_,_,rfl⟩
 case fin=>
  rintro δ ⟨i,f,rfl⟩;rw[e7,mf];exact bu (vM E.cJ.1) rfl
def eZ:FG A6 ["tree","memory","opens","moods"] ["list"] (ai uO):=fG
abbrev U1:=top 16
abbrev U3:=At×AT×AT×Int×Int
noncomputable abbrev UP:At:=["tree","upper","mood","steps","elder"]
def Ht:U3->BA:=λ(ks,es,ss,u,m)=>[dY ks es ss,.int u,.int m]
def A7:U3->Prop:=λ(ks,es,ss,u,m)=>fj es/\0<=m/\m<es.length/\es.length<=1000
def wI:U3->T:=λ(ks,es,ss,u,m)=>(.lst (((cS es u m).map .int).map T.sh):T)
structure amX(X:Cx)(CL:BC):Prop extends bD X where
 bN:Ln X 0 "tree"
 je:Ln X 1 "upper"
 cD:Ln X 2 "mood"
 pF:Ln X 3 "steps"
 jd:Ln X 4 "elder"
 lA:Gl X "above"
 bU:Gl X "list"
 uL:Gl X "reversed"
 pe:Fc X CL "above" 1 2 mF mG mH
 bM:lJ X "list"
 uM:lJ X "reversed"
theorem amY(E:amX X CL) :
  lV X CL b U1 UP Ht A7 wI:=by
 rintro⟨ks,es,ss,u,m⟩ h;dsimp [A7,wI]at h ⊢;have h':=h;have t:(bL es m).length<=es.length+1:=xu _ _ _;apply aO E.g E.pF (fE (aG (v_ E.cD.1) fL) aL);refine iG E.g E.jd (λj δ=>∃o,(∀x∈(bL es m).take j,x≠u)/\δ=[some _,some _,some _,some (.lst (((m::(bL es m).take j).map _).map _)),o])
  (dF (ef (c_ (_,_,_,_) E.pe E.lA Qei (h') (aM _)))) ⟨_,λx c=>by simp at c,rfl⟩ (λj δ ⟨_,_,e⟩=>by subst e;exact jj rfl) ?turn ?fin
 case turn=>
  rintro j d δ k ⟨o,i,rfl⟩;rw[ll]at k;cases c:(bL es m)[j]? with
  | none=>rw[c]at k;cases k
  | some x=>
   rw[c]at k;cases k;have s:=(lL.1 c).1;have n:(bL es m).take QA=(bL es m).take j++[x]:=by rw[ri,c];rfl
   refine fQ (fK (aH E.jd) (aH E.je)).1 (λl=>Wi ?brk) (λl=>ak ?_)
   case brk=>
    have e:=ko l;have f:(bL es m).takeWhile Qb7=(bL es m).take j:=by
     have r:=by
      have h2:=Fn j (bL es m);rw[JP s]at h2;have:=(lL.1 c).2;rw[this]at h2;exact h2.symm
     conv=>lhs;rw[r]
     rw[List.takeWhile_append_of_pos (λy a=>by simpa using i y a),List.takeWhile_cons,if_neg (by simp[e]),List.append_nil]
    apply bu (Fw E.g E.bM E.uM (vL E.pF.1) (bz _) E.bU E.uL);unfold cS;rw[f];simp only[List.map_reverse]
   .have e:=l6 l;refine jH E.pF.1 rfl (v_ E.jd.1) rfl WE (ak ?_);have q:(((m::(bL es m).take j).map D.int).map T.sh)++[T.sh (.int x)]=((m::(bL es m).take QA).map D.int).map T.sh:=by rw[n];simp
    rw[q];refine⟨_,λy a=>?_,rfl⟩;rw[n]at a;obtain a|a:=i3.1 a
    .exact i y a
    .have:=by simpa using a
     exact this▸e
 case fin=>
  rintro δ ⟨o,i,rfl⟩;apply bu (Fw E.g E.bM E.uM (vL E.pF.1) (bz _) E.bU E.uL);rw[e7,mf]at i ⊢;unfold cS;have f:(bL es m).takeWhile Qb7=bL es m:=by
   have:=List.takeWhile_append_of_pos (p:=λx=>decide _) (l₂:=[]) (λy a=>by simpa using i y a);simpa using this
  rw[f];simp only[List.map_reverse]
def pG:FG UP ["tree","upper","mood"] ["above","list","reversed"] (ai U1):=fG
abbrev Cz:=top 35
abbrev CB:=At×AT×AT×AT×Int×Nat×Str
noncomputable abbrev K1:At:=["tree","memory","upper","target","mode","steps","found","step","place"]
def qQ:CB->BA:=λ(ks,es,ss,mem,u,tg,mode)=>[dY ks es ss,.lst QbN,.int u,.int tg,.str mode]
def qR:CB->Prop:=λ(ks,es,ss,mem,u,tg,mode)=>(es.length<=900/\ks.length=es.length/\ss.length=es.length/\mem.length=es.length/\tg<es.length/\t8 mode/\∀k:Nat,k<es.length->aY ks k=true\/av ks k=true\/ks.getD k Str.empty="one")/\dG Qas Q1 es ss mem/\es.length<=41/\(u=-1\/u∈bL es tg)
def qS:CB->T:=λ(ks,es,ss,mem,u,tg,mode)=>(.lst (((sortI (pd Qas Q1 es ss mem (eX mode) (g6 mode) u tg)).map .int).map T.sh):T)
structure Zn(X:Cx)(CL:BC):Prop extends bD X where
 bN:Ln X 0 "tree"
 di:Ln X 1 "memory"
 je:Ln X 2 "upper"
 kW:Ln X 3 "target"
 rj:Ln X 4 "mode"
 pF:Ln X 5 "steps"
 eY:Ln X 6 "found"
 fN:Ln X 7 "step"
 jB:Ln X 8 "place"
 U4:Gl X "road"
 lq:Gl X "opened"
 AX:Gl X "inner"
 gJ:Gl X "sorted"
 amZ:Fc X CL "road" 2 3 Ht A7 wI
 sW:Fc X CL "opened" 43 4 qj (ki 40) mC
 Nb:Fc X CL "inner" 1 2 xO pR xP
 gK:lJ X "sorted"
 b8:jh X.K Qai
 bX:aC X.K Qai "kinds"
theorem Zo(E:Zn X CL) :
  lV X CL b Cz K1 qQ qR qS:=by
 rintro⟨ks,es,ss,mem,u,tg,mode⟩ h;dsimp only [qR,qQ,qS]at h ⊢;obtain⟨Dd,z,A,hu⟩:=h;obtain⟨hl,K,hs,hm,I,R,w⟩:=Dd;have J:=z.pre.1;have P:fj es/\(0:Int)<=tg/\(tg:Int)<es.length/\es.length<=1000:=⟨J,Wc,Wc,Wc⟩;refine aO E.g E.pF (c_ ((ks,es,ss,u,(tg:Int))) E.amZ E.U4 (ah QaY (ah (aH E.je) (ah (aH E.kW) aJ))) (P) (aM _)) ?_;rw[show wI _=T.lst _ from rfl];have li:=F2 J (u:=u) (t:=(tg:Int)) Wc Wc hu;have ab:(cS es u tg).length<=es.length+2:=by
  unfold cS;rw[ti,lr];have h1:=(JI (l:=bL es (tg:Int)) Qb7).length_le;have h2:(bL es (tg:Int)).length<=es.length+1:=xu _ _ _;lia
 have U:(cS es u tg).dropLast.length<=es.length+2:=by rw[List.length_dropLast];lia
 have o:∀(far near:Bool) (k:Nat),k<es.length->(jP Qas Q1 es ss mem far es.length near k).length<=41:=λfar near k K=>kM (Ai z K) A;have aw:(IQ ks es ss mem mode tg).length<=41:=o _ _ tg I;have H:∀p:Int,IQ ks es ss mem "new" p=jP Qas Q1 es ss mem false es.length false p:=λp=>by
  unfold IQ;rw[show eX "new" = false by decide +kernel,show g6 "new" = false by decide +kernel]
 have f:cutD ((cS es u tg).map D.int) none (some (-1))=(cS es u tg).dropLast.map D.int:=by rw[Fl,YY]
 refine aO E.g E.eY (aU (t2:=T.lst (((((cS es u tg).dropLast++IQ ks es ss mem mode tg)).map D.int).map T.sh)) (zW (ck (zU (vL E.pF.1) (bz _) zT (xg Qbb))) (ck (c_ ((ks,es,ss,mem,tg,mode)) E.sW E.lq (ah QaY (ah (aH E.di) (ah (aH E.kW) (ah (aH E.rj) aJ)))) (by dsimp only [ki];exact(⟨⟨hl,K,hs,hm,I,R,w⟩,z,Wc⟩)) (aM _))) ((by rw[f];exact bz _)) (bz _) (Nat.le_of_lt (cL (by rw[f,List.length_map,List.length_map];exact(show(cS es u tg).dropLast.length+(IQ ks es ss mem mode tg).length<=1000 by lia))))) (by rw[f,← List.map_append])) ?_;generalize Z:(λs:Int=>((jo es s).filter _).flatMap QbQ)=F;have W:∀s:Int,(F s).length<=41*41:=λs=>by
  rw[← Z];have h1:((jo es s).filter QbR).length<=41:=kM (pz _ _) (kM (Wz es s) A);refine kM (Ak (c:=41) λp a=>?_) (Nat.mul_le_mul_right _ h1);have hb:=xx (k3.1 a).1;obtain⟨q,rfl⟩:∃q:Nat,p=q:=⟨p.toNat,Wc⟩;exact o _ _ q Wc
 have Y:∀l:AT,l.length<=44->(l.flatMap F).length<=44*(41*41):=λl h=>kM (Ak (c:=41*41) λp _=>W p) (Nat.mul_le_mul_right _ h);have B:pd Qas Q1 es ss mem (eX mode) (g6 mode) u tg=(cS es u tg).dropLast++IQ ks es ss mem mode tg++((cS es u tg).dropLast.filter Qb0).flatMap F:=by
  rw[← Z];rfl
 have C:=acr z (far:=eX mode) (near:=g6 mode) I hu (iN:=cS es u tg) li;have hpl:=C.length_eq;have n:=(WG (isAll:=av ks) (es:=es) (ss:=ss) (mem:=mem) (far:=eX mode) (near:=g6 mode) (iN:=cS es u tg) (t:=tg) es.length).2.2.2.1;rw[hpl]at n;rw[B]at n ⊢;clear B C hpl;have y:∀s∈(cS es u tg).dropLast,0<=s/\s<es.length:=λs hs=>by
  have:=jD J I ((li s).1 (xB J I hs).1);lia
 generalize kI:(cS es u tg).dropLast++IQ ks es ss mem mode tg=base at n ⊢;have Qf:base.length<=100:=by
  rw[← kI,kn];lia
 generalize ae:(cS es u tg).dropLast=r at U y n f ⊢;refine iG E.g E.fN (λj δ=>∃v m,δ=[some (.sh Qa5),some (.sh (.lst QbN)),some (.sh (.int u)),some (.sh (.int tg)),some (.sh (.str mode)),some (.lst (((cS es u tg).map .int).map T.sh)),some (.lst (((base++((r.take j).filter Qb0).flatMap F).map .int).map T.sh)),v,m])
  (dF (ef (aU (zU (vL E.pF.1) (bz _) zT (xg Qbb)) (by rw[f])))) ⟨_,_,by simp;rfl⟩ (λj δ ⟨_,_,e⟩=>by subst e;exact jj rfl) ?turn ?fin
 case turn=>
  rintro j d δ hj ⟨v,m,rfl⟩;obtain⟨x,rfl,_,L,LX,_,xh⟩:=j5 hj;have M:=y x L;have S:((r.take j).filter Qb0).length<=44:=kM (pz _ _) (by rw[mT];lia);have ar:=Y _ S;refine fQ (eU (bH Qdn (aH E.fN) (gf Str.empty M.1 Wc)) cg).1 (λa=>?_) (λa=>ak (ak ?_))
  .have a:av ks x=true:=a;have aa:((r.take QA).filter Qb0).flatMap F=((r.take j).filter Qb0).flatMap F++F x:=by
    rw[xh,n8,wd a,vi,FV];simp
   show eW X CL b _ _ {nx:=λδ=>eW X CL b _ δ {nx:=λδ=>∃v m,δ=[_,_,_,_,_,_,some (.lst (((base++((r.take QA).filter Qb0).flatMap F).map .int).map T.sh)),v,m],rt:=_,bk:=_,ct:=_},rt:=_,bk:=_,ct:=_};rw[aa,← jw];generalize V:base++((r.take j).filter Qb0).flatMap F=cur;have De:cur.length<=100+44*(41*41):=by rw[← V,kn];lia
   have eF:F x=((jo es x).filter QbR).flatMap QbQ:=by rw[← Z]
   have Km:=Wz es x;refine iG E.g E.jB (λi δ=>∃m,δ=[some (.sh Qa5),some (.sh (.lst QbN)),some (.sh (.int u)),some (.sh (.int tg)),some (.sh (.str mode)),some (.lst (((cS es u tg).map .int).map T.sh)),some (.lst (((cur++(((jo es x).take i).filter QbR).flatMap QbQ).map .int).map T.sh)),some (.sh (.int x)),m])
    (dF (ef (c_ ((ks,es,ss,x)) E.Nb E.AX (ah QaY (ah (aH E.fN) aJ)) ((by dsimp only [pR];lia)) (aM _)))) ⟨_,by simp;rfl⟩ (λj δ ⟨_,e⟩=>by subst e;exact Nat.le_of_ble_eq_true rfl) ?Ra ?fin2
   case Ra=>
    rintro i d δ hi ⟨m,rfl⟩;obtain⟨p,rfl,_,O,ag,_,G⟩:=j5 hi;have hb:=xx O;obtain⟨q,rfl⟩:∃q:Nat,p=q:=⟨p.toNat,Wc⟩;have Pk:((((jo es x).take i).filter QbR).flatMap QbQ).length<=41*41:=by
     have h1:(((jo es x).take i).filter QbR).length<=41:=kM (pz _ _) (by rw[mT];lia);refine kM (Ak (c:=41) λp a=>?_) (Nat.mul_le_mul_right _ h1);have hb:=xx (rf (k3.1 a).1);obtain⟨q,rfl⟩:∃q:Nat,p=q:=⟨p.toNat,Wc⟩;exact o _ _ q Wc
    refine fQ (Lz (l:=cS es u tg) (aH E.jB) (vL E.pF.1) rfl rfl).1 (λN=>?_) (λN=>ak (ak ?_))
    .refine nV E.eY.1 rfl (ck (aU (c_ ((ks,es,ss,mem,q,("new":Str))) E.sW E.lq (ah QaY (ah (aH E.di) (ah (aH E.jB) (ah cg aJ)))) (by dsimp only [ki];exact(⟨⟨hl,K,hs,hm,Wc,.inl rfl,w⟩,z,Wc⟩)) (aM _)) rfl)) (bz _) rfl ?len (ak (ak ?_))
     case len=>
      have:=o false false q Wc;rw[H];simp only[e7,kn];lia
     have e1:(((cur++(((jo es x).take i).filter QbR).flatMap QbQ).map D.int).map T.sh)++(((IQ ks es ss mem "new" q).map D.int).map T.sh)=((cur++(((jo es x).take (i+1)).filter QbR).flatMap QbQ).map D.int).map T.sh:=by
      rw[G,n8,wd (p:=λp=>!decide (p∈cS es u tg)) N,vi,FV,H,← jw,← kc,← kc];simp
     rw[show((((cur++(((jo es x).take i).filter _).flatMap QbQ).map D.int).map T.sh)++(((IQ ks es ss mem "new" q).map D.int).map T.sh))=_ from e1];exact⟨_,rfl⟩
    .have e1:(((jo es x).take i).filter QbR).flatMap QbQ=(((jo es x).take (i+1)).filter QbR).flatMap QbQ:=by
      rw[G,n8,Fu (by rw[N];decide),vi,km]
     rw[e1];exact⟨_,rfl⟩
   case fin2=>
    rintro δ ⟨m,rfl⟩;rw[e7,mf];refine ak (ak ?_);dsimp only;rw[eF];exact⟨_,_,rfl⟩
  .have a:av ks x=false:=a;have e1:((r.take j).filter Qb0).flatMap F=((r.take QA).filter Qb0).flatMap F:=by
    rw[xh,n8,Fu (p:=λs=>av ks s) (by rw[a];decide),vi,km]
   rw[e1];exact⟨_,_,rfl⟩
 case fin=>
  rintro δ ⟨v,m,rfl⟩;rw[e7,mf];exact bu (tW E.gK (vL E.eY.1) Wc E.gJ) rfl
def dW:FG K1 ["tree","memory","upper","target","mode"] ["road","opened","inner","sorted"] (ai Cz):=fG
abbrev rO:=top 43
abbrev rP:=BA×BA×At×AT×AT×BA×BA×List bT×AT×AT
noncomputable abbrev yp:At:=["chart","memory","going","come","number","way"]
def jV:rP->BA:=λ(bs,nm,ks,es,ss,is,os,ws,mem,gs)=>[g7 bs nm Qa5 is os QaQ,.lst QbN,.lst (gs.map .int)]
def iW:rP->Prop:=λ(bs,nm,ks,es,ss,is,os,ws,mem,gs)=>(es.length<=40/\ks.length=es.length/\ss.length=es.length/\mem.length=es.length/\∀k:Nat,k<es.length->aY ks k=true\/av ks k=true\/ks.getD k Str.empty="one")/\dG Qas Q1 es ss mem/\(∀i∈gs,QcZ/\QdH/\(0<=(gS ws i).ka/\(gS ws i).ka<es.length)/\t8 (gS ws i).mode/\(iU ks es Qbk=-1\/iU ks es Qbk∈bL es (gS ws i).ka.toNat))/\((gs.map (gS ws)).flatMap Qcj).length<64
def jW:rP->T:=λ(bs,nm,ks,es,ss,is,os,ws,mem,gs)=>(.lst (((yR ks es ss mem (gs.map (gS ws))).map .int).map T.sh):T)
structure Jh(X:Cx)(CL:BC):Prop extends bD X where
 aK:Ln X 0 "chart"
 di:Ln X 1 "memory"
 lC:Ln X 2 "going"
 uz:Ln X 3 "come"
 cy:Ln X 4 "number"
 gI:Ln X 5 "way"
 CD:Gl X "entered"
 mO:Gl X "way_top"
 nF:Gl X "TARGET"
 NR:Gl X "MODE"
 gJ:Gl X "sorted"
 Zq:Fc X CL "entered" 44 5 qQ qR qS
 tE:Fc X CL "way_top" 4 2 nK kE nL
 nG:∃u,X.mg "TARGET" = some (.int 4 u)
 NS:∃u,X.mg "MODE" = some (.int 5 u)
 gK:lJ X "sorted"
 aA:jh X.K QE
 bG:aC X.K QE "ways"
 bf:aC X.K QE "tree"
theorem Ji(E:Jh X CL) :
  lV X CL b rO yp jV iW jW:=by
 rintro⟨bs,nm,ks,es,ss,is,os,ws,mem,gs⟩ h;dsimp only [iW,jV,jW]at h ⊢;obtain⟨⟨C,t,k,A,n⟩,u,z,r⟩:=h;have x:=u.pre.1;have a:∀l:List bT,(l.flatMap _).length=(l.flatMap Qcj).length:=λl=>(BO l).length_eq;refine aO E.g E.uz Qa4 ?_;refine iG E.g E.cy (λj δ=>∃o o',δ=[some _,some _,some _,some (.lst (((((gs.take j).map (gS ws)).flatMap λw=>sortI (OV ks es ss mem w)).map .int).map T.sh)),o,o'])
  (dF (v_ E.lC.1)) ⟨_,_,rfl⟩ (λj δ ⟨_,_,e⟩=>by subst e;exact jj rfl) ?turn ?fin
 case turn=>
  rintro j d δ y ⟨o,o',rfl⟩;obtain⟨i,rfl,_,hi,D,_,v⟩:=j5 y;obtain⟨⟨s,i1⟩,hs,f,m,c⟩:=z i hi;have B:(((gs.take j).map (gS ws)).flatMap λw=>sortI (OV ks es ss mem w)).length<64:=by
   rw[a,List.map_take];exact q7 (rg _ _) r
  have q:(((gs.take QA).map (gS ws)).flatMap λw=>sortI (OV ks es ss mem w)).length<64:=by
   rw[a,List.map_take];exact q7 (rg _ _) r
  have e2:((gs.take QA).map (gS ws)).flatMap (λw=>sortI (OV ks es ss mem w))=(((gs.take j).map (gS ws)).flatMap λw=>sortI (OV ks es ss mem w))++sortI (OV ks es ss mem Qbk):=by
   rw[v,kc];simp
  rw[e2,kn]at q;have p:((gS ws i).ka.toNat:Int)=(gS ws i).ka:=by lia
  refine aO E.g E.gI (aU (Bs QcQ (aH E.cy) (gf w0 s i1)) (t2:=.sh (iS Qbk)) rfl) ?_;refine nV E.uz.1 rfl (ck (aU (c_ (ks,es,ss,mem,iU ks es _,(gS ws i).ka.toNat,(gS ws i).mode) E.Zq E.CD (ah Qcc (ah (aH E.di) (ah (aE (aU (c_ (bs,nm,ks,es,ss,is,os,ws,i) E.tE E.mO Qd9 (by exact⟨x,Wc,t,⟨s,i1⟩,hs,f⟩) rfl) rfl)) (ah (C2 QdG (congrArg _ p.symm)) (ah Qez aJ))))) (by exact⟨⟨Wc,t,k,A,Wc,m,n⟩,u,Wc,c⟩) (aM _)) (t2:=.lst (((sortI (OV ks es ss mem _)).map .int).map T.sh)) rfl)) (bz _) rfl (by simp only[e7];lia) (ak ⟨some (.sh Qaw),some (.sh (iS Qbk)),?_⟩);rw[e2];simp
 case fin=>
  rintro δ ⟨o,o',rfl⟩;rw[e7,mf];refine bu (tW E.gK (vL E.uz.1) (by rw[a];exact r) E.gJ) ?_;rw[Kz (BO _)];rfl
def cK:FG yp ["chart","memory","going"] ["entered","way_top","TARGET","MODE","sorted"] (ai rO):=fG
abbrev Hu:=top 39
abbrev Hv:=BA×BA×At×AT×AT×BA×BA×List bT×Int
noncomputable abbrev Rb:At:=["chart","mood","way"]
def uQ:Hv->BA:=λ(bs,nm,ks,es,ss,is,os,ws,m)=>[g7 bs nm Qa5 is os QaQ,.int m]
def qw:Hv->Prop:=λ(bs,nm,ks,es,ss,is,os,ws,m)=>fj es/\ks.length=es.length/\es.length<=1000/\0<=m/\m<es.length
def qx:Hv->T:=λ(bs,nm,ks,es,ss,is,os,ws,m)=>(.sh (.bl (lM ks es ws m)):T)
structure adT(X:Cx)(CL:BC):Prop extends bD X where
 aK:Ln X 0 "chart"
 cD:Ln X 1 "mood"
 gI:Ln X 2 "way"
 NR:Gl X "MODE"
 nF:Gl X "TARGET"
 nI:Gl X "within"
 NS:∃u,X.mg "MODE" = some (.int 5 u)
 nG:∃u,X.mg "TARGET" = some (.int 4 u)
 nJ:Fc X CL "within" 2 3 mJ mK mL
 aA:jh X.K QE
 b8:jh X.K Qai
 bG:aC X.K QE "ways"
 bX:aC X.K Qai "kinds"
 bf:aC X.K QE "tree"
theorem adU(E:adT X CL) :
  lV X CL b Hu Rb uQ qw qx:=by
 rintro⟨bs,nm,ks,es,ss,is,os,ws,m⟩ h;dsimp [qx]at h ⊢;obtain⟨p,s,q,m0,m1⟩:=h;refine fQ (aa3 (bH (cH E.b8 E.bX Qcc jn) QaZ (gf Str.empty m0 Wc)) cg).1 (λa=>?_) (λa=>ak ?_)
 .apply bu vp;have:cA ks m=false:=by
   rw[Bool.not_eq_true']at a;exact a
  unfold lM;rw[this];rfl
 have n:cA ks m=true:=by
  rw[Bool.not_eq_false']at a;exact a
 have k:lM ks es ws m=ws.any (KC es m):=by unfold lM;rw[n];rfl
 rw[k];refine iG E.g E.gI (λj δ=>(∀i x,i<j->ws[i]? = some x->KC es m x=false)/\∃o,δ=[some _,some _,o])
  (dF QcQ) ⟨λi x hi=>by lia,_,rfl⟩ (λj δ ⟨_,_,e⟩=>by subst e;exact jj rfl) ?turn ?fin
 case turn=>
  rintro j d δ r ⟨c,o,rfl⟩;obtain⟨w,rfl,hw,_,t,_,_⟩:=j5 r;refine fQ (ve (jC (aa3 Qez cg).1 (λ_=>jM (fK QdG QaZ).1))) (λa=>?_) (λa=>ak ?_)
  .apply bu vp;rw[Qs hw (by unfold KC;rw[a];rfl)]
  refine fQ (ve (jC (eU Qez cg).1 (λ_=>jM (vt (c_ (ks,es,ss,m,w.ka) E.nJ E.nI (ah Qcc (ah QaZ (ah QdG aJ))) (⟨p,m0,m1,q⟩) rfl))))) (λl=>?_) (λl=>ak (ak ?_))
  .apply bu vp;rw[Qs hw (by unfold KC;rw[l,Bool.or_true])]
  .refine⟨λi x hi f=>?_,_,rfl⟩;by_cases e:i=j
   .subst e;rw[hw]at f;cases f;unfold KC;rw[a,l];rfl
   .exact c i x Wc f
 case fin=>
  rintro δ ⟨c,o,rfl⟩;apply bu vp;rw[any_none λi x f=>c i x (by rw[e7];exact(lL.1 f).1) f]
def mP:FG Rb ["chart","mood"] ["MODE","TARGET","within"] (ai Hu):=fG
abbrev zB:=top 44
abbrev zC:=BA×BA×At×AT×AT×BA×ES×List bT×AT×AT×AT
noncomputable abbrev Hw:At:=["chart","gone","memory","behind","rows","mood"]
def uR:zC->BA:=λ(bs,nm,ks,es,ss,is,os,ws,gone,mem,bh)=>[g7 bs nm Qa5 is (os.map .tup) QaQ,.lst (gone.map .int),.lst QbN,.lst (bh.map .int)]
def pH:zC->Prop:=λ(bs,nm,ks,es,ss,is,os,ws,gone,mem,bh)=>fj es/\es.length<=1000/\ks.length=es.length/\os.length=es.length/\mem.length=es.length/\bh.length=es.length/\ua os/\gone.length<=1000/\∀m∈gone,0<=m/\m<es.length
def pI:zC->T:=λ(bs,nm,ks,es,ss,is,os,ws,gone,mem,bh)=>(.lst ((Mp (lM ks es ws) os mem bh gone).map T.sh):T)
structure U5(X:Cx)(CL:BC):Prop extends bD X where
 aK:Ln X 0 "chart"
 rN:Ln X 1 "gone"
 di:Ln X 2 "memory"
 cJ:Ln X 3 "behind"
 cC:Ln X 4 "rows"
 cD:Ln X 5 "mood"
 Hx:Gl X "heeded"
 Hy:Fc X CL "heeded" 3 2 uQ qw qx
 aA:jh X.K QE
 kX:aC X.K QE "outs"
theorem U6(E:U5 X CL) :
  lV X CL b zB Hw uR pH pI:=by
 rintro⟨bs,nm,ks,es,ss,is,os,ws,gone,mem,bh⟩ h;dsimp [pI]at h ⊢;obtain⟨l,p,q,n,y,w,f,s,t⟩:=h;apply aO E.g E.cC Qa4;refine iG E.g E.cD (λj δ=>∃o,δ=[some _,some _,some _,some _,some (.lst ((Mp (lM ks es ws) os mem bh (gone.take j)).map T.sh)),o])
  (dF (v_ E.rN.1)) ⟨_,rfl⟩ (λj δ ⟨_,e⟩=>by subst e;exact jj rfl) ?turn ?fin
 case turn=>
  rintro j d δ r ⟨o,rfl⟩;obtain⟨m,rfl,_,hm,x,_,i⟩:=j5 r;obtain⟨m0,m1⟩:=t m hm;have c:=(Mr (DK:=lM ks es ws) (mem:=mem) (bh:=bh) f (gone.take j)).1;have k:(gone.take j).length<=j:=by simp;lia
  obtain⟨g1,g2⟩:=f.get m.toNat;rw[i,Y3];generalize Mp _ os _ bh _=rs at c ⊢;apply jH E.cC.1 rfl (iJ (aG eS (aG (v_ E.cD.1) fL)) aL) rfl (by rw[e7];lia);refine zS (λδ=>δ=[some (.sh (g7 bs nm Qa5 is (os.map .tup) QaQ)),some (.sh (.lst (gone.map .int))),some (.sh (.lst QbN)),some (.sh (.lst (bh.map .int))),some (.lst ((rs++(D.tup [.str "out",.int m]::(if lM ks es ws m=true then [D.tup [.str "keep",.int m,.int (mem.getD m.toNat 0),.int (bh.getD m.toNat 0)]] else []))).map T.sh)),some Qb2])
   (vt (aU (c_ (bs,nm,ks,es,ss,is,os.map _,ws,m) E.Hy E.Hx (ah QaJ (ah QaZ aJ)) (⟨l,q,p,m0,m1⟩) rfl) rfl)) (λa=>?_) (λa=>?_) ?_
  .rw[dX a];refine jH E.cC.1 rfl (iJ (aG eS (aG (v_ E.cD.1) (aG (cX (bH (aH E.di) QaZ (gP m0 Wc)) rfl) (aG (cX (bH (aH E.cJ) QaZ (gP m0 Wc)) rfl) fL)))) aL) rfl WE (ak ?_);simp
  .rw[dP (by rw[a];decide)];apply ak;simp
  rintro δ rfl;have u:(if lM ks es ws m=true then [D.tup [.str "keep",.int m,.int (mem.getD m.toNat 0),.int (bh.getD m.toNat 0)]] else []).length<=1:=by split<;>simp
  generalize (if lM ks es ws m=true then [D.tup _] else [])=v at u ⊢;refine nV E.cC.1 rfl (bH (cH E.aA E.kX QaJ F6) QaZ (gf [] m0 Wc)) g2 rfl (by rw[e7,kn,lr];lia) (ak ⟨some Qb2,?_⟩);simp
 case fin=>
  rintro δ ⟨o,rfl⟩;rw[e7,mf];exact bu (vM E.cC.1) rfl
def iI:FG Hw ["chart","gone","memory","behind"] ["heeded"] (ai zB):=fG
abbrev zE:=top 45
abbrev zF:=BA×BA×D×BA×BA×List bT×Nat×AT
noncomputable abbrev Hz:At:=["chart","ways","rows","number"]
def uS:zF->BA:=λ(bs,nm,tr,is,os,ws,n,sel)=>[g7 bs nm tr is os QaQ,.lst (sel.map .int)]
def pJ:zF->Prop:=λ(bs,nm,tr,is,os,ws,n,sel)=>sel.length<=1000/\(∀i∈sel,QcZ/\yn n Qbk)
def pK:zF->T:=λ(bs,nm,tr,is,os,ws,n,sel)=>(.lst ((Mq ws sel).map T.sh):T)
structure U7(X:Cx)(CL:BC):Prop extends bD X where
 aK:Ln X 0 "chart"
 nW:Ln X 1 "ways"
 cC:Ln X 2 "rows"
 cy:Ln X 3 "number"
 ahC:Gl X "DEEDS"
 ahD:∃u,X.mg "DEEDS" = some (.int 3 u)
 aA:jh X.K QE
 bG:aC X.K QE "ways"
theorem U8(E:U7 X CL) :
  lV X CL b zE Hz uS pJ pK:=by
 rintro⟨bs,nm,tr,is,os,ws,n,sel⟩ h;dsimp [pK]at h ⊢;obtain⟨p,hs⟩:=h;apply aO E.g E.cC Qa4;refine iG E.g E.cy (λj δ=>∃o,δ=[Option.some _,Option.some _,Option.some (.lst ((Mq ws (sel.take j)).map T.sh)),o])
  (dF (v_ E.nW.1)) ⟨_,rfl⟩ (λj δ ⟨_,e⟩=>by subst e;exact jj rfl) ?turn ?fin
 case turn=>
  rintro j d δ m ⟨o,rfl⟩;obtain⟨i,rfl,_,hi,q,_,a⟩:=j5 m;obtain⟨⟨c,i1⟩,hw⟩:=hs i hi;have l:=(Ms (some:=sel.take j) (λx f=>(hs x (rf f)).2)).1;have k:(sel.take j).length<=j:=by simp;lia
  have d1:=hw.2.2.2.1;apply jH E.cC.1 rfl (iJ (aG eS (aG (v_ E.cy.1) fL)) aL) rfl (by rw[e7];lia);refine nV E.cC.1 rfl (bC (bH (cH E.aA E.bG QaJ gQ) (aH E.cy) (gf w0 c i1)) (aE (eG E.ahD E.ahC)) OP) hw.2.2.2.2.1 rfl (by rw[kn,e7];show _+1+(gS ws i).Dh.length<=_;lia) (ak ⟨Option.some (.sh Qaw),?_⟩);rw[a,Y4,kc,jw];rfl
 case fin=>
  rintro δ ⟨o,rfl⟩;rw[e7,mf];exact bu (vM E.cC.1) rfl
def kF:FG Hz ["chart","ways"] ["DEEDS"] (ai zE):=fG
abbrev EJ:=top 40
abbrev NT:=BA×BA×At×AT×AT×ES×ES×List bT×AT×AT×AT
noncomputable abbrev Xo:At:=["chart","opens","memory","ways","going","gone","behind","come","script"]
def xW:NT->BA:=λ(bs,nm,ks,es,ss,is,os,ws,ch,mem,a)=>[g7 bs nm Qa5 (is.map .tup) (os.map .tup) QaQ,.lst ((iH Q1 es ch Qac).map .int),.lst QbN,.lst (a.map .int)]
def xX:NT->Prop:=λ(bs,nm,ks,es,ss,is,os,ws,ch,mem,a)=>mS ks es ss is os ws/\(ch.length=es.length/\F3 QaD es ch)/\KD ks es mem/\uc ks es ws QaX a
def tG:NT->T:=λ(bs,nm,ks,es,ss,is,os,ws,ch,mem,a)=>(.tup [.lst ((HN ks es ss is os ws mem QaX a).map T.sh),.lst (((HU ks es ss (Y5 ks es ws mem QaX QaA) QaX QaA).map .int).map T.sh),.lst (((Y5 ks es ws mem QaX QaA).map .int).map T.sh)]:T)
structure ahE(X:Cx)(CL:BC):Prop extends bD X where
 aK:Ln X 0 "chart"
 pA:Ad X "chart"
 cY:Ln X 1 "opens"
 di:Ln X 2 "memory"
 nW:Ln X 3 "ways"
 lC:Ln X 4 "going"
 rN:Ln X 5 "gone"
 am0:Ad X "gone"
 cJ:Ln X 6 "behind"
 uz:Ln X 7 "come"
 bR:Ln X 8 "script"
 zG:Gl X "all_left"
 uT:Gl X "remembered"
 rQ:Gl X "all_entered"
 zH:Gl X "out_rows"
 zI:Gl X "way_rows"
 sX:Gl X "in_rows"
 gJ:Gl X "sorted"
 U9:Fc X CL "all_left" 5 3 uN pC pD
 NW:Fc X CL "remembered" 1 4 qu lD qv
 Jj:Fc X CL "all_entered" 45 3 jV iW jW
 Va:Fc X CL "out_rows" 4 4 uR pH pI
 Vb:Fc X CL "way_rows" 1 2 uS pJ pK
 Ck:Fc X CL "in_rows" 1 2 qO nB nE
 gK:lJ X "sorted"
 uI:Fc X CL "has_target" 1 2 ly iz lz
 Hy:Fc X CL "heeded" 3 2 uQ qw qx
 aA:jh X.K QE
 bf:aC X.K QE "tree"
theorem ahF(E:ahE X CL) :
  lV X CL b EJ Xo xW xX tG:=by
 rintro⟨bs,nm,ks,es,ss,is,os,ws,ch,mem,a⟩ h;dsimp only [xX,xW,tG]at h ⊢;obtain⟨c,⟨I,B⟩,hm,hs⟩:=h;have r:=c.pre.1;have n0:=c.n0;have n1:=c.n1;have H:=hs.y6 c;have q:=hs.w3 c;have m:=hs.i;have L:=hs.l;have j:=hs.ap;have e:∀x∈iH Q1 es ch Qac,0<=x/\x<es.length:=λx k=>Qq n0 k;have s:=j7 (isAll:=av ks) (es:=es) (ch:=ch) Qac;have M:=Ag (isAll:=av ks) (es:=es) (ch:=ch) Qac;obtain⟨TR,_,_,_,V⟩:=Qo c.kd (c.tree (MO c B I hm QaA)) n0 I B j H;have o:=MO c B I hm QaA;have u:=c.tree o;obtain⟨f1,f2⟩:=Qm (ks:=ks) r s e j;obtain⟨g1,g2⟩:=Ky (ks:=ks) r s e j;obtain⟨c1,R,P⟩:=Qn u j H;have f:∀x∈oS ks es QaX QaA,0<=x/\x<es.length:=λx k=>e x (Em.1 k).1;have t:(a.filter (oU ws)).map (gS ws)=q8 ws a:=rfl;have v:∀i∈a.filter (oU ws),QcZ/\QdH/\(0<=(gS ws i).ka/\(gS ws i).ka<es.length)/\t8 (gS ws i).mode/\(iU ks es Qbk=-1\/iU ks es Qbk∈bL es (gS ws i).ka.toNat):=λi hi=>by
  have h1:=(k3.1 hi).1;have w:=q i h1;have g:=H Qbk (j0.2 ⟨i,hi,rfl⟩);exact⟨(m i h1).1,w.1,g.1,w.2.2.1,g.up⟩
 unfold HN;generalize U:iH Q1 es ch Qac=ops at *;refine LN (p:=λd=>oU ws d.yc) (gg:=λd=>T.sh d) E.g E.lC QdN (dF (v_ E.nW.1)) QaG (λC s0 K f0 J d hd=>?avi) (l0 (cL WE)) ?rest (by exact jj rfl) (sC ⟨_,rfl⟩)
 case avi=>
  obtain⟨i,hi,rfl⟩:=j0.1 hd;exact⟨vt (c_ (bs,nm,dY ks es ss,is.map .tup,os.map .tup,ws,i) (jy E.uI) sH (ah (gH 1) (ah (kP 0) aJ)) (by dsimp only [iz];exact(m i hi).1) rfl),λ_=>(v_ (BH 0))⟩
 case rest=>
 have G:(((a.map D.int).filter (λd=>oU ws d.yc)).map λd=>T.sh d)=((a.filter (oU ws)).map D.int).map T.sh:=by
  rw[so,kq];exact(kq ..).symm
 rw[G];refine aO E.g E.rN (ef (ds:=(oS ks es ops QaA).map .int) (aU (c_ (bs,nm,ks,es,ss,is.map .tup,os.map .tup,ws,ops,a.filter (oU ws)) E.U9 E.zG (ah QaJ (ah (aH E.cY) (ah (vL E.lC.1) aJ))) (by dsimp only [pC];exact⟨r,Wc,c.kl,Wc,e,λi hi=>⟨(v i hi).1,(v i hi).2.1,(v i hi).2.2.1⟩,by rw[t];lia⟩) (aM _)) rfl)) ?_;have O:((oS ks es ops QaA).filter (lM ks es ws)).length<=es.length:=kM (pz _ _) g2;refine aO E.g E.cJ (aU (c_ (ks,es,ss,mem,ops,(oS ks es ops QaA).filter (lM ks es ws)) E.NW E.uT (ah Qcc (ah (aH E.di) (ah (aH E.cY) (ah (ck (aU (mR (p:=λd=>lM ks es ws d.yc) (g:=λd=>T.sh d) QdN E.g.calm (dF (v_ E.rN.1)) QaG (λC s0 K f0 J d hd=>?amu) (l0 (cL WE))) (t2:=.lst _) (by
  refine congrArg T.lst ?_;rw[so,kq];exact(List.map_map ..).symm))) aJ)))) (by dsimp only [lD];exact⟨r,c.kl,hm.1,e,λx k=>f x (List.mem_filter.1 k).1⟩) (aM _)) (t2:=.lst (((Y5 ks es ws mem ops QaA).map .int).map T.sh)) rfl) ?_
 case amu=>
  obtain⟨i,hi,rfl⟩:=j0.1 hd;exact⟨vt (c_ (bs,nm,ks,es,ss,is.map .tup,os.map .tup,ws,i) (jy E.Hy) sH (ah (gH 1) (ah (kP 0) aJ)) (by dsimp only [qw];exact⟨r,c.kl,Wc,(f i hi).1,(f i hi).2⟩) rfl),λ_=>(v_ (BH 0))⟩
 generalize Z:Y5 ks es ws mem ops QaA=bh at *;refine aO E.g E.uz (aU (c_ (bs,nm,ks,es,ss,is.map .tup,os.map .tup,ws,bh,a.filter (oU ws)) E.Jj E.rQ (ah QaJ (ah (vL E.cJ.1) (ah (vL E.lC.1) aJ))) (by dsimp only [iW];exact⟨⟨n1,c.kl,c.sl,o.1,c.kinds⟩,u,v,by rw[t];lia⟩) (aM _)) rfl) ?_;obtain⟨Y,z⟩:=Mr (DK:=lM ks es ws) (mem:=mem) (bh:=bh) c.or (oS ks es ops QaA);obtain⟨W,y⟩:=Ms (n:=es.length) q;have S:(yR ks es ss bh QaA).length<=es.length:=by unfold yR;rw[pP];exact R
 have A:∀x∈yR ks es ss bh QaA,0<=x/\x<is.length:=λx k=>by
  rw[c.il];exact(P x (pN.1 k)).1
 obtain⟨i1,i2⟩:=Ga c.ir (yR ks es ss bh QaA);refine aO E.g E.bR (zW (ck (zW (ck (aU (c_ (bs,nm,ks,es,ss,is.map .tup,os,ws,oS ks es ops QaA,mem,bh) E.Va E.zH (ah QaJ (ah (aH E.rN) (ah (aH E.di) (ah (vL E.cJ.1) aJ)))) (by dsimp only [pH];exact⟨r,Wc,c.kl,c.ol,hm.1,o.1,c.or,Wc,f⟩) (dR z)) (t2:=.lst _) rfl))
  (ck (aU (c_ (bs,nm,dY ks es ss,is.map .tup,os.map .tup,ws,es.length,a) E.Vb E.zI (ah QaJ (ah (aH E.nW) aJ)) (by dsimp only [pJ];exact⟨Wc,λi hi=>⟨(m i hi).1,q i hi⟩⟩) (dR y)) (t2:=.lst ((Mq ws a).map T.sh)) rfl)) z y (Nat.le_of_lt (cL Wc))))
  (ck (aU (c_ (bs,nm,dY ks es ss,is,os.map .tup,ws.map iS,yR ks es ss bh QaA) E.Ck E.sX (ah QaJ (ah (vL E.uz.1) aJ)) (by dsimp only [nB];exact⟨c.ir,Wc,A⟩) (dR i2)) rfl)) (Qp z y) i2 (Nat.le_of_lt (cL (by rw[List.length_append];lia)))) ?_
 have F:((((ops.map D.int).filter (λd=>!decide (d.yc∈oS ks es ops QaA))).map λd=>T.sh d))=((ops.filter Qeu).map D.int).map T.sh:=by
  rw[so,kq];exact(kq ..).symm
 have N:(ops.filter Qeu).length<=ops.length:=pz _ _;refine bu (lQ (ay (vM E.bR.1) (ay (aU (tW E.gK (ck (aU (zW (Yc:=(yR ks es ss bh QaA).map .int) (ck (aU (mR (g:=λd=>T.sh d) (bI (.cons E.rN.1 (.inl E.am0) .nil) We) E.g.calm (dF (v_ E.cY.1)) QaG (λC s0 K f0 J d hd=>?amv) (l0 (cL WE))) (congrArg T.lst F))) (vL E.uz.1) (bz _) (bz _) (l0 (cL (by simp only[e7];lia)))) (t2:=.lst (((ops.filter Qeu++yR ks es ss bh QaA).map .int).map T.sh)) (by rw[← kc]))) Wc E.gJ) rfl) (ay (vM E.cJ.1) aQ))) aL) rfl
 case amv=>
  obtain⟨i,hi,rfl⟩:=j0.1 hd;exact⟨(Lz (l:=oS ks es ops QaA) (kP 0) (gH 1) rfl rfl).1,λ_=>(v_ (BH 0))⟩
def eN:RM (ai EJ) ([("chart",.cell),("opens",c9),("memory",c9),("ways",c9),("going",c9),("gone",.cell),("behind",c9),("come",c9),("script",c9),("all_left",bW),("remembered",bW),("all_entered",bW),("out_rows",bW),("way_rows",bW),("in_rows",bW),("sorted",bW)])=true:=by decide +kernel
def adV:c6 Xo ["chart","opens","memory","ways"] (ai EJ):=jN
abbrev lE:=inClass (top 63) 1
abbrev lF:=CH×Pl×BA×AT×DO×Str
noncomputable abbrev qT:At:=["self","sign","opens","ways","move"]
def jF:lF->BA:=λ(c,p,pa,bs,ex,sg)=>[.ins "NestRun" (sO c.d (yS p) pa bs ex),.str sg]
def gV:lF->Prop:=λ(c,p,pa,bs,ex,sg)=>c.Ok/\Gd c p/\bs.length=c.bs.length
def jG:lF->T:=λ(c,p,pa,bs,ex,sg)=>(.tup [.lst (((goN c p sg bs).1.map It.d).map T.sh),.tup [.lst (((goN c p sg bs).2.1.map .int).map T.sh),.lst (((goN c p sg bs).2.2.map .int).map T.sh)]]:T)
structure A8(X:Cx)(CL:BC):Prop extends bD X where
 bA:Ln X 0 "self"
 jq:Ln X 1 "sign"
 cY:Ln X 2 "opens"
 nW:Ln X 3 "ways"
 NX:Ln X 4 "move"
 NZ:Gl X "kept"
 N1:Gl X "picks"
 N2:Gl X "moved"
 CF:Fc X CL "kept" 5 2 A0 A1 A2
 ahG:Fc X CL "picks" 4 4 Cw Cy xU
 ahH:Fc X CL "moved" 46 4 xW xX tG
 aA:jh X.K QE
 ao:jh X.K Q2
 bJ:aC X.K Q2 "place"
 iX:aC X.K Q2 "chart"
 cU:aC X.K QE "boxes"
 bw:aC X.K Q2 "boxes"
theorem A9(E:A8 X CL) :
  lV X CL b lE qT jF gV jG:=by
 rintro⟨c,p,pa,bs,ex,sg⟩ h;obtain⟨j,l,r⟩:=h;have go:=Mz j l sg bs;have hs:=go.s;have hd:=go.d;obtain⟨ch,⟨c1,u⟩,e,t⟩:=l;have a:=j.k;have n0:=a.n0;have n1:=a.n1;have wl:=a.wl;have i:∀x∈p.1,0<=x/\x<c.es.length:=e▸λx m=>Qq n0 m;have n:p.1.length<=c.es.length:=by have:=Ag (isAll:=av c.ks) (es:=c.es) (ch:=ch) (c.es.length-1);lia
 have hpl:=WQ c.ws p.1 bs sg c.es (Y9 c.ks p.1);have o:(Y9 c.ks p.1).length<=p.1.length:=pz _ _;have f:∀k∈OW _ p.1 bs sg c.es (Y9 c.ks p.1),0<=k/\k<c.ws.length:=al2;show eW X CL b _ _ {nx:=_,rt:=λv _=>v=T.tup _,bk:=_,ct:=_};rw[hd];apply aO E.g E.cY (nU Qd2 aj yM);refine aO E.g E.nW (aU (c_ (c.bs.map An,c.nm,c.ks,c.es,c.ss,c.is.map _,c.os.map _,c.ws,OW _ p.1 bs sg _ _) E.CF E.NZ (ah (cH E.ao E.iX (aH E.bA) BR) (ah (ck (aU (c_ (c.bs.map An,c.nm,c.ks,c.es,c.ss,c.is.map _,c.os.map _,c.ws,p.1,bs,sg) E.ahG E.N1 (ah (cH E.ao E.iX (aH E.bA) BR) (ah (aH E.cY) (ah (cH E.ao E.bw (aH E.bA) xD) (ah (aH E.jq) aJ)))) (⟨a.pre.1,Wc,a.kl,Wc,Wc,i,j.q bs r⟩) (aM _)) rfl)) aJ)) (⟨a.pre.1,Wc,a.kl,Wc,f,λw hw=>by have:=a.wo w hw;exact⟨this.1,by obtain z|z:=this.2.1<;>lia⟩⟩) (aM _)) rfl) ?_;have em:tG (c.bs.map An,c.nm,c.ks,c.es,c.ss,c.is,c.os,c.ws,ch,p.2,nv c p.1 bs sg)=T.tup [.lst ((ui c p Qcm).map T.sh),.lst (((toN c p Qcm).1.map .int).map T.sh),.lst (((toN c p Qcm).2.map .int).map T.sh)]:=by unfold ui toN;rw[e];rfl
 refine aO E.g E.NX (aU (c_ (c.bs.map An,c.nm,c.ks,c.es,c.ss,c.is,c.os,c.ws,ch,p.2,nv c p.1 bs sg) E.ahH E.N2 (ah (cH E.ao E.iX (aH E.bA) BR) (ah (C2 (aH E.cY) (by rw[e])) (ah (bC (cH E.ao E.bJ (aH E.bA) sP) aj FL) (ah (vL E.nW.1) aJ)))) (⟨a,⟨c1,u⟩,t,e▸hs⟩) (by rw[em,T.clean,T.cW,T.cW,T.cW,aM,aM,dR (hd▸eB Mu _)];rfl)) em) ?_;exact bu (lQ (ay Qer (ay (lQ (ay Qer (ay Qer aQ)) aL) aQ)) aL) rfl
def cE:FG qT ["self","sign"] ["kept","picks","moved"] (ai lE):=fG
abbrev qy:=inClass (top 61) 2
abbrev lG:=Addr×CH×Pl×B1×AT×EM×At
abbrev wJ:At:=["self","called","waiting","rows","many","sign","going","step"]
def iB:lG->B1:=λ(y,c,p,pt,bs,eo,cs)=>[.pin y (.ins "NestRun" (jI c.d (yS p) pt bs (Et eo))),.sh (.lst (cs.map .str))]
def iC:lG->B1:=λ(y,c,p,pt,bs,eo,cs)=>[.pin y (.ins "NestRun" (jI c.d (yS (Uc c (cs,p,bs))) pt (Ud c (cs,p,bs)) (Et eo))),.sh (.lst (cs.map .str))]
def iD:lG->Prop:=λ(y,c,p,pt,bs,eo,cs)=>c.Ok/\Gd c p/\bs.length=c.bs.length/\cs.length<=1000
def iE:lG->T:=λ(y,c,p,pt,bs,eo,cs)=>(.lst ((Gj c (cs,p,bs)).map T.sh):T)
structure HB(X:Cx)(CL:BC):Prop extends bD X where
 bA:Ln X 0 "self"
 lu:Ln X 1 "called"
 pS:Ln X 2 "waiting"
 cC:Ln X 3 "rows"
 dH:Ln X 4 "many"
 jq:Ln X 5 "sign"
 lC:Ln X 6 "going"
 fN:Ln X 7 "step"
 bU:Gl X "list"
 N3:Gl X "MOST_SIGNS"
 nO:Gl X "performed"
 g8:Gl X "len"
 bM:lJ X "list"
 N4:∃u,X.mg "MOST_SIGNS" = some (.int 8 u)
 wK:Fc X CL "performed" 5 2 jL i7 mW
 g9:lJ X "len"
 Ba:Fq X CL "NestRun" "step_at" 47 2 jF gV jG
 aA:jh X.K QE
 ao:jh X.K Q2
 bJ:aC X.K Q2 "place"
 cU:aC X.K QE "boxes"
 bw:aC X.K Q2 "boxes"
theorem HC(E:HB X CL) :
  oT X CL b qy wJ iB iD iE iC:=by
 rintro⟨y,c,p,pt,bs,eo,cs⟩ h;dsimp only [iD,iB,iE,iC]at h ⊢;obtain⟨q,L,K,N⟩:=h;refine aO E.g E.pS (jk E.bM (v_ E.lu.1) E.bU aX) ?_;refine aO E.g E.cC (cj (tl:=[]) aQ aL) ?_;refine aO E.g E.dH aZ ?_;refine Lx E.g (λk δ=>∃(j:Nat) (D C B:Option T),k+j=8/\δ=[some (.pin y (.ins "NestRun" (jI c.d (yS (Av c j (cs,p,bs)).2.2.1) pt (Av c j (cs,p,bs)).2.2.2 (Et eo)))),some _,some (.lst (((Av c j (cs,p,bs)).2.1.map .str).map T.sh)),some (.lst ((Av c j (cs,p,bs)).1.map T.sh)),some Qce,D,C,B]) 8 ⟨0,_,_,_,rfl,rfl⟩ ?loop
 case loop=>
  rintro k δ ⟨j,D,C,B,hm,rfl⟩;obtain⟨k1,k2,f,i,F⟩:=Gm q (cs:=cs) L K j;have v:=@Qy c (cs,p,bs) j;have e:=@Gk c (cs,p,bs) j;have r:(Av c j (cs,p,bs)).2.1=[]\/j=8->Av c 8 (cs,p,bs)=Av c j (cs,p,bs):=λz=>by
   obtain z|z:=z
   .have:=v z (8-j)
    rwa [show j+(8-j)=8 by lia]at this
   .rw[z]
  unfold Ud Uc Gj;generalize I:Av c j (cs,p,bs)=s at k1 k2 i F f r e ⊢;obtain⟨rs,w,u,cur⟩:=s;dsimp only at k1 k2 i F f r ⊢;refine⟨_,_,ve (jC (Z8 (vL E.pS.1)) (λ_=>jM (Ka (aH E.dH) (aE (eG E.N4 E.N3))).1)),λl=>?_,λl=>?_⟩
  .rw[lx]at l;obtain⟨o,J⟩:=l;cases w with
   | nil=>cases o
   | cons sg w=>
    have A:=e (rs:=rs) (sg:=sg) (w:=w) (a:=u) (bs:=cur) rfl;obtain⟨_,_,G,s1,gn⟩:=Mz q f sg cur;generalize M:goN c u sg cur=gg at G s1 gn A;have s3:(dm gg.1).length<=gg.1.length:=yl _ _;rw[lr]at k2;refine alF E.g E.dH rfl aj ?_;refine gC E.g E.jq (abX (t:=.sh (.str sg)) (bE E.pS.1 rfl) rfl rfl) ?_;refine aO E.g E.lC (jA (d:=.tup [.lst (gg.1.map It.d),yS gg.2]) (aU (q_ (c,u,T.cQ pt,cur,RV eo,sg) E.Ba (vE E.bA.1 rfl BU) (Yw We We We We We) (ah (aH E.jq) aJ) rfl (by dsimp only [gV];exact⟨q,f,i⟩) (by show T.cW _=true;rw[T.cW,T.cW,T.cW,dR (eB Mu _),T.clean,T.cW,T.cW,T.cW,aM,aM];rfl)) (t2:=.tup [.lst ((gg.1.map It.d).map T.sh),.tup [.lst ((gg.2.1.map .int).map T.sh),.lst ((gg.2.2.map .int).map T.sh)]]) (by rw[← M];rfl)) (by rw[T.fB,T.cQ,T.cQ,T.cQ,cz,T.fB,T.cQ,T.cQ,T.cQ,cz,cz];rfl)) ?_;refine aO E.g E.fN (aU (c_ (true,gg.1,cur) E.wK E.nO (ah (bC (aH E.lC) aj yM) (ah (cH E.ao E.bw (vE E.bA.1 rfl BU) xD) aJ)) (by dsimp only [i7];exact⟨Wc,λx H=>Yf (G x H) i⟩) (Ge (bz _) (Ep _ _) (eB Qcq _))) (t2:=.tup [.lst _,.lst _,.lst _]) rfl) ?_;refine ja E.ao E.bJ E.bA.1 (nU (v_ E.lC.1) aj FL).m rfl (Au _ _ _ _ _) ?_;rw[T7];refine ja E.ao E.bw E.bA.1 (ef QbG).m rfl (Au _ _ _ _ _) ?_;rw[T8];refine jH E.cC.1 rfl (iJ (aG eS (aG (v_ E.jq.1) fL)) aL) rfl (by rw[e7];lia) ?_;refine nV E.cC.1 rfl (ck QbG) (Ep _ _) rfl (by simp[Ao];lia) ?_;refine nV E.pS.1 rfl (ck QbG) (vA _) rfl WE (ak ⟨k-1,Wc,j+1,some (.sh (.str sg)),some (.sh (.tup [.lst (gg.1.map It.d),yS gg.2])),some (.tup [.sh .any,.sh .any,.sh .any]),Wc,?_⟩);rw[A];dsimp only;rw[kc,kc,kc,kx,jw];rfl
  .have hz:w=[]\/j=8:=by
    cases w with
    | nil=>exact .inl rfl
    | cons sg w=>
     right;have:=l6 ((Bool.true_and _).symm.trans l);lia
   rw[r hz];dsimp only;refine fQ (Z8 (vL E.pS.1)) (λn=>?_) (λn=>ak ?_)
   .have hw:w≠[]:=by
     rintro rfl;cases n
    rw[dP hw];refine jH E.cC.1 rfl (iJ (aG eS (aG (aU (Ea E.g9 (vL E.pS.1) E.g8) (by rw[e7])) fL)) aL) rfl (by rw[e7];lia) (ak (bu (vM E.cC.1) ⟨?_,kO (ds:=[_])⟩));rw[kc];rfl
   .have hw:w=[]:=by
     cases w with
     | nil=>rfl
     | cons sg w=>cases n
    subst hw;rw[dX rfl,km];exact bu (vM E.cC.1) ⟨rfl,kO (ds:=[_])⟩
def bV:FG wJ ["self","called"] ["list","MOST_SIGNS","performed","len"] (ai qy):=fG
abbrev rR:=inClass (top 61) 0
abbrev m7:=Addr×CH×Pl×AT×List It
noncomputable abbrev yq:At:=["self","boxes","place","script","step"]
def iY:m7->B1:=λ(y,c,p,bs,xs)=>[.pin y (.ins "NestRun" [("chart",.sh c.d)]),.sh Qbh,.sh (yS p),.sh (.lst (xs.map It.d))]
def iZ:m7->B1:=λ(y,c,p,bs,xs)=>[.pin y (.ins "NestRun" (Mx c.d (yS (Uc c (dm xs,p,xs.foldl It.af bs))) [] (Ud c (dm xs,p,xs.foldl It.af bs)) (Et (some ((Eo xs bs).map J.d++Gj c (dm xs,p,xs.foldl It.af bs)))))),.sh Qbh,.sh (yS p),.sh (.lst (xs.map It.d))]
def oz:m7->Prop:=λ(y,c,p,bs,xs)=>c.Ok/\Gd c p/\bs.length=c.bs.length/\xs.length<=200/\(∀x∈xs,oP c.bs.length x)
noncomputable def jX:m7->T:=λ(y,c,p,bs,xs)=>(.sh .non:T)
structure Jk(X:Cx)(CL:BC):Prop extends bD X where
 bA:Ln X 0 "self"
 cB:Ln X 1 "boxes"
 jB:Ln X 2 "place"
 bR:Ln X 3 "script"
 fN:Ln X 4 "step"
 nO:Gl X "performed"
 wK:Fc X CL "performed" 5 2 jL i7 mW
 qz:wx X CL "NestRun" "dealt" 48 2 iB iD iE iC
 aA:jh X.K QE
 ao:jh X.K Q2
 bJ:aC X.K Q2 "place"
 dh:aC X.K Q2 "past"
 cU:aC X.K QE "boxes"
 bw:aC X.K Q2 "boxes"
 jt:aC X.K Q2 "first_rows"
theorem Jl(E:Jk X CL) :
  oT X CL b rR yq iY oz jX iZ:=by
 rintro⟨y,c,p,bs,xs⟩ h;dsimp [iY,jX,iZ]at h ⊢;obtain⟨i,hf,f,k,e⟩:=h;have l:(dm xs).length<=xs.length:=yl _ _;have j:=ud xs bs;have a:=j.trans f;obtain⟨d1,d2⟩:=Ug i (cs:=dm xs) hf a;apply ja E.ao E.bJ E.bA.1 (v_ E.jB.1).m rfl QaV;rw[show yF _ _ _=[(("chart":Str),T.sh c.d),(("place"),T.sh _)] by rfl];apply ja E.ao E.dh E.bA.1 (cj aQ aL).m rfl QaV;rw[show yF _ _ _=[(("chart":Str),T.sh c.d),(("place"),T.sh _),(("past"),T.lst [])] by rfl];refine aO E.g E.fN (aU (c_ (true,xs,bs) E.wK E.nO (ah Qby QbZ) (⟨Wc,λx hm=>Yf (e x hm) f⟩) (Ge (bz _) (Ep _ _) (eB Qcq _))) rfl) ?_;apply ja E.ao E.bw E.bA.1 (ef QbG).m rfl QaV;rw[show yF _ _ _=Mx c.d _ [] _ (Et none) by rfl];generalize xs.foldl _ bs=cur at j a d1 d2 ⊢;refine ja E.ao E.jt E.bA.1 (agg QbG (qM (dl:=[.lst _]) (λz=>(z,c,p,[],cur,none,dm xs)) (.pin y (.ins _ (Mx c.d _ [] _ _))) E.qz E.bA.1 (.pin rfl) (ay (ef QbG) aQ) (λz _=>⟨i,hf,a,Wc⟩) (λz _=>rfl) (λz hz=>by subst hz;exact⟨rfl,.inr rfl,trivial⟩) (agS We We We We We) (λz hz=>by rfl)) (by rw[mv,e7,Ao];lia)) rfl (acV _ _ _ _ _) (ak ⟨rfl,?_⟩);exact kO (ds:=[_,_,_])
def fq:FG yq ["self","boxes","place","script"] ["performed"] (ai rR):=fG
abbrev qA:=inClass (top 63) 0
abbrev qB:=CH
abbrev wL:At:=["self","chart","start"]
def tH:qB->BA:=λc=>[c.d]
def tK:qB->Prop:=λc=>c.Ok
def tL:qB->BN:=λc=>(Mx c.d (yS (Uc c (dm (vN c),MA c,(vN c).foldl It.af (c.bs.map (·.2))))) [] (Ud c (dm (vN c),MA c,(vN c).foldl It.af (c.bs.map (·.2)))) (Et (some ((Eo (vN c) (c.bs.map (·.2))).map J.d++Gj c (dm (vN c),MA c,(vN c).foldl It.af (c.bs.map (·.2)))))):BN)
structure HD(X:Cx)(CL:BC):Prop extends bD X where
 bA:Ln X 0 "self"
 aK:Ln X 1 "chart"
 uw:Ln X 2 "start"
 N5:Gl X "begun"
 adW:Gl X "Runner"
 HF:Gl X "firsts"
 ahI:Fc X CL "begun" 44 1 Ci Cj xQ
 adX:Fc X CL "firsts" 1 1 za uA uB
 Jm:FkM X CL "Runner" "__init__" 49 4 iY oz jX iZ
 ao:jh X.K Q2
 iX:aC X.K Q2 "chart"
def HG(E:HD X CL)(c:CH)(y:Addr)(h:c.Ok) :
  eW X CL b (d9 qA) (Sy wL y "NestRun" [c.d]) {nx:=λδ=>δ[0]? = some (some (.pin y (.ins "NestRun" (Mx c.d (yS (Uc c (dm (vN c),MA c,(vN c).foldl It.af (c.bs.map (·.2))))) [] (Ud c (dm (vN c),MA c,(vN c).foldl It.af (c.bs.map (·.2)))) (Et (some ((Eo (vN c) (c.bs.map (·.2))).map J.d++Gj c (dm (vN c),MA c,(vN c).foldl It.af (c.bs.map (·.2)))))))))),rt:=λ_ _=>False}:=by
 have e:=h;have a:=e.k;obtain⟨g0,i1,i2,f⟩:=Zp e;apply ja E.ao E.iX E.bA.1 (v_ E.aK.1).m rfl QaV;apply aO E.g E.uw (jA (d:=.tup [.lst ((vN c).map _),.lst _,.lst _]) (aU (c_ (c.bs.map An,c.nm,c.ks,c.es,c.ss,c.is,c.os.map _,c.ws.map iS) E.ahI E.N5 (ah QaJ aJ) (⟨e.nl,a.n0,a.n1,a.kl,a.sl,a.il,a.ir,a.kinds,Qz e⟩) (by show T.cW _=true;rw[T.cW,T.cW,T.cW,aM,aM,dR (i1▸eB Mu _)];rfl)) (t2:=.tup [.lst ((inR _ (MA c).1).map _),.lst _,.lst _]) rfl) (by rw[i1,T.fB,T.cQ,T.cQ,T.cQ,T.cQ,cz,cz,cz]));have i:(c.bs.map (·.2)).length=c.bs.length:=e7 ..;refine Ef (kM1 (λz=>(z,c,MA c,c.bs.map _,vN c)) _
  E.Jm E.adW (z8 E.bA.1 rfl (qL (ef (c_ (c.bs,c.nm,dY _ _ _,c.is.map _,c.os.map _,c.ws.map iS) E.adX E.HF (ah QaJ aJ) e.bl (aM _))) (qL (iJ (aG (nU (v_ E.uw.1) aj FL) (aG (nU (v_ E.uw.1) aj zv) fL)) aL) (qL (nU (v_ E.uw.1) aj yM) tX))))
  (λz _=>⟨e,g0,i,f,i2⟩) (λz _=>rfl) (λz hz=>by cases hz.1;exact⟨rfl,.inr rfl,trivial⟩) (λz hz=>by cases hz.1;rfl)) (ak rfl)
def dZ:FG wL ["self","chart"] ["begun","Runner","firsts"] (ai qA):=fG
abbrev rS:=inClass (top 61) 4
abbrev m8:=Addr×D×D×List WT×WT×AT×EM
abbrev yr:At:=["self","last"]
def oA:m8->B1:=λ(y,cd,pl,l,q,bs,eo)=>[.pin y (.ins "NestRun" (jI cd pl (kQ (l++[q])) bs (Et eo)))]
def oB:m8->B1:=λ(y,cd,pl,l,q,bs,eo)=>[.pin y (.ins "NestRun" (jI cd (yS q.1) (kQ l) q.2.1 (Et eo)))]
def oE:m8->Prop:=λ(y,cd,pl,l,q,bs,eo)=>l.length<=1000
noncomputable def oF:m8->T:=λ(y,cd,pl,l,q,bs,eo)=>(.lst (q.2.2.map T.sh):T)
structure Jo(X:Cx)(CL:BC):Prop extends bD X where
 bA:Ln X 0 "self"
 N6:Ln X 1 "last"
 g8:Gl X "len"
 arj:Gl X "NoStep"
 g9:lJ X "len"
 aA:jh X.K QE
 ao:jh X.K Q2
 bJ:aC X.K Q2 "place"
 cU:aC X.K QE "boxes"
 bw:aC X.K Q2 "boxes"
 dh:aC X.K Q2 "past"
theorem Jp(E:Jo X CL) :
  oT X CL b rS yr oA oE oF oB:=by
 rintro⟨y,cd,pl,l,q,bs,eo⟩ h;have hpl:(kQ (l++[q])).length=l.length+1:=by unfold kQ;rw[e7,kn];rfl
 have a:(T.cQ (kQ (l++[q]))).length=l.length+1:=by rw[Pu];exact hpl
 refine fQ (fK (aE (jz a E.g9 (cH E.ao E.dh (vE E.bA.1 rfl BU) Gh) E.g8)) aj).1 (λc=>absurd (ko c) Wc) (λ_=>ak ?_);refine gC E.g E.N6 (Ws (p:=[.fld _]) (LZ E.ao E.dh (bE E.bA.1 rfl) rfl rfl BV) rfl (by rw[BW,Gi])) ?_;exact ja E.ao E.bJ E.bA.1 (xq (iM (bE E.N6.1 rfl) rfl rfl aj rfl) rfl rfl).m rfl (Au _ _ _ _ _) (ja E.ao E.bw E.bA.1 (xq (iM (bE E.N6.1 rfl) rfl rfl aj rfl) rfl rfl).m rfl (Au _ _ _ _ _) (bu (jb (iM (bE E.N6.1 rfl) rfl rfl aj rfl) rfl rfl) ⟨rfl,kO (ds:=[])⟩))
def jv:FG yr ["self"] ["len","NoStep"] (ai rS):=fG
abbrev rT:=inClass (top 61) 3
abbrev m9:=Addr×CH×Pl×List WT×AT×EM×Str
noncomputable abbrev yt:At:=["self","sign","place","boxes","rows"]
def jY:m9->B1:=λ(y,c,p,l,bs,eo,sg)=>[.pin y (.ins "NestRun" (jI c.d (yS p) (kQ l) bs (Et eo))),.sh (.str sg)]
def jZ:m9->B1:=λ(y,c,p,l,bs,eo,sg)=>[.pin y (.ins "NestRun" (jI c.d (yS (Uc c ([sg],p,bs))) (kQ (l++[(p,bs,Gj c ([sg],p,bs))])) (Ud c ([sg],p,bs)) (Et eo))),.sh (.str sg)]
def oG:m9->Prop:=λ(y,c,p,l,bs,eo,sg)=>c.Ok/\Gd c p/\bs.length=c.bs.length/\l.length<=1000
def j3:m9->T:=λ(y,c,p,l,bs,eo,sg)=>(.lst ((Gj c ([sg],p,bs)).map T.sh):T)
structure Jq(X:Cx)(CL:BC):Prop extends bD X where
 bA:Ln X 0 "self"
 jq:Ln X 1 "sign"
 jB:Ln X 2 "place"
 cB:Ln X 3 "boxes"
 cC:Ln X 4 "rows"
 bU:Gl X "list"
 bM:lJ X "list"
 qz:wx X CL "NestRun" "dealt" 48 2 iB iD iE iC
 aA:jh X.K QE
 ao:jh X.K Q2
 bJ:aC X.K Q2 "place"
 cU:aC X.K QE "boxes"
 bw:aC X.K Q2 "boxes"
 dh:aC X.K Q2 "past"
theorem Jr(E:Jq X CL) :
  oT X CL b rT yt jY oG j3 jZ:=by
 rintro⟨y,c,p,l,bs,eo,sg⟩ h;dsimp [jY,j3,jZ]at h ⊢;obtain⟨f,e,d,a⟩:=h;obtain⟨_,j⟩:=Ug f (cs:=[sg]) e d;refine aO E.g E.jB (xq (LZ E.ao E.bJ (bE E.bA.1 rfl) rfl rfl T5) rfl T9) ?_;refine aO E.g E.cB (xq (LZ E.ao E.bw (bE E.bA.1 rfl) rfl rfl T6) rfl Ua) ?_;refine gC E.g E.cC (qM (dl:=[.lst [.str sg]]) (λz=>(z,c,p,kQ l,bs,eo,[sg])) _ E.qz E.bA.1 (.pin rfl) (ay (ef (cj (ay (v_ E.jq.1) aQ) aL)) aQ) (λz _=>⟨f,e,d,Wm⟩) (λz _=>rfl) (λz hz=>by subst hz;exact⟨rfl,.inr rfl,trivial⟩) (Eu We We We We We) (λz hz=>by rfl)) ?_;rw[Gi];generalize Gj c _=fr at j ⊢;have hpl:(kQ l).length<=1000:=by unfold kQ;rw[e7];exact a
 generalize kQ l=pt at hpl ⊢;refine L6 (i:=4) rfl λz=>?_;apply yK (p:=[.fld _]) (LZ E.ao E.dh (bE E.bA.1 rfl) rfl rfl BV) rfl BW (lQ (ay (v_ E.jB.1) (ay (v_ E.cB.1) (ay (ab8 E.cC.1 rfl) aQ))) aL) rfl BW Wc;rw[Ub];exact bu (ap9 (δ2:=[some _,some _,some _,some _,some _]) (ab9 (i:=0) _ (e9 E.bM (YT (i:=0) E.cC.1 rfl rfl KN (cz fr)) j E.bU aX) rfl KN) (by rw[Zd];rfl)) ⟨rfl,kO (ds:=[_])⟩
def gA:FG yt ["self","sign"] ["list"] (ai rT):=fG
abbrev S8:=Pl×AT×List WT
def Rc(c:CH)(x:S8)(sg:Str):S8:=(Uc c ([sg],x.1,x.2.1),Ud c ([sg],x.1,x.2.1),x.2.2++[(x.1,x.2.1,Gj c ([sg],x.1,x.2.1))])
def HE(c:CH):S8:=(Uc c (dm (vN c),MA c,(vN c).foldl It.af (c.bs.map (·.2))),Ud c (dm (vN c),MA c,(vN c).foldl It.af (c.bs.map (·.2))),[])
def iF(c:CH)(s:At):S8:=s.foldl (Rc c) (HE c)
def HJ(c:CH):BA:=(Eo (vN c) (c.bs.map (·.2))).map J.d++Gj c (dm (vN c),MA c,(vN c).foldl It.af (c.bs.map (·.2)))
structure wt(c:CH)(x:S8):Prop where
 g:Gd c x.1
 b:x.2.1.length=c.bs.length
 q:∀q∈x.2.2,q.2.2.length<=4000/\∀d∈q.2.2,WU d
variable{cs:At}
def N7{c:CH}(a:c.Ok){p:Pl}{B:AT}(g:Gd c p)(b:B.length=c.bs.length)(hs:∀x∈cs,PyData.strOk x=true):Gd c (Uc c (cs,p,B))/\(Ud c (cs,p,B)).length=c.bs.length/\(Gj c (cs,p,B)).length<=4000/\∀d∈Gj c (cs,p,B),WU d:=by
 have d:=Gm a (cs:=cs) g b 8;exact⟨d.g,d.b,(Ug a g b).1,agU a g b hs⟩
theorem EK{c:CH}(a:c.Ok):wt c (HE c)/\(HJ c).length<=5000/\∀d∈HJ c,WU d:=by
 obtain⟨g0,i1,i2,i⟩:=Zp a;have g:(c.bs.map (·.2)).length=c.bs.length:=e7 ..;have h:((vN c).foldl It.af _).length=c.bs.length:=(ud _ _).trans g;obtain⟨d1,d2,f,b⟩:=N7 a g0 h (Qx i2);unfold HE HJ;have j:=Ao (vN c) (c.bs.map (·.2));have e:=Ue (c.bs.map (·.2)) i2;generalize Uc c _=A at d1 ⊢;generalize Ud c _=B at d2 ⊢;generalize Gj c _=r at f b ⊢;refine⟨⟨d1,d2,Wm ⟩,?_,λd hd=>?_⟩
 .simp;lia
 .obtain z|z:=i3.1 hd
  .exact e d z
  .exact b d z
theorem wt.step{c:CH}(e:c.Ok){x:S8}(h:wt c x)(hs:PyData.strOk sg=true):wt c (Rc c x sg):=by
 obtain⟨d1,d2,f⟩:=N7 e h.g h.b λx a=>j2.1 a▸hs;unfold Rc;generalize Uc c _=A at d1 ⊢;generalize Ud c _=B at d2 ⊢;refine⟨d1,d2,λq d=>?_⟩;obtain z|z:=i3.1 d
 .exact h.q q z
 .exact j2.1 z▸f
theorem Rf{c:CH}(a:c.Ok):∀(s:At) (x:S8),wt c x->(∀g∈s,PyData.strOk g=true)->wt c (s.foldl (Rc c) x)/\(s.foldl (Rc c) x).2.2.length=x.2.2.length+s.length
 | [],_,h,_=>⟨h,rfl⟩
 | g::s,x,h,hs=>by
  obtain⟨h1,h2⟩:=Rf a s _ (h.step a (hs g fX)) λz hz=>hs z (i8 _ hz);simp;refine⟨h1,h2.trans ?_⟩;have:(Rc c x g).2.2.length=x.2.2.length+1:=kn ..;lia
def adY(c:CH)(s:At)(g:Str):iF c (s++[g])=Rc c (iF c s) g:=by unfold iF;simp
abbrev R8:=CH×At
def HK(x:R8):T:=.ins "NestRun" (jI x.1.d (yS (iF x.1 x.2).1) (kQ (iF x.1 x.2).2.2) (iF x.1 x.2).2.1 (Et (some (HJ x.1))))
def p8(x:R8):D:=.ins "NestRun" (sO x.1.d (yS (iF x.1 x.2).1) (sU (iF x.1 x.2).2.2) (iF x.1 x.2).2.1 (RV (some (HJ x.1))))
def Zr(l:List WT):T.cQ (kQ l)=sU l:=by
 unfold kQ sU
 induction l with
 | nil=>rw[List.map_nil,List.map_nil,T.cQ]
 | cons q l a=>rw[kx,kx,T.cQ,a,T.fB,T.cQ,T.cQ,T.cQ,T.cQ,T.fB,T.fB,cz]
def N8(x:R8):(HK x).fB=p8 x:=by
 unfold HK p8;rw[Qw,Zr]
def Xp(c:CH):T.ins "NestRun" (Mx c.d (yS (Uc c (dm (vN c),MA c,(vN c).foldl It.af (c.bs.map (·.2))))) [] (Ud c (dm (vN c),MA c,(vN c).foldl It.af (c.bs.map (·.2)))) (Et (some ((Eo (vN c) (c.bs.map (·.2))).map J.d++Gj c (dm (vN c),MA c,(vN c).foldl It.af (c.bs.map (·.2)))))))=HK (c,[]):=by
 unfold HK iF;unfold HE HJ;generalize Uc c _=A;generalize Ud c _=B;rfl
noncomputable def RZ(x:R8):T:=.lst ((x.2.map .str).map T.sh)
noncomputable def xb(x:R8):D:=.lst (x.2.map .str)
def nz(x:R8):D:=He (j8 (HJ x.1) (iF x.1 x.2).2.2) (iF x.1 x.2).1 (iF x.1 x.2).2.1 (iF x.1 x.2).2.2.length
structure X8(n:Nat)(x:R8):Prop where
 c:x.1.Ok
 s:∀g∈x.2,PyData.strOk g=true
 l:x.2.length<=n
theorem X8.ns{x:R8}(h:X8 n x):wt x.1 (iF x.1 x.2)/\(iF x.1 x.2).2.2.length=x.2.length:=by
 obtain⟨h1,h2⟩:=Rf h.c x.2 _ (EK h.c).1 h.s;exact⟨h1,h2.trans (x5 _)⟩
theorem X8.rws{x:R8}(h:X8 n x):∀d∈j8 (HJ x.1) (iF x.1 x.2).2.2,WU d:=λd hd=>by
 obtain z|z:=i3.1 hd
 .exact(EK h.c).2.2 d z
 .obtain⟨q,a,z⟩:=l4.1 z;exact(h.ns.1.q q a).2 d z
theorem X8.look{x:R8}(h:X8 n x)(b:n<=63):D.bP (HJ x.1)=true/\(HJ x.1).length<=5000/\(iF x.1 x.2).2.2.length<=100/\∀q∈(iF x.1 x.2).2.2,q.2.2.length<=4000/\D.bP q.2.2=true:=by
 have i:=EK h.c;have l:=h.l;exact⟨vK i.2.2,i.2.1,by rw[h.ns.2];lia,λq a=>⟨(h.ns.1.q q a).1,vK (h.ns.1.q q a).2⟩⟩
theorem X8.dep{x:R8}(h:X8 n x)(k:Nat):qD (k+3) (nz x):=.lst λd hd=>by
 simp at hd;obtain rfl|rfl|rfl|rfl|rfl:=hd
 .exact WV h.rws
 .refine .tup λd hd=>?_;simp at hd;obtain rfl|rfl|rfl:=hd<;>exact sQ _ _
 .exact sQ _ _
 .exact sQ _ _
 .exact .int _ _
theorem X8.am5{x:R8}(h:X8 n x)(e:n<=63):(j8 (HJ x.1) (iF x.1 x.2).2.2).length<=500000:=by
 have i:=EK h.c;obtain⟨h1,h2⟩:=h.ns;have l:=h.l;have:∀l:List WT,(∀q∈l,q.2.2.length<=4000)->(l.flatMap (·.2.2)).length<=4000*l.length:=by
  intro l
  induction l with
  | nil=>intro _;simp
  | cons q l a=>
   intro h;rw[sv,kn,lr];have h1:=h q fX;have h2:=a λp d=>h p (i8 _ d);lia
 have:=this _ λq b=>(h1.q q b).1;unfold j8;rw[kn];lia
theorem X8.mono{m:Nat}{x:R8}(h:X8 n x)(e:n<=m):X8 m x:=⟨h.c,h.s,kM h.l e⟩
def Lu{l:B1}{c:Str}{fs:BN}(h:l[j]? = some QaF):T.jf [.ix j] (.lst l)=some QaF:=by
 show(l[j]?).bind _=_;rw[h];rfl
def Sr{l tl:B1}(h:l[j]? = some Qbi):T.jf [.ix j] (.lst l)=some Qbi:=by
 show(l[j]?).bind _=_;rw[h];rfl
def Vc{l:B1}{k u:T}(h:l[j]? = some k)(a:k.yJ u=u):T.kG [.ix j] u (.lst l)=.lst (l.set j u):=by
 show(match l[j]? with|some k=>T.yJ _ _|none=>.lst l)=_;rw[h];show T.lst (l.set j (k.yJ u))=_;rw[a]
theorem pk{β:Type}{f:α->β}{R:Q3}{x:α}(h:R[j]? = some x):(R.map f)[j]? = some (f x):=by simp_all
def So{l:B1}{c:Str}{fs:BN}(h:l[j]? = some QaF):T.jf [.ix j] (T.kG [.ix j] Qbv (.lst l))=some Qbv:=by
 rw[Vc h rfl];show((l.set j _)[j]?).bind _=_;rw[pE (lL.1 h).1];rfl
def Sk{l:B1}{c:Str}{fs:BN}{u:T}(h:l[j]? = some QaF):T.kG [.ix j] u (T.kG [.ix j] Qbv (.lst l))=.lst (l.set j u):=by
 rw[Vc h rfl,Vc (pE (lL.1 h).1) rfl,x4]
def HL(c:CH)(s:At)(g:Str):HK (c,s++[g])=.ins "NestRun" (jI c.d (yS (Uc c ([g],(iF c s).1,(iF c s).2.1))) (kQ ((iF c s).2.2++[((iF c s).1,(iF c s).2.1,Gj c ([g],(iF c s).1,(iF c s).2.1))])) (Ud c ([g],(iF c s).1,(iF c s).2.1)) (Et (some (HJ c)))):=by
 unfold HK;rw[adY];unfold Rc;simp
def N9(c:CH)(s:At):HK (c,s)=.ins "NestRun" (jI c.d (yS (iF c s).1) (kQ (iF c s).2.2) (iF c s).2.1 (Et (some (HJ c)))):=rfl
def adZ(c:CH)(s:At)(g:Str):T.lst ((s.map D.str).map T.sh++[T.sh (.str g)])=RZ (c,s++[g]):=by
 unfold RZ;rw[kc,kc];rfl
theorem E6{l:BA}:vf (l++[d]) (-1)=some d:=by
 unfold vf Dy;rw[dP Wl,dX WE];have:(-1+((l++[d]).length:Int)).toNat=l.length:=by simp;lia
 show(l++[d])[(-1+((l++[d]).length:Int)).toNat]? = _;rw[this,FF Wm,Nat.sub_self];rfl
def P8(d:D):Prop:=∃x,d=.tup [x,x]/\qD 60 x
noncomputable def Zt:At:=["go","go2","ago","gog"]
def ahL(k:Nat):PyData.strOk (Zt.getD k Str.empty)=true:=by
 have:∀x∈Zt,PyData.strOk x=true:=by decide +kernel
 simp;cases e:Zt[k]? with
 | none=>decide +kernel
 | some x=>exact this x (l3 e)
def ahM(ds:BA):(!PC (.lst ds) (.lst []))=!ds.isEmpty:=by cases ds<;>rfl
def Lo(h:qD 60 d):(!PC d d)=false:=by rw[PD h];rfl
def ad0{l:At}(h:∀g∈l,PyData.strOk g=true)(k:Nat):qD (k+1) (.lst (l.map .str)):=.lst λd hd=>by
 obtain⟨g,a,rfl⟩:=j0.1 hd;exact .str _ _ (h g a)
def ahN:qD 60 (.lst []):=.lst Wm
def fD8:D->BA
 | .ins _ [(_,b),(_,n),(_,.ins _ [(_,k),(_,e),(_,s)]),(_,i),(_,o),(_,w)]=>[b,n,i,o,w,k,e,s]
 | _=>[]
def u7(d:D):T:=.lst ((fD8 d).map λd=>T.lst ((OF d).map T.sh))
def EL(c:CH):(u7 c.d).fB=.lst (Dj c):=by
 show T.fB (.lst [.lst _,.lst _,.lst _,.lst _,.lst _,.lst _,.lst _,.lst _])=_;rw[T.fB,T.cQ,T.cQ,T.cQ,T.cQ,T.cQ,T.cQ,T.cQ,T.cQ];simp[cz];rfl
def OK{f:R8->T}{g:R8->D}(h:∀x,(f x).fB=g x)(R:List R8):T.fB (.lst (R.map f))=.lst (R.map g):=by
 rw[T.fB];congr 1
 induction R with
 | nil=>rfl
 | cons x R a=>rw[kx,T.cQ,h,a];rfl
structure RG(c0 c1:CH)(j:Nat)(R:List R8):Prop where
 m:R.map (·.1)=[c0,c0,c1]
 x:∀x∈R,X8 j x
variable{c1:CH}{R:List R8}
theorem RG.len{c0:CH}(h:RG c0 c1 j R):R.length=3:=by
 have:=congrArg List.length h.m
 rwa [e7]at this
theorem RG.at{c0:CH}(h:RG c0 c1 j R)(hi:i<3):∃x,R[i]? = some x/\X8 j x:=by
 have a:=h.len;exact⟨R[i],Wm,h.x _ Wm ⟩
theorem RG.set{c0:CH}(h:RG c0 c1 j R){x:R8}(b:R[i]? = some x){s:At}(hs:X8 QA (x.1,s)):RG c0 c1 QA (R.set i (x.1,s)):=by
 refine⟨?_,λy a=>?_⟩
 .rw[qY,f9 (pk b)];exact h.m
 .obtain z|rfl:=List.mem_or_eq_of_mem_set a
  .exact(h.x y z).mono Wm
  .exact hs
theorem RG.ch{c0:CH}(h:RG c0 c1 n R)(b:j<3){x:R8}(a:R[j]? = some x):vf [c0.d,c1.d] ((j:Int) / 2)=some x.1.d:=by
 have e:=h.m▸pk a
 match j,b,e with
 | 0,_,e=>cases e;rfl
 | 1,_,e=>cases e;rfl
 | 2,_,e=>cases e;rfl
def Lm(x:R8):T:=qm (j8 (HJ x.1) (iF x.1 x.2).2.2) (iF x.1 x.2).1 (iF x.1 x.2).2.1 (iF x.1 x.2).2.2.length
def ER(x:R8):(Lm x).fB=nz x:=Uv ..
theorem X8.sp{x:R8}(h:X8 n x)(a:n<=63):(j8 (HJ x.1) (iF x.1 x.2).2.2).length<=1000000/\0<(iF x.1 x.2).1.2.length/\(iF x.1 x.2).1.1.length<=1000/\(iF x.1 x.2).2.1.length<=1000:=by
 have h1:=h.am5 a;obtain⟨⟨g,b,_⟩,_⟩:=h.ns;obtain⟨ch,_,e,m⟩:=g;have n0:=h.c.k.n0;have n1:=h.c.k.n1;have d:=h.c.bl;refine⟨Wc,m.1▸n0,?_,b▸d ⟩;rw[e];have:=Ag (isAll:=av x.1.ks) (es:=x.1.es) (ch:=ch) (x.1.es.length-1);lia
def arl(h:(fD 0 (3:Int).toNat)[j]? = some d):j<3/\d=.int (j:Int):=by
 unfold fD at h;rw[ll]at h;obtain⟨i,hi,rfl⟩:=wb.1 h;obtain⟨h1,e⟩:=lL.1 hi;rw[List.getElem_range]at e;subst e;exact⟨h1,Wm ⟩
abbrev MM:=top 81
abbrev MI:=AT
noncomputable abbrev Sa:At:=["script","charts","fields","runs","stand","held","cell","at","told_rows","look","fresh","sign","pair"]
noncomputable def xY:MI->BA:=λa=>[.lst (a.map .int)]
def xZ:MI->Prop:=λa=>a.length<=63
noncomputable def x6:MI->T:=λa=>(.sh (.bl true):T)
structure arn(X:Cx)(CL:BC):Prop extends bD X where
 bR:Ln X 0 "script"
 wM:Ln X 1 "charts"
 Rg:Ln X 2 "fields"
 HM:Ln X 3 "runs"
 x8:Ln X 4 "stand"
 Oa:Ln X 5 "held"
 uo:Ln X 6 "cell"
 B3:Ln X 7 "at"
 nP:Ln X 8 "told_rows"
 gD:Ln X 9 "look"
 Ob:Ln X 10 "fresh"
 jq:Ln X 11 "sign"
 Vd:Ln X 12 "pair"
 Bb:Gl X "_law_chart"
 K2:Gl X "NestRun"
 Oc:Gl X "_law_turns"
 bU:Gl X "list"
 wO:Gl X "_law_look"
 Rh:Gl X "_law_copy"
 fH:Gl X "range"
 Od:Gl X "_law_spoil"
 uU:Fc X CL "_law_chart" 5 1 xH xJ xK
 K3:Fm X CL "NestRun" 51 2 tH tK tL
 ahO:Fc X CL "_law_turns" 1 3 B4 B5 xM
 bM:lJ X "list"
 Ve:Fc X CL "_law_look" 2 1 GH GJ GK
 am9:Fc X CL "_law_copy" 1 1 AQ AU AV
 fJ:lJ X "range"
 ahP:OS X CL "_law_spoil" 1 1 B9 Cb Cd Ca
 Ri:Fc X CL "_law_fields" 1 1 yX yZ y9
 Js:wx X CL "NestRun" "back" 1 1 oA oE oF oB
 yu:wx X CL "NestRun" "feed" 49 2 jY oG j3 jZ
theorem aro(E:arn X CL) :
  lV X CL b MM Sa xY xZ x6:=by
 intro a h;dsimp only [xZ,xY,x6]at h ⊢;have hs:a.length<=63:=h;obtain⟨a1,bo⟩:∃a1,a1=cutD a (some 1) none:=⟨_,rfl⟩;have b5:a1.length<=1000:=by rw[bo];unfold cutD;rw[mT,List.length_drop];lia
 have hS:∀x∈oK,x<3:=by decide
 have d0:=W0 (s:=a) hS (mm:=8) Wl 53;have d1:=W0 (s:=a1) hS (mm:=8) Wl 53;have L:=T2 (s:=a) hS (mm:=8) Wl;have bb:=T2 (s:=a1) hS (mm:=8) Wl;obtain⟨c0,aT⟩:∃c,c=qU oK 8 a:=⟨_,rfl⟩;obtain⟨c1,aI⟩:∃c,c=qU oK 8 a1:=⟨_,rfl⟩;rw[← aT]at d0 L;rw[← aI]at d1 bb;refine aO E.g E.wM (cj (ay (jA (d:=c0.d) (cF a E.uU E.Bb (ay (v_ E.bR.1) aQ) (show a.length<=1000 by lia)) (by rw[aT];exact KR _)) (ay (jA (d:=c1.d) (cF a1 E.uU E.Bb (ay (ef (aU (zU Qby (bz _) (xg aj) zT) (t2:=.lst ((a1.map .int).map T.sh)) (by rw[Fl,bo]))) aQ) b5) (by rw[aI];exact KR _)) aQ)) aL) ?_;refine C8 (i:=1) (d:=.lst [c0.d,c1.d]) rfl (cz [c0.d,c1.d]) ?_;clear aT aI;have kH:∀d∈[c0.d,c1.d],∃c:CH,d=c.d:=λd hd=>by
  simp only[fO,kf,mI]at hd;obtain rfl|rfl:=hd<;>exact⟨_,rfl⟩
 refine LN (p:=λ_=>true) (gg:=u7) E.g E.Rg (bI .nil We) (dF (v_ E.wM.1)) QaG (λC s0 H0 f0 b' d hd=>⟨rfl,λ_=>?Ah⟩) (l0 (cL QaV)) ?_ (by exact jj rfl) (sC ⟨_,rfl⟩)
 case Ah=>
  obtain⟨c,rfl⟩:=kH d hd;exact aU (cF c (jy E.Ri) sH (ay (v_ (BH 0)) aQ) trivial) rfl
 refine C8 (i:=2) (d:=.lst [.lst (Dj c0),.lst (Dj c1)]) rfl (by show T.fB (.lst [u7 c0.d,u7 c1.d])=_;rw[T.fB,T.cQ,T.cQ,T.cQ,EL,EL]) ?_;have ae:∀{c:CH} {i:Int} {δ:BB} {p1 p2 p3 p4:Pos} {k:Nat} {V:Pos},c.Ok->vf [c0.d,c1.d] i=some c.d->δ[1]? = some (some Qb9)->cO X CL b (.Call (.Name "NestRun" p1) [.Subscript (.Name "charts" p2) (.Constant Qaw k p3) p4] [] V) δ (HK (c,[])) δ:=λ{c i δ p1 p2 p3 p4 k V} hC hi hd=>aU (Oy c E.K3 E.K2 (ay (Bs (v_ E.wM.1 hd) aj hi) aQ) hC) (Xp c);refine aO E.g E.HM (cj (ay (ae L yM rfl) (ay (ae L yM rfl) (ay (ae bb FL rfl) aQ))) aL) ?_;refine aO E.g E.x8 (cj (ay (cj aQ aL) (ay (cj aQ aL) (ay (cj aQ aL) aQ))) aL) ?_;refine aO E.g E.Oa Qa4 ?_;have cw:=aha a 22 24;refine iG E.g E.uo (λj δ=>∃(R:List R8) (G:BA) (Z N W I:Option T),(RG c0 c1 j R/\(∀d∈G,P8 d)/\G.length<=2*j)/\δ=[some Qcx,some Qb9,some Qcw,some (.lst (R.map HK)),some (.lst (R.map RZ)),some (.lst (G.map T.sh)),Z,N,W,I,none,none,none]) (dF (ef (aU (c_ (a,22,24) E.ahO E.Oc (ah Qby (ah aj (ah aj aJ))) ?tp (aM _)) rfl))) ⟨[(c0,[]),(c0,[]),(c1,[])],[],_,_,_,_,⟨⟨rfl,λx M=>?ini⟩,λd hd=>(by cases hd),i5 _⟩,rfl⟩ (λj δ ⟨_,_,_,_,_,_,_,e⟩=>by subst e;exact jj rfl) ?turn ?fin
 case tp=>exact⟨hs,Wl,Wl,Wl⟩
 case ini=>
  simp only[fO,kf,mI]at M;obtain rfl|rfl|rfl:=M
  .exact⟨L,λg H=>(by cases H),i5 _⟩
  .exact⟨L,λg H=>(by cases H),i5 _⟩
  .exact⟨bb,λg H=>(by cases H),i5 _⟩
 case turn=>
  rintro j d δ hj ⟨R,G,Z,N,W,I,⟨Y,hH,br⟩,rfl⟩;rw[ll]at hj;obtain⟨x,M,rfl⟩:=wb.1 hj;have c2:j<63:=by have:=(lL.1 M).1;lia
  have cP:=Y.len;obtain⟨o,b7⟩:∃i:Nat,x % 3=i:=⟨(x % 3).toNat,Wc⟩;have cv:o<3:=by lia
  obtain⟨⟨c,s⟩,hz,m⟩:=Y.at cv;have bg:Dy (R.map HK).length (o:Int)=some o:=ug (by rw[e7];lia);have ar:Dy (R.map RZ).length (o:Int)=some o:=ug (by rw[e7];lia);refine aO E.g E.B3 (aU (ji (aH E.uo) aj Wl) (t2:=.sh (.int o)) (by rw[b7])) ?_;show eW X CL b _ [some Qcx,some Qb9,some Qcw,some (.lst (R.map HK)),some (.lst (R.map RZ)),some (.lst (G.map T.sh)),some (.sh (.int x)),some (.sh (.int o)),W,I,none,none,none] _;refine L1 (λδ=>∃(R':List R8) (rows:BA),(RG c0 c1 QA R'/\(∀d∈rows,WU d)/\rows.length<=4000)/\δ=[some Qcx,some Qb9,some Qcw,some (.lst (R'.map HK)),some (.lst (R'.map RZ)),some (.lst (G.map T.sh)),some (.sh (.int x)),some (.sh (.int o)),some (.lst (rows.map T.sh)),I,none,none,none]) ?k1 (λk=>?i1)
  case i1=>
   have U:T.jf [.ix o] (.lst (R.map RZ))=some (.lst ((s.map .str).map T.sh)):=Sr (pk (f:=RZ) hz);have hC:=m.c;have P:=m.l;refine fQ (ve (jC (fK (aE (ji (aE (qG (aH E.uo) aj ⟨Wl,Wl⟩)) aj Wl)) aj).1 (λ_=>jM (Bk (yE E.u (d1:=.lst (s.map .str)) (d2:=.lst []) (L0 Qey rfl U (cz _)) (ck (cj (tl:=[]) aQ aL)) (ad0 m.s _) ahN).1 (ahM _))))) (λS=>?_) (λS=>?_)
   .rw[lx]at S;obtain rfl|⟨s0,g,rfl⟩:=List.eq_nil_or_concat s
    .exact absurd S.2 Wl
    rw[List.concat_eq_append] at *;have a0:X8 QA (c,s0):=⟨hC,λq J=>m.s q (j1 _ J),by rw[kn]at P;show s0.length<=_;lia⟩;obtain⟨v,XQ⟩:=a0.ns;obtain⟨_,_,r1,r2⟩:=N7 hC v.g v.b (cs:=[g]) λq J=>by rw[j2.1 J];exact m.s g Wm
    have K:(iF c s0).2.2.length<=1000:=by rw[XQ];have:=a0.l;lia
    have w:(R.map HK)[o]? = some _:=(pk (f:=HK) hz).trans (congrArg some (HL c s0 g));refine Ef (Ws (p:=[.ix o]) (tl:=(s0.map .str).map T.sh) (t:=.sh (.str g)) Qey rfl (by rw[U,kc,kc];rfl)) ?_;rw[Vc (pk (f:=RZ) hz) rfl];refine gC E.g E.nP (auA (p:=[.ix o]) (t:=.lst ((Gj c ([g],(iF c s0).1,(iF c s0).2.1)).map T.sh)) (λy=>(y,c.d,yS (Uc c ([g],(iF c s0).1,(iF c s0).2.1)),(iF c s0).2.2,((iF c s0).1,(iF c s0).2.1,Gj c ([g],(iF c s0).1,(iF c s0).2.1)),Ud c ([g],(iF c s0).1,(iF c s0).2.1),some (HJ c))) (HK (c,s0)) E.Js (j6 (bE E.HM.1 rfl) rfl rfl (aH E.B3) bg) rfl (Lu w) (λy=>K) (λy=>rfl) (λy=>⟨rfl,(N9 c s0).symm,[],rfl⟩) (So w) (by rw[Sk w,Vc w rfl]) (Eu We We We We We)) ?_;rw[Vc w rfl];refine ak (k _ ⟨R.set o (c,s0),_,⟨Y.set hz a0,r2,r1⟩,?_⟩);rw[qY,qY];rfl
   .have q0:=me (x / 12) (b:=4) Wl;have q1:=l2 (x / 12) (b:=4) Wl;have H:=ahL (x / 12 % 4).toNat;have bx:((s.map D.str).map T.sh).length<=1000000:=by rw[e7,e7];have:s.length<=j:=P;lia
    refine yK (p:=[.ix o]) Qey rfl U (cX (bH (ck (fE (qI (l:=Zt) rfl) aL)) (aE (ji (aE (qG (aH E.uo) aj ⟨Wl,Wl⟩)) aj Wl)) (gf Str.empty (l:=Zt) q0 (show x / 12 % 4<4 from q1))) rfl) rfl U bx ?_;generalize Zt.getD (x / 12 % 4).toNat Str.empty=g at H ⊢;rw[Vc (pk (f:=RZ) hz) rfl,adZ c s g];have cc:X8 QA (c,s++[g]):=⟨hC,λq J=>by
     obtain z|z:=i3.1 J
     .exact m.s q z
     .rw[j2.1 z];exact H,by show(s++[g]).length<=_;rw[kn];have:s.length<=j:=P;exact Nat.succ_le_succ this⟩
    obtain⟨v,XQ⟩:=m.ns;obtain⟨_,_,r1,r2⟩:=N7 hC v.g v.b (cs:=[g]) λq J=>by rw[j2.1 J];exact H
    have K:(iF c s).2.2.length<=1000:=by rw[XQ];have:s.length<=j:=P;show s.length<=_;lia
    have w:(R.map HK)[o]? = some _:=(pk (f:=HK) hz).trans (congrArg some (N9 c s));have bt:((R.map RZ).set o (RZ (c,s++[g])))[o]? = some (RZ (c,s++[g])):=pE (by rw[e7];lia);have cq:Dy ((R.map RZ).set o (RZ (c,s++[g]))).length (o:Int)=some o:=ug (by rw[n3,e7];lia);refine gC E.g E.nP (qMQ (p:=[.ix o]) (dl:=[.str g]) (t:=.lst ((Gj c ([g],(iF c s).1,(iF c s).2.1)).map T.sh)) (λy=>(y,c,(iF c s).1,(iF c s).2.2,(iF c s).2.1,some (HJ c),g)) (HK (c,s++[g])) E.yu (j6 (bE E.HM.1 rfl) rfl rfl (aH E.B3) bg) rfl (Lu w) (ay (cX (bH (L0 (d:=.lst ((s++[g]).map .str)) (j6 (bE E.x8.1 rfl) rfl rfl (aH E.B3) cq) rfl (Sr bt) (cz _)) Qbb (by rw[kc];exact E6)) rfl) aQ) (λy=>⟨hC,v.g,v.b,K⟩) (λy=>rfl) (λy=>⟨rfl,(HL c s g).symm,[.str g],rfl⟩) rfl (So w) (Eu We We We We We)) ?_;rw[Sk w];refine ak (k _ ⟨R.set o (c,s++[g]),_,⟨Y.set hz cc,r2,r1⟩,?_⟩);rw[qY,qY];rfl
  case k1=>
  rintro δ ⟨R',rows,⟨ba,b0,cx⟩,rfl⟩;refine jH E.nP.1 rfl (iJ (ds:=[.str "sign",.str "more"]) (aG eS (aG eS fL)) aL) rfl (by rw[e7];lia) ?_;obtain⟨F,ab⟩:∃r,r=rows++[D.tup [.str "sign",.str "more"]]:=⟨_,rfl⟩;have cp:∀d∈F,WU d:=λd hd=>by
   rw[ab]at hd;obtain z|z:=i3.1 hd
   .exact b0 d z
   .rw[j2.1 z];exact⟨"sign",[.str "more"],rfl,We,λq J=>.inr ⟨"more",j2.1 J,We⟩⟩
  refine C8 (i:=8) (d:=.lst F) rfl (by rw[ab,← cz,kc];rfl) ?_;clear ab;have cn:(G.map T.sh).length<=1000000:=by rw[e7];lia
  refine jH E.Oa.1 rfl (jA (d:=.tup [.lst F,.lst F]) (lQ (ay (v_ E.nP.1) (ay (jk E.bM (v_ E.nP.1) E.bU aX) aQ)) aL) (by rw[T.fB,T.cQ,T.cQ,T.cQ,T.fB,cz])) rfl cn ?_;obtain⟨i4,b6⟩:∃i:Nat,x / 48 % 3=i:=⟨(x / 48 % 3).toNat,Wc⟩;have cm:i4<3:=by lia
  obtain⟨⟨c,s⟩,hz,m⟩:=ba.at cm;have cV:=ba.len;have cf:Dy (R'.map HK).length (x / 48 % 3)=some i4:=by rw[b6];exact ug (by rw[e7];lia)
  have b4:=m.look Wc;have aw:=vK m.rws;refine aO E.g E.gD (jA (d:=nz (c,s)) (c_ (c.d,(iF c s).1,(iF c s).2.2,(iF c s).2.1,HJ c) E.Ve E.wO (ah (L0 (j6 (bE E.HM.1 rfl) rfl rfl (aE (ji (aE (qG (aH E.uo) aj ⟨Wl,Wl⟩)) aj Wl)) cf) rfl (Lu (pk (f:=HK) hz)) (N8 (c,s))) aJ) b4 (AO aw ..)) (Uv ..)) ?_;refine jH E.Oa.1 rfl (jA (d:=.tup [nz (c,s),nz (c,s)]) (lQ (ay (v_ E.gD.1) (ay (c_ (j8 (HJ c) (iF c s).2.2,(iF c s).1,(iF c s).2.1,(iF c s).2.2.length) E.am9 E.Rh (ah (aH E.gD) aJ) aw (AO aw ..)) aQ)) aL) (by rw[T.fB,T.cQ,T.cQ,T.cQ,T.fB];show D.tup [_,T.fB (qm _ _ _ _)]=_;rw[Uv];rfl)) rfl (by rw[kn,e7,sE];lia) (ak ⟨R',G++[.tup [.lst F,.lst F]]++[.tup [nz (c,s),nz (c,s)]],some (.sh (.int x)),some (.sh (.int o)),some (.sh (.lst F)),some (.sh (nz (c,s))),⟨ba,?_,?_⟩,?_⟩)
  .intro d hd;obtain z|z:=i3.1 hd
   .obtain z|z:=i3.1 z
    .exact hH d z
    .rw[j2.1 z];exact⟨_,rfl,WV cp⟩
   .rw[j2.1 z];exact⟨_,rfl,m.dep _⟩
  .rw[kn,kn,sE,sE];lia
  .rw[kc,kc];rfl
 case fin=>
 rintro δ ⟨R,G,Z,N,W,I,⟨Y,hH,br⟩,rfl⟩;have hn:((w4 a 22 24).map D.int).length<=63:=by rw[e7];lia
 generalize ((w4 a 22 24).map D.int).length=n at Y br hn;refine C8 (i:=3) (d:=.lst (R.map p8)) rfl (OK N8 R) ?_;refine C8 (i:=4) (d:=.lst (R.map xb)) rfl (OK (f:=RZ) (λ_=>cz _) R) ?_;refine C8 (i:=5) (d:=.lst G) rfl (cz _) ?_;show eW X CL b _ [some Qcx,some Qb9,some Qcw,some Qdi,some (.sh (.lst (R.map xb))),some (.sh (.lst G)),Z,N,W,I,none,none,none] _;have ag:∀{x:R8} {i:Nat} {δ:BB} {p1 p2 p3 p4 V:Pos},X8 n x->R[i]? = some x->δ[3]? = some (some Qdi)->δ[7]? = some (some (.sh (.int (i:Int))))->cO X CL b (.Call (.Name "_law_look" p1) [.Subscript (.Name "runs" p2) (.Name "at" p3) p4] [] V) δ (Lm x) δ:=λ{x i δ p1 p2 p3 p4 V} hX M h3 h7=>c_ (x.1.d,(iF x.1 x.2).1,(iF x.1 x.2).2.2,(iF x.1 x.2).2.1,HJ x.1) E.Ve E.wO (ah (bH (aE (v_ E.HM.1 h3)) (aE (v_ E.B3.1 h7)) (dQ (pk (f:=p8) M))) aJ) (hX.look hn) (AO (vK hX.rws) ..);have bc:∀{x:R8} {δ:BB} {p1 p2 V:Pos},X8 n x->δ[10]? = some (some (HK x))->cO X CL b (.Call (.Name "_law_look" p1) [.Name "fresh" p2] [] V) δ (Lm x) δ:=λ{x δ p1 p2 V} hX h3=>c_ (x.1.d,(iF x.1 x.2).1,(iF x.1 x.2).2.2,(iF x.1 x.2).2.1,HJ x.1) E.Ve E.wO (ah (vE E.Ob.1 h3 (N8 x)) aJ) (hX.look hn) (AO (vK hX.rws) ..);refine iG E.g E.B3 (λj δ=>∃(N I O A:Option T),δ=[some Qcx,some Qb9,some Qcw,some Qdi,some (.sh (.lst (R.map xb))),some (.sh (.lst G)),Z,N,W,I,O,A,none]) (sA E.fJ aj Wl E.fH) ⟨_,_,_,_,rfl⟩ (λj δ ⟨_,_,_,_,e⟩=>by subst e;exact jj rfl) ?Ra ?fin2
 case Ra=>
  rintro j d δ hj ⟨N,I,O,A,rfl⟩;obtain⟨bj,rfl⟩:=arl hj;obtain⟨⟨c,s⟩,hz,m⟩:=Y.at bj;have cb:=Y.ch bj hz;have B:=m.dep 57;refine aO E.g E.Ob (aU (Oy c E.K3 E.K2 (ay (Bs (v_ E.wM.1) (aE (qG (aH E.B3) aj ⟨Wl,Wl⟩)) cb) aQ) m.c) (Xp c)) ?_;refine iG E.g E.jq (λk δ=>∃A:Option T,δ=[some Qcx,some Qb9,some Qcw,some Qdi,some (.sh (.lst (R.map xb))),some (.sh (.lst G)),Z,some (.sh (.int (j:Int))),W,I,some (HK (c,s.take k)),A,none]) (dF (Bs (v_ E.x8.1) (aH E.B3) (dQ (pk (f:=xb) hz)))) ⟨_,rfl⟩ (λj δ ⟨_,e⟩=>by subst e;exact jj rfl) ?arq ?avz
  case arq=>
   rintro k d δ hk ⟨A,rfl⟩;rw[ll]at hk;obtain⟨g,H,rfl⟩:=wb.1 hk;have Ed:=m.s g (l3 H);have Ku:=(lL.1 H).1;have xh:s.take (k+1)=s.take k++[g]:=by rw[ri,H];rfl
   have bp:X8 n (c,s.take k):=⟨m.c,λq J=>m.s q (rf J),by have:=m.l;show(s.take k).length<=_;rw[mT];have:s.length<=n:=m.l;lia⟩;obtain⟨v,XQ⟩:=bp.ns;have K:(iF c (s.take k)).2.2.length<=1000:=by rw[XQ];have:=bp.l;lia
   rw[N9 c (s.take k)];refine Ef (qM (dl:=[.str g]) (λz=>(z,c,(iF c (s.take k)).1,(iF c (s.take k)).2.2,(iF c (s.take k)).2.1,some (HJ c),g)) (HK (c,s.take (k+1))) E.yu E.Ob.1 (.own rfl) (ay (v_ E.jq.1) aQ) (λz _=>⟨m.c,v.g,v.b,K⟩) (t:=.lst ((Gj c ([g],(iF c (s.take k)).1,(iF c (s.take k)).2.1)).map T.sh)) (λz _=>rfl) (λz _=>⟨rfl,.inl (by rw[xh,HL]),trivial⟩) (Eu We We We We We) (λz _=>rfl)) (ak ⟨some (.sh (.str g)),rfl⟩)
  case avz=>
  rintro δ ⟨A,rfl⟩;rw[e7,mf];refine aO E.g E.gD (jA (d:=nz (c,s)) (bc m rfl) (ER _)) ?_;refine fQ (yE E.u (aE (jA (d:=nz (c,s)) (ag m hz rfl rfl) (ER _))) (aH E.gD) B B).1 (λS=>absurd S (by rw[Lo B];decide)) (λ_=>ak ?_);refine Ef (cT1 (ds:=[]) (t:=.sh .non) (λy=>(y,j8 (HJ c) (iF c s).2.2,(iF c s).1,(iF c s).2.1,(iF c s).2.2.length)) E.ahP E.Od (ag m hz rfl rfl) rfl aQ (λy=>m.sp hn) (λy=>rfl)) ?_;refine fQ (ve (Wa (yE E.u (aE (jA (d:=nz (c,s)) (ag m hz rfl rfl) (ER _))) (aH E.gD) B B).1 (λ_=>Sw (yE E.u (aE (jA (d:=nz (c,s)) (bc m rfl) (ER _))) (aH E.gD) B B).1))) (λS=>absurd S (by rw[Lo B];decide)) (λ_=>ak (ak ⟨_,_,_,_,rfl⟩))
 case fin2=>
 rintro δ ⟨N,I,O,A,rfl⟩;refine iG E.g E.Vd (λj δ=>∃aa:Option T,δ=[some Qcx,some Qb9,some Qcw,some Qdi,some (.sh (.lst (R.map xb))),some (.sh (.lst G)),Z,N,W,I,O,A,aa]) (dF (v_ E.Oa.1)) ⟨_,rfl⟩ (λj δ ⟨_,e⟩=>by subst e;exact jj rfl) ?ars ?avB
 case ars=>
  rintro j d δ hj ⟨aa,rfl⟩;obtain⟨x,rfl,M⟩:=hH d (l3 hj);refine fQ (yE E.u (bC (aH E.Vd) aj yM) (bC (aH E.Vd) aj FL) M M).1 (λS=>absurd S (by rw[Lo M];decide)) (λ_=>ak (ak ⟨_,rfl⟩))
 case avB=>
 rintro δ ⟨aa,rfl⟩;have ax:qD 60 (.lst [.lst (Dj c0),.lst (Dj c1)]):=.lst λd hd=>by
  simp only[fO,kf,mI]at hd;obtain rfl|rfl:=hd
  .exact d0
  .exact d1
 exact bu (aU (akZ E.u (d1:=.lst [.lst (Dj c0),.lst (Dj c1)]) (aE (jA (by exact mR (p:=λ_=>true) (g:=u7) (bI .nil We) E.g.calm (dF (v_ E.wM.1)) QaG (λC s0 H0 f0 b' d hd=>⟨rfl,λ_=>by obtain⟨c,rfl⟩:=kH d hd;exact aU (cF c (jy E.Ri) sH (ay (v_ (BH 0)) aQ) trivial) rfl⟩) (l0 (cL QaV))) (by show T.fB (.lst [u7 c0.d,u7 c1.d])=_;rw[T.fB,T.cQ,T.cQ,T.cQ,EL,EL]))) (aH E.Rg) ax ax).2 (t2:=.sh (.bl true)) (by rw[PD ax])) rfl
def gB:FG Sa ["script"] ["_law_chart","NestRun","_law_turns","list","_law_look","_law_copy","range","_law_spoil"] (ai MM):=fG
noncomputable def cl(aN bq aF au cG dw bO:Addr):Str->Addr:=λc=>if c="Chart" then aN else if c="Tree" then bq else if c="Runner" then aF else if c="NestRun" then au else if c="#_law_chart.<locals>.<lambda>" then cG else if c="#kept.<locals>.<lambda>" then dw else if c="#goable.<locals>.<lambda>" then bO else 0
variable{aN bq aF au cG dw bO:Addr}
def Vf:cl aN bq aF au cG dw bO "#_law_chart.<locals>.<lambda>" = cG:=by unfold cl;rw[dP We];rw[dP We];rw[dP We];rw[dP We];rw[dX rfl]
def Zu:cl aN bq aF au cG dw bO "#kept.<locals>.<lambda>" = dw:=by unfold cl;rw[dP We];rw[dP We];rw[dP We];rw[dP We];rw[dP We];rw[dX rfl]
def Rj:cl aN bq aF au cG dw bO "#goable.<locals>.<lambda>" = bO:=by unfold cl;rw[dP We];rw[dP We];rw[dP We];rw[dP We];rw[dP We];rw[dP We];rw[dX rfl]
def ad3:cl aN bq aF au cG dw bO "Chart" = aN:=by unfold cl;rw[dX rfl]
def ahR:cl aN bq aF au cG dw bO "Tree" = bq:=by unfold cl;rw[dP We];rw[dX rfl]
def Zv:cl aN bq aF au cG dw bO "Runner" = aF:=by unfold cl;rw[dP We];rw[dP We];rw[dX rfl]
def Vg:cl aN bq aF au cG dw bO "NestRun" = au:=by unfold cl;rw[dP We];rw[dP We];rw[dP We];rw[dX rfl]
def ahS{x:Str}(h:J9 x=true)(h0:cl aN bq aF au cG dw bO x≠0):(cl aN bq aF au cG dw bO x,Lg x)∈([(cG,"_law_chart.<locals>.<lambda>"),(dw,"kept.<locals>.<lambda>"),(bO,"goable.<locals>.<lambda>")]:Cl):=by
 unfold cl at h0 ⊢;rw[dP (λe=>by rw[e]at h;exact absurd h We)]at h0 ⊢;rw[dP (λe=>by rw[e]at h;exact absurd h We)]at h0 ⊢;rw[dP (λe=>by rw[e]at h;exact absurd h We)]at h0 ⊢;rw[dP (λe=>by rw[e]at h;exact absurd h We)]at h0 ⊢;by_cases b:x="#_law_chart.<locals>.<lambda>"
 .rw[dX b,b,show Lg ("#_law_chart.<locals>.<lambda>":Str)="_law_chart.<locals>.<lambda>" by decide +kernel];simp
 rw[dP b]at h0 ⊢;by_cases a:x="#kept.<locals>.<lambda>"
 .rw[dX a,a,show Lg ("#kept.<locals>.<lambda>":Str)="kept.<locals>.<lambda>" by decide +kernel];simp
 rw[dP a]at h0 ⊢;by_cases c:x="#goable.<locals>.<lambda>"
 .rw[dX c,c,show Lg ("#goable.<locals>.<lambda>":Str)="goable.<locals>.<lambda>" by decide +kernel];simp
 rw[dP c]at h0 ⊢;exact absurd rfl h0
theorem all_mk{l:PySem.W.OpenLaw}{w:World}{K:Frag}{h:Heap}{mg:Bi}{T0:BS}{fa Zw dr dq h6 Dq dn dk dj Og ax aw Bc Xq gk HP DU CG DV Oh f_look df gj h5 gh Rk Rl Zx gg h4 gd Jt h3 de Vi Rm Oi gc hZ ar Zy f5 Rn V Ju dc Ro g4 Vj Jv g0 da Vk Oj c8 Zz Jw hG Vl Vm gN Bd HQ rV wQ Jx Jy ag:Addr}(g:K.In h)(G:h.Ns mainGlobals mg)(aa:mg "law" = some (.ref fa))
  {ZC c5 c4 hF Rp c3 c2 cP Ol ae cc Om Xr gz HR DW CJ DX Oo cx cw gx hE AX wg lq sX N5 HF uC rE G3 UG zk nO uH lA nI Mn mO gw Rq NZ rL UO A5 NB zx rM N1 UZ zG uT U4 CD rQ Hx zH zI N2 Be HS Jz HV JA JB P:QaC}
  (gv:InG K "Chart" aN) (hC:plainGet K aN Str.empty=true) (hB:hasDictIn K aN=true) (hA:plainOver K aN=true) (hz:findIn K (.ref aN) "__setattr__" = some QcL) (hy:makesIn K aN=true) (hx:keepIn K (.ref aN)=true)
  (t:findIn K (.ref aN) "boxes" = some none)
  (rW:findIn K (.ref aN) "names" = some none)
  (o:findIn K (.ref aN) "tree" = some none)
  (wR:findIn K (.ref aN) "ins" = some none)
  (uV:findIn K (.ref aN) "outs" = some none)
  (r:findIn K (.ref aN) "ways" = some none)
  (cv:InG K "Tree" bq) (gr:plainGet K bq Str.empty=true) (gq:hasDictIn K bq=true) (gm:plainOver K bq=true) (fc:findIn K (.ref bq) "__setattr__" = some QcL) (fb:makesIn K bq=true) (e8:keepIn K (.ref bq)=true)
  (A:findIn K (.ref bq) "kinds" = some none)
  (I:findIn K (.ref bq) "elders" = some none)
  (rX:findIn K (.ref bq) "starts" = some none)
  (hu:InG K "Runner" aF) (ZD:plainGet K aF Str.empty=true) (ZE:hasDictIn K aF=true) (ZF:plainOver K aF=true) (ZG:findIn K (.ref aF) "__setattr__" = some QcL) (iv:makesIn K aF=true) (iq:keepIn K (.ref aF)=true)
  (iT:findIn K (.ref aF) "place" = some none)
  (iw:findIn K (.ref aF) "past" = some none)
  (iN:findIn K (.ref aF) "boxes" = some none)
  (R0:findIn K (.ref aF) "first_rows" = some none)
  (ZH:InG K "NestRun" au) (Vo:plainGet K au Str.empty=true) (Vp:hasDictIn K au=true) (Vq:plainOver K au=true) (Vr:findIn K (.ref au) "__setattr__" = some QcL) (Vs:makesIn K au=true) (Vt:keepIn K (.ref au)=true)
  (u6:findIn K (.ref au) "chart" = some none)
  (F:findIn K (.ref au) "place" = some none)
  (N:findIn K (.ref au) "past" = some none)
  (z:findIn K (.ref au) "boxes" = some none)
  (nQ:findIn K (.ref au) "first_rows" = some none)
  (ZI:lK K "_law_cell_at" BX Zw ZC)
  (cp:lK K "_law_take" Um dr c5)
  (cn:lK K "_law_line" Uo dq c4)
  (ht:lK K "_law_elders" Gu h6 hF)
  (Z:RT K bq "__init__" "Tree.__init__" vO Dq Rp)
  (cm:lK K "_law_tree" MH dn c3)
  (cf:lK K "_law_term" Ur dk c2)
  (en:lK K "_law_deed" Us dj cP)
  (Oq:lK K "_law_some_deeds" oX Og Ol)
  (cb:lK K "_law_ask" Md ax ae)
  (b7:lK K "_law_way" W6 aw cc)
  (pL:RT K aN "__init__" "Chart.__init__" ur Bc Om)
  (EV:lK K "_law_chart" EB Xq Xr)
  {uU:Addr} {hq:Db} {Rr:CI} {ho:Ch} (hn:Wq 1 (Xr.code=.ref uU)) (ij:K.lookup uU=some ⟨.type "code",hq,.fields Rr,ho⟩) (ie:Wq 1 (Rr[11]? = some (.ref cG))) (Rt:Wq 2 (codeHdIn K uU cG=true)) (hl:Wq 3 (cG≠0)) (hk:Wq 2 (K.lookup cG=none)) (hj:Wq 3 (cG∈T0))
  (e6:lK K "_law_turns" EC gk gz)
  (HW:RT K au "story" "Runner.story" qe HP HR)
  (DY:RT K au "state" "NestRun.state" nX DU DW)
  (CK:RT K au "numbers" "Runner.numbers" mq CG CJ)
  (DZ:RT K au "moods" "NestRun.moods" n5 DV DX)
  (Ot:RT K au "fed" "Runner.fed" ux Oh Oo)
  (el:lK K "_law_look" Uw f_look cx)
  (ek:lK K "_law_copy" Uy df cw)
  (e5:lK K "_law_spoil" M8 gj gx)
  (hh:lK K "_law_fields" GN h5 hE)
  (e4:lK K "inner" EF gh AX)
  (Ru:lK K "opened_in" v9 Rk wg)
  (L:lK K "opened" GP Rl lq)
  (ZJ:lK K "in_rows" Ce Zx sX)
  (e3:lK K "begun" Nf gg N5)
  (hg:lK K "firsts" GR h4 HF)
  (eT:lK K "value" Nh gd uC)
  (JC:lK K "with_number" rC Jt rE)
  (hc:lK K "redone" GV h3 G3)
  (ej:lK K "done" UC de UG)
  (Vu:lK K "all_done" zg Vi zk)
  (Rw:lK K "performed" wA Rm nO)
  (Ou:lK K "has_target" uF Oi uH)
  (eR:lK K "above" Nm gc lA)
  (hb:lK K "within" G6 hZ nI)
  (b6:lK K "top" ME ar Mn)
  (ZK:lK K "way_top" Cm Zy mO)
  (eP:lK K "depth" Nr f5 gw)
  (Rx:lK K "tops_meet" wG Rn Rq)
  (Ov:lK K "kept" Nu V NZ)
  {CF:Addr} {eM:Db} {Xs:CI} {eJ:Ch} (eI:Wq 1 (NZ.code=.ref CF)) (ia:K.lookup CF=some ⟨.type "code",eM,.fields Xs,eJ⟩) (h9:Wq 1 (Xs[11]? = some (.ref dw))) (Xu:Wq 2 (codeHdIn K CF dw=true)) (eH:Wq 3 (dw≠0)) (eF:Wq 2 (K.lookup dw=none)) (eE:Wq 3 (dw∈T0))
  (JD:lK K "open_leaves" m5 Ju rL)
  (ei:lK K "fits" UL dc UO)
  (Bf:lK K "goable" A4 Ro A5)
  {tF:Addr} {ZL:Db} {K4:CI} {ZM:Ch} (ZN:Wq 1 (A5.code=.ref tF)) (ip:K.lookup tF=some ⟨.type "code",ZL,.fields K4,ZM⟩) (ik:Wq 1 (K4[11]? = some (.ref bO))) (K5:Wq 2 (codeHdIn K tF bO=true)) (ZO:Wq 3 (bO≠0)) (ZP:Wq 2 (K.lookup bO=none)) (ZQ:Wq 3 (bO∈T0))
  (eD:lK K "holds" Nx g4 NB)
  (Vv:lK K "all_hold" zq Vj zx)
  (JF:lK K "number_asks" rJ Jv rM)
  (eC:lK K "picks" NC g0 N1)
  (eh:lK K "left" NK da UZ)
  (Vw:lK K "all_left" zy Vk zG)
  (Ow:lK K "remembered" uO Oj uT)
  (eg:lK K "road" U1 c8 U4)
  (ZR:lK K "entered" Cz Zz CD)
  (JG:lK K "all_entered" rO Jw rQ)
  (ha:lK K "heeded" Hu hG Hx)
  (Vx:lK K "out_rows" zB Vl zH)
  (Vy:lK K "way_rows" zE Vm zI)
  (eA:lK K "moved" EJ gN N2)
  (Bg:RT K au "step_at" "NestRun.step_at" lE Bd Be)
  (HX:RT K au "dealt" "Runner.dealt" qy HQ HS)
  (rY:RT K aF "__init__" "Runner.__init__" rR rV Jz)
  (HY:specialIn K (.ref aF) "__getattribute__" = some (some (.builtin "type.__getattribute__"))) (HZ:readsIn K aF (.type "type")=true) (Ic:findCls K (.ref aF) (.type "type") "__init__" = some (.val (.ref rV)))
  (lH:RT K au "__init__" "NestRun.__init__" qA wQ HV)
  (JH:RT K au "back" "Runner.back" rS Jx JA)
  (JK:RT K au "feed" "Runner.feed" rT Jy JB)
  (X:lK K "law" MM ag P)
  (b5:nsIn K mainGlobals "len" = some none)
  (ez:nsIn K mainGlobals "range" = some none)
  (ee:nsIn K mainGlobals "list" = some none)
  (b4:nsIn K mainGlobals "int" = some none)
  (b0:nsIn K mainGlobals "str" = some none)
  (ey:nsIn K mainGlobals "tuple" = some none)
  (g5:nsIn K mainGlobals "sorted" = some none)
  (bx:nsIn K mainGlobals "min" = some none)
  (bt:nsIn K mainGlobals "max" = some none)
  (br:nsIn K mainGlobals "sum" = some none)
  (Rz:nsIn K mainGlobals "enumerate" = some none)
  {hY:Tok} (ew:nsIn K mainGlobals "AFTER" = some (some (.int 3 hY)))
  {Xv:Addr} {hX:Db} {EG:Nat} {hW:Ch} {Vz VA VB VC:Tok} (eu:nsIn K mainGlobals "MARKS" = some (some (.ref Xv))) (hV:K.lookup Xv=some ⟨.type "tuple",hX,.seq #[.str "out" Vz,.str "keep" VA,.str "way" VB,.str "in" VC] EG,hW⟩)
  {ZS:Tok} (hU:nsIn K mainGlobals "TARGET" = some (some (.int 4 ZS)))
  {ZT:Tok} (hT:nsIn K mainGlobals "SOURCE" = some (some (.int 0 ZT)))
  (bp:nsIn K mainGlobals "any" = some none)
  {er:Tok} (ed:nsIn K mainGlobals "SIGN" = some (some (.int 1 er)))
  {ep:Tok} (ec:nsIn K mainGlobals "ASKS" = some (some (.int 2 ep)))
  (VD:nsIn K mainGlobals "reversed" = some none)
  {f3:Tok} (eb:nsIn K mainGlobals "MODE" = some (some (.int 5 f3)))
  {hS:Tok} (fT:nsIn K mainGlobals "DEEDS" = some (some (.int 3 hS)))
  {JL:Tok} (Ox:nsIn K mainGlobals "MOST_SIGNS" = some (some (.int 8 JL)))
  (JM:Wq 3 (dw≠cG)) (D0:Wq 3 (bO≠cG)) (Ie:Wq 3 (bO≠dw))
  : ∃(fd:QaC) (ts:Cl),(∀p∈ts,p.1∈T0/\ts.lookup p.1=some p.2/\K.lookup p.1=none/\∃c,CodeHd h c p.1)/\(∀(s:Qb) (v:Value),BindsTo s fd ⟨[v],[]⟩ [("script",v)])/\∀base:Heap,K.In base->base.Ns mainGlobals mg->FH mg base->fz l.prog w K mg base lO 53 fa fd ["script"] (spT K ts 1 xY xZ x6):=by
 have e:=aa.symm.trans (ma g G X.m);cases e;obtain⟨f,rfl,rfl,rfl,rfl,rfl,rfl,rfl,ab⟩:∃f:Str->Addr,aN=f "Chart" /\ bq=f "Tree" /\ aF=f "Runner" /\ au=f "NestRun" /\ cG=f "#_law_chart.<locals>.<lambda>" /\ dw=f "#kept.<locals>.<lambda>" /\ bO=f "#goable.<locals>.<lambda>" /\ ∀x,J9 x=true->f x≠0->(f x,Lg x)∈([(cG,"_law_chart.<locals>.<lambda>"),(dw,"kept.<locals>.<lambda>"),(bO,"goable.<locals>.<lambda>")]:Cl):=⟨(cl aN bq aF au cG dw bO),ad3.symm,ahR.symm,Zv.symm,Vg.symm,Vf.symm,Zu.symm,Rj.symm,λx=>ahS⟩;have RA:=Z.binds (ps:=["self","kinds","elders","starts"]) λ_ _ _ _ _ _=>by refine lU ?_;exactλ_ _ _ _=>rfl
 have Oz:=pL.binds (ps:=["self","boxes","names","tree","ins","outs","ways"]) λ_ _ _ _ _ _=>by refine lU ?_;exactλ_ _ _ _ _ _ _=>rfl
 have fR:=ma g G EV.m;have fI:=EV.binds (ps:=["script"]) λ_ _ _ _ _ _=>by refine lU ?_;exactλ_=>rfl
 have RB:=ma g G L.m;have RC:=L.binds (ps:=["tree","memory","mood","mode"]) λ_ _ _ _ _ _=>by refine lU ?_;exactλ_ _ _ _=>rfl
 have ea:=ma g G Ov.m;have d8:=Ov.binds (ps:=["chart","found"]) λ_ _ _ _ _ _=>by refine lU ?_;exactλ_ _=>rfl
 have hR:=ma g G Bf.m;have hP:=Bf.binds (ps:=["chart","opens","leaf","sign"]) λ_ _ _ _ _ _=>by refine lU ?_;exactλ_ _ _ _=>rfl
 have JN:=rY.binds (ps:=["self","boxes","place","script"]) λ_ _ _ _ _ _=>by refine lU ?_;exactλ_ _ _ _=>rfl
 have Ig:=lH.binds (ps:=["self","chart"]) λ_ _ _ _ _ _=>by refine lU ?_;exactλ_ _=>rfl
 have h8:=ma g G X.m;have h7:=X.binds (ps:=["script"]) λ_ _ _ _ _ _=>by refine lU ?_;exactλ_=>rfl
 have fA:=ma g G gv;have aA:jh K (f "Chart"):=⟨hC,hB,hA,hz⟩;have d6:=ma g G cv;have b8:jh K (f "Tree"):=⟨gr,gq,gm,fc⟩;have hO:=ma g G hu;have ib:jh K (f "Runner"):=⟨ZD,ZE,ZF,ZG⟩;have ZU:=ma g G ZH;have ao:jh K (f "NestRun"):=⟨Vo,Vp,Vq,Vr⟩;have n:=m4 g G b5;have C:=m4 g G ez;have k:=m4 g G ee;have bo:=m4 g G b4;have O:=m4 g G b0;have OB:=m4 g G ey;have D:=m4 g G g5;have bj:=m4 g G bx;have bg:=m4 g G bt;have bc:=m4 g G br;have Dr:=m4 g G Rz;have fy:∃u,mg "AFTER" = some (.int 3 u):=⟨_,ma g G ew⟩;have fw:=ma g G eu;have Bh:∃u,mg "TARGET" = some (.int 4 u):=⟨_,ma g G hU⟩;have Ih:∃u,mg "SOURCE" = some (.int 0 u):=⟨_,ma g G hT⟩;have bb:=m4 g G bp;have d5:∃u,mg "SIGN" = some (.int 1 u):=⟨_,ma g G ed⟩;have U:∃u,mg "ASKS" = some (.int 2 u):=⟨_,ma g G ec⟩;have Ii:=m4 g G VD;have T:∃u,mg "MODE" = some (.int 5 u):=⟨_,ma g G eb⟩;have fv:∃u,mg "DEEDS" = some (.int 3 u):=⟨_,ma g G fT⟩;have OD:∃u,mg "MOST_SIGNS" = some (.int 8 u):=⟨_,ma g G Ox⟩;refine⟨P,[((f "#_law_chart.<locals>.<lambda>"),"_law_chart.<locals>.<lambda>"),((f "#kept.<locals>.<lambda>"),"kept.<locals>.<lambda>"),((f "#goable.<locals>.<lambda>"),"goable.<locals>.<lambda>")],?tabs,?bind,λbase kb _ bl=>?_⟩
 case tabs=>
  intro p j;simp only[fO,kf,mI]at j;obtain rfl|rfl|rfl:=j
  .exact⟨hj.1,by simp only[l5,FO],hk.1,uU,IP g Rt.1⟩
  .exact⟨eE.1,by simp only[l5,FO,beq_false_of_ne JM.1],eF.1,CF,IP g Xu.1⟩
  .exact⟨ZQ.1,by simp only[l5,FO,beq_false_of_ne D0.1,beq_false_of_ne Ie.1],ZP.1,tF,IP g K5.1⟩
 case bind=>
  obtain⟨oc,od,kV,doc,pm,an,gE,ct,Sg,rfl,lk,kH⟩:=X.ex;exactλs v=>.of_eq rfl
 have q:=@aqb l.prog w mg base K h f g G;have M:=@aqc l.prog w mg base K h f g G;have CM:=q 0 ni nj nu ZI  uh.1 λd u p=>Zg (by exact⟨u,gL uh 0,gL uh 1,gG uh 0,n⟩) p;have J:=M 0 kR pre_take kU kT cp  Ex.1 λd u=>amg (by exact⟨u,gL Ex 0,gL Ex 1,gL Ex 2⟩);have d4:=q 0 Gq Gr Gs cn  Ey.1 λd u p=>ami (by exact⟨u,gL Ey 0,gL Ey 1,gL Ey 2⟩) p;have hN:=q 1 yT yU yV ht  ig.1 λd u p=>adh (by exact⟨u,gL ig 0,gL ig 1,gL ig 2,gL ig 3,gL ig 4,gL ig 5,gG ig 0,gG ig 1,gG ig 2,gG ig 3,C,c7 d4 d,n,c7 CM d⟩) p;have RD:fz l.prog w K mg base lO 1 Dq _ ["self","kinds","elders","starts"] (ub K f "Tree" 4 yg yh yi):=Lw Z.1 iP.1 λgE B outer s H E b a y d j=>by
  obtain⟨p0,p1,p2⟩:=a;refine QI ?_ p0 p1 p2 y j;exact⟨⟨⟨iP.nd,rfl,.never⟩,d.units⟩,gL iP 0,gL iP 1,gL iP 2,gL iP 3,gG iP 0,k,b8,A,I,rX⟩
 have d3:=q 2 Gw Gy Gz cm  ag2 λd u p=>amo (by exact⟨u,qX gU 0,qX gU 1,qX gU 2,z7 gU 3,b9 gU 3 rfl,qX gU 4,qX gU 5,z7 gU 6,b9 gU 6 rfl,qX gU 7,qK gU 8,qK gU 9,qK gU 10,qK gU 11,qK gU 12,qK gU 13,c7 hN d,C,n,c7 CM d,bo,⟨⟨_,_,_,⟨fb,Z.a,Z.i,e8⟩,RD,d6,RA⟩,d.mono Wl⟩⟩) p;have S:=M 1 Ax vR vS vQ cf  xE.1 λd u=>amr (by exact⟨u,gL xE 0,gL xE 1,gL xE 2,gL xE 3,gG xE 0,⟨J,d.mono Wl⟩⟩);have R:=M 2 Ay AA AF Az en  mU.1 λd u=>amt (by exact⟨u,gL mU 0,gL mU 1,gL mU 2,gL mU 3,gL mU 4,gG mU 0,gG mU 1,gG mU 2,gG mU 3,⟨J,d.mono Wl⟩,⟨S,d.mono Wl⟩,O,n⟩);have OG:=q 3 qa qb qc Oq  IY λd u p=>MN (by exact⟨u,qX dN 0,z7 dN 1,b9 dN 1 rfl,z7 dN 2,b9 dN 2 rfl,z7 dN 3,b9 dN 3 rfl,qK dN 4,qK dN 5,qK dN 6,OB,C,⟨J,d.mono Wl⟩,⟨R,d.mono Wl⟩⟩) p;have ba:=M 2 MP MR MS MQ cb  vV.1 λd u=>aqP (by exact⟨u,gL vV 0,gL vV 1,gL vV 2,gL vV 3,gL vV 4,gG vV 0,gG vV 1,⟨J,d.mono Wl⟩,⟨S,d.mono Wl⟩⟩);have a0:=q 3 MT MV MX b7  amw λd u p=>aqS (by exact⟨u,qX gy 0,z7 gy 1,b9 gy 1 rfl,z7 gy 2,b9 gy 2 rfl,z7 gy 3,b9 gy 3 rfl,qX gy 4,z7 gy 5,b9 gy 5 rfl,z7 gy 6,b9 gy 6 rfl,z7 gy 7,b9 gy 7 rfl,qX gy 8,qX gy 9,qX gy 10,qX gy 11,qX gy 12,qK gy 13,qK gy 14,qK gy 15,qK gy 16,n,⟨J,d.mono Wl⟩,C,OB,⟨ba,d.mono Wl⟩,⟨R,d.mono Wl⟩⟩) p;have OI:fz l.prog w K mg base lO 1 Bc _ ["self","boxes","names","tree","ins","outs","ways"] (ub K f "Chart" 7 vX vY vZ):=Lw pL.1 dO.1 λgE B outer s H E b a y d j=>by
  obtain⟨p0,p1,p2,p3,p4,p5⟩:=a;refine M0 ?_ p0 p1 p2 p3 p4 p5 y j;exact⟨⟨⟨dO.nd,rfl,.never⟩,d.units⟩,gL dO 0,gL dO 1,gL dO 2,gL dO 3,gL dO 4,gL dO 5,gL dO 6,gG dO 0,k,aA,ao,t,z,rW,o,wR,uV,r⟩
 have fu:fz l.prog w K mg base lO 5 Xq _ ["script"] (Px K f 1 xH xJ xK):=FE EV.1 QL λgE B outer s H E b a kH d j=>by
  refine ag8 ?_ j;exact⟨⟨⟨QL.nd,rfl,.never⟩,d.units⟩,z7 cI 0,b9 cI 0 rfl,qX cI 1,z7 cI 2,b9 cI 2 rfl,qX cI 3,z7 cI 4,b9 cI 4 rfl,qX cI 5,z7 cI 6,b9 cI 6 rfl,z7 cI 7,b9 cI 7 rfl,qX cI 8,qX cI 9,qX cI 10,qX cI 11,qX cI 12,qK cI 13,qK cI 14,qK cI 15,qK cI 16,qK cI 17,qK cI 18,qK cI 19,c7 CM d,⟨J,d.mono Wl⟩,c7 d3 d,n,C,⟨⟨_,_,_,⟨hy,pL.a,pL.i,hx⟩,OI,fA,Oz⟩,d.mono Wl⟩,D,O,c7 OG d,c7 a0 d,b8,A,I,LA bl kb kH hn.1 (Rt.1) (hl.1),LY d,d⟩
 have ft:=Wo fu fR EV.kp fI;have fo:=q 0 B4 B5 xM e6  ads λd u p=>ahd (by exact⟨u,z7 jr 0,b9 jr 0 rfl,z7 jr 1,b9 jr 1 rfl,z7 jr 2,b9 jr 2 rfl,qX jr 3,qK jr 4,qK jr 5,qK jr 6,qK jr 7,bj,bg,n,C,bc⟩) p;have Ij:=Kq l.prog w mg base f 0 lY lZ mh HW  iV.1 λd u p=>GF (by exact⟨u,gL iV 0,gL iV 1,gL iV 2,gG iV 0,k,ao,N,nQ⟩) p;have D3:=Kq l.prog w mg base f 0 kY kZ k6 DY  mj.1 λd u p=>DP (by exact⟨u,gL mj 0,gG mj 0,k,aA,ao,t,z,F⟩) p;have CP:=Kq l.prog w mg base f 0 j9 kg kh CK  k7.1 λd u p=>B7 (by exact⟨u,gL k7 0,gG k7 0,k,aA,ao,t,z⟩) p;have D4:=Kq l.prog w mg base f 0 k8 k9 lg DZ  mz.1 λd u p=>DR (by exact⟨u,gL mz 0,gG mz 0,k,ao,F⟩) p;have OJ:=Kq l.prog w mg base f 0 qg qh qi Ot  rq.1 λd u p=>M6 (by exact⟨u,gL rq 0,gG rq 0,n,ao,N⟩) p;have d0:=q 1 GH GJ GK el  Xb.1 λd u p=>amD (by exact⟨u,gL Xb 0,⟨Ij,d.mono Wl,ao⟩,⟨D3,d.mono Wl,ao⟩,⟨CP,d.mono Wl,ao⟩,⟨D4,d.mono Wl,ao⟩,⟨OJ,d.mono Wl,ao⟩⟩) p;have dV:=q 0 AQ AU AV ek  ED.1 λd u p=>amF (by exact⟨u,gL ED 0,gL ED 1,gG ED 0,k⟩) p;have fm:=M 0 B9 Cb Cd Ca e5  QN.1 λd u=>ahg (by exact⟨u,gL QN 0⟩);have hM:=q 0 yX yZ y9 hh  xN.1 λd u p=>adw (by exact⟨u,gL xN 0,gL xN 1,gL xN 2,k,aA,ao,b8,o,t,z,rW,wR,uV,r,A,I,rX⟩) p;have Xw:=q 0 xO pR xP e4  adx λd u p=>ahi (by exact⟨u,qX AW 0,z7 AW 1,b9 AW 1 rfl,qK AW 2,Dr,b8,I⟩) p;have RH:=q 1 rA rB mV Ru  iQ.1 λd u p=>QT (by exact⟨u,gL iQ 0,gL iQ 1,gL iQ 2,gL iQ 3,gL iQ 4,gG iQ 0,c7 Xw d,b8,A,rX⟩) p;have ZV:∀dd,fz l.prog w K mg base lO (3+dd) Rl lq ["tree","memory","mood","mode"] (Px K f 4 qj (ki dd) mC):=by
  intro dd
  induction dd using Nat.strongRecOn with
  | ind dd ih=>
   rw[show 3+dd=(2+dd)+1 by lia];exact Eb L.1 iu.1 λgE B outer s H E b a d j=>by
    refine adz (dd:=dd) ?_ j;exact⟨⟨⟨iu.nd,rfl,.never⟩,d.units⟩,gL iu 0,gL iu 1,gL iu 2,gL iu 3,gL iu 4,gL iu 5,gL iu 6,gG iu 0,gG iu 1,c7 RH d Wc,λd' hd=>⟨⟨_,_,_,ih d' hd,RB,L.kp,RC⟩,d.mono Wc⟩⟩
 have hL:=ZV 40;have RJ:=Wo hL RB L.kp RC;have K6:=q 0 qO nB nE ZJ  qk.1 λd u p=>Zj (by exact⟨u,gL qk 0,gL qk 1,gL qk 2,gL qk 3,aA,wR⟩) p;have fl:=q 43 Ci Cj xQ e3  ql.1 λd u p=>ahl (by exact⟨u,gL ql 0,gL ql 1,gL ql 2,gG ql 0,gG ql 1,gG ql 2,n,c7 RJ d,c7 K6 d,aA,o,rW⟩) p;have hK:=q 0 za uA uB hg  KY.1 λd u p=>adB (by exact⟨u,gL KY 0,aA,ao,t,z⟩) p;have Xx:=q 0 xR sY xS eT  wk.1 λd u p=>ahn (by exact⟨u,gL wk 0,gL wk 1,gL wk 2,gL wk 3⟩) p;have JQ:=q 0 oh oi jS JC  iy.1 λd u p=>I0 (by exact⟨u,gL iy 0,gL iy 1,gL iy 2,gL iy 3,gG iy 0,k⟩) p;have hJ:=q 1 zb zc zf hc  sZ.1 λd u p=>adE (by exact⟨u,gL sZ 0,gL sZ 1,gG sZ 0,gG sZ 1,c7 JQ d,fy⟩) p;have dE:=q 2 GY GZ G0 ej  uD.1 λd u p=>amI (by exact⟨u,gL uD 0,gL uD 1,gL uD 2,gL uD 3,gG uD 0,gG uD 1,c7 Xx d,c7 hJ d⟩) p;have VF:=q 3 uE oY oZ Vu  fZ.1 λd u p=>UH (by exact⟨u,gL fZ 0,gL fZ 1,gL fZ 2,gL fZ 3,gL fZ 4,gL fZ 5,gL fZ 6,gG fZ 0,gG fZ 1,k,c7 dE d⟩) p;have Ds:=q 4 jL i7 mW Rw  dU.1 λd u p=>Q0 (by exact⟨u,gL dU 0,gL dU 1,gL dU 2,gL dU 3,gL dU 4,gL dU 5,gL dU 6,gG dU 0,gG dU 1,gG dU 2,k,auz fw hV,c7 VF d⟩) p;have Bj:=q 0 ly iz lz Ou  mX.1 λd u p=>Nk (by exact⟨u,gL mX 0,gL mX 1,gG mX 0,Bh,aA,r⟩) p;have Y:=q 0 mF mG mH eR  wC.1 λd u p=>ahr (by exact⟨u,gL wC 0,gL wC 1,gL wC 2,gL wC 3,b8,I⟩) p;have Bl:=q 1 mJ mK mL hb  tu.1 λd u p=>adI (by exact⟨u,gL tu 0,gL tu 1,gL tu 2,gG tu 0,c7 Y d⟩) p;have aT:=q 2 Np Nq EH b6  zl.1 λd u p=>aq5 (by exact⟨u,gL zl 0,gL zl 1,gL zl 2,gL zl 3,gG zl 0,gG zl 1,c7 Y d,c7 Bl d,b8,A⟩) p;have CQ:=q 3 nK kE nL ZK  ku.1 λd u p=>Zm (by exact⟨u,gL ku 0,gL ku 1,gL ku 2,gG ku 0,gG ku 1,gG ku 2,c7 aT d,Ih,Bh,aA,r,o⟩) p;have fk:=q 1 Cq xT Cr eP  wF.1 λd u p=>aht (by exact⟨u,gL wF 0,gL wF 1,gG wF 0,gG wF 1,n,c7 Y d⟩) p;have RK:=q 2 rG mY mZ Rx  lB.1 λd u p=>Q7 (by exact⟨u,gL lB 0,gL lB 1,gL lB 2,gG lB 0,c7 Bl d⟩) p;have dC:fz l.prog w K mg base lO 5 V _ ["chart","found"] (Px K f 2 A0 A1 A2):=FE Ov.1 Xl λgE B outer s H E b a kH d j=>by
  refine amM ?_ j;exact⟨⟨⟨Xl.nd,rfl,.never⟩,d.units⟩,z7 jT 0,b9 jT 0 rfl,qX jT 1,qX jT 2,qX jT 3,qX jT 4,z7 jT 5,b9 jT 5 rfl,qK jT 6,qK jT 7,qK jT 8,qK jT 9,D,c7 Bj d,c7 CQ d,bb,c7 fk d,Ih,c7 RK d,aA,o,r,LA bl kb kH eI.1 (Xu.1) (eH.1),LY d,d⟩
 have dA:=Wo dC ea Ov.kp d8;have JR:=q 0 oj om jU JD  Hf λd u p=>Jc (by exact⟨u,z7 qo 0,b9 qo 0 rfl,qX qo 1,aA,b8,A,o⟩) p;have dy:=q 0 Hg Hh A3 ei  EI.1 λd u p=>amO (by exact⟨u,gL EI 0,gL EI 1,gL EI 2⟩) p;have hI:fz l.prog w K mg base lO 2 Ro _ ["chart","opens","leaf","sign"] (Px K f 4 zm zo qp):=FE Bf.1 K0 λgE B outer s H E b a kH d j=>by
  refine adP ?_ j;exact⟨⟨⟨K0.nd,rfl,.never⟩,d.units⟩,z7 dB 0,b9 dB 0 rfl,qX dB 1,qX dB 2,qX dB 3,qX dB 4,qX dB 5,qX dB 6,z7 dB 7,b9 dB 7 rfl,qK dB 8,qK dB 9,qK dB 10,qK dB 11,qK dB 12,qK dB 13,qK dB 14,c7 Y d,Dr,d5,Ih,c7 dy d,U,D,aA,r,o,LA bl kb kH ZN.1 (K5.1) (ZO.1),LY d,d⟩
 have hH:=Wo hI hR Bf.kp hP;have fg:=q 1 Ct Cu Cv eD  qq.1 λd u p=>ahw (by exact⟨u,gL qq 0,gL qq 1,gL qq 2,gL qq 3,gL qq 4,gG qq 0,c7 Xx d⟩) p;have VG:=q 2 uJ uK pB Vv  nM.1 λd u p=>UU (by exact⟨u,gL nM 0,gL nM 1,gL nM 2,gG nM 0,c7 fg d⟩) p;have JS:=q 0 oq ou ow JF  ju.1 λd u p=>Je (by exact⟨u,gL ju 0,gL ju 1,gG ju 0,gG ju 1,OB,U,aA,r⟩) p;have ff:=q 3 Cw Cy xU eC  iA.1 λd u p=>ahz (by exact⟨u,gL iA 0,gL iA 1,gL iA 2,gL iA 3,gL iA 4,gL iA 5,gL iA 6,gG iA 0,gG iA 1,gG iA 2,gG iA 3,gG iA 4,c7 JR d,c7 hH d,c7 VG d,c7 JS d,k⟩) p;have du:=q 2 Ho Hq Hr eh  ahB λd u p=>amV (by exact⟨u,z7 xV 0,b9 xV 0 rfl,qX xV 1,z7 xV 2,b9 xV 2 rfl,qK xV 3,Ii,c7 Bl d⟩) p;have VH:=q 4 uN pC pD Vw  gM.1 λd u p=>U0 (by exact⟨u,gL gM 0,gL gM 1,gL gM 2,gL gM 3,gL gM 4,gG gM 0,gG gM 1,gG gM 2,c7 du d,c7 CQ d,D,aA,o⟩) p;have OL:=q 0 qu lD qv Ow  eZ.1 λd u p=>NQ (by exact⟨u,gL eZ 0,gL eZ 1,gL eZ 2,gL eZ 3,gL eZ 4,gL eZ 5,gL eZ 6,gG eZ 0,k,b8,I,A⟩) p;have dt:=q 1 Ht A7 wI eg  pG.1 λd u p=>amY (by exact⟨u,gL pG 0,gL pG 1,gL pG 2,gL pG 3,gL pG 4,gG pG 0,gG pG 1,gG pG 2,c7 Y d,k,Ii⟩) p;have ZW:=q 43 qQ qR qS ZR  dW.1 λd u p=>Zo (by exact⟨u,gL dW 0,gL dW 1,gL dW 2,gL dW 3,gL dW 4,gL dW 5,gL dW 6,gL dW 7,gL dW 8,gG dW 0,gG dW 1,gG dW 2,gG dW 3,c7 dt d,c7 RJ d,c7 Xw d,D,b8,A⟩) p;have JT:=q 44 jV iW jW JG  cK.1 λd u p=>Ji (by exact⟨u,gL cK 0,gL cK 1,gL cK 2,gL cK 3,gL cK 4,gL cK 5,gG cK 0,gG cK 1,gG cK 2,gG cK 3,gG cK 4,c7 ZW d,c7 CQ d,Bh,T,D,aA,r,o⟩) p;have RL:=q 2 uQ qw qx ha  mP.1 λd u p=>adU (by exact⟨u,gL mP 0,gL mP 1,gL mP 2,gG mP 0,gG mP 1,gG mP 2,T,Bh,c7 Bl d,aA,b8,r,A,o⟩) p;have VJ:=q 3 uR pH pI Vx  iI.1 λd u p=>U6 (by exact⟨u,gL iI 0,gL iI 1,gL iI 2,gL iI 3,gL iI 4,gL iI 5,gG iI 0,c7 RL d,aA,uV⟩) p;have VL:=q 0 uS pJ pK Vy  kF.1 λd u p=>U8 (by exact⟨u,gL kF 0,gL kF 1,gL kF 2,gL kF 3,gG kF 0,fv,aA,r⟩) p;have fe:=q 45 xW xX tG eA  adV λd u p=>ahF (by exact⟨u,z7 eN 0,b9 eN 0 rfl,qX eN 1,qX eN 2,qX eN 3,qX eN 4,z7 eN 5,b9 eN 5 rfl,qX eN 6,qX eN 7,qX eN 8,qK eN 9,qK eN 10,qK eN 11,qK eN 12,qK eN 13,qK eN 14,qK eN 15,c7 VH d,c7 OL d,c7 JT d,c7 VJ d,c7 VL d,c7 K6 d,D,c7 Bj d,c7 RL d,aA,o⟩) p;have Bm:=Kq l.prog w mg base f 46 jF gV jG Bg  cE.1 λd u p=>A9 (by exact⟨u,gL cE 0,gL cE 1,gL cE 2,gL cE 3,gL cE 4,gG cE 0,gG cE 1,gG cE 2,c7 dA d,c7 ff d,c7 fe d,aA,ao,F,u6,t,z⟩) p;have wV:=Tw l.prog w mg base f 47 iB iD iE iC HX  bV.1 λd u=>HC (by exact⟨u,gL bV 0,gL bV 1,gL bV 2,gL bV 3,gL bV 4,gL bV 5,gL bV 6,gL bV 7,gG bV 0,gG bV 1,gG bV 2,gG bV 3,k,OD,c7 Ds d,n,⟨Bm,d.mono Wl,ao⟩,aA,ao,F,t,z⟩);have JV:fz l.prog w K mg base lO 49 rV _ ["self","boxes","place","script"] (oe K f 4 iY oz jX iZ):=Tc rY.1 fq.1 (λa j=>by
  obtain⟨p0,p1,p2,p3,p4⟩:=a;dsimp only [iY,iZ]
  repeat (first|exact trivial|refine⟨rfl,?_⟩)) λgE B outer s H E b a d j=>by
  refine Jl ?_ _ j;exact⟨⟨⟨fq.nd,rfl,.never⟩,d.units⟩,gL fq 0,gL fq 1,gL fq 2,gL fq 3,gL fq 4,gG fq 0,c7 Ds d,⟨wV,d.mono Wl,ao⟩,aA,ao,F,N,t,z,nQ⟩
 have Ik:fz l.prog w K mg base lO 51 wQ _ ["self","chart"] (ub K f "NestRun" 2 tH tK tL):=Lw lH.1 dZ.1 λgE B outer s H E b a y d j=>by
  refine HG ?_ a y j;exact⟨⟨⟨dZ.nd,rfl,.never⟩,d.units⟩,gL dZ 0,gL dZ 1,gL dZ 2,gG dZ 0,gG dZ 1,gG dZ 2,c7 fl d,c7 hK d,⟨⟨_,_,_,⟨HY,HZ,Ic,rY.kp⟩,JV,hO,JN⟩,d.mono Wl⟩,ao,u6⟩
 have JW:=Tw l.prog w mg base f 0 oA oE oF oB JH  jv.1 λd u=>Jp (by exact⟨u,gL jv 0,gL jv 1,gG jv 0,gG jv 1,n,aA,ao,F,t,z,N⟩);have JX:=Tw l.prog w mg base f 48 jY oG j3 jZ JK  gA.1 λd u=>Jr (by exact⟨u,gL gA 0,gL gA 1,gL gA 2,gL gA 3,gL gA 4,gG gA 0,k,⟨wV,d.mono Wl,ao⟩,aA,ao,F,t,z,N⟩);have aI:fz l.prog w K mg base lO 53 _ _ ["script"] (Px K f 1 xY xZ x6):=Eb X.1 gB.1 λgE B outer s H E b a d j=>by
  refine aro ?_ j;exact⟨⟨⟨gB.nd,rfl,.never⟩,d.units⟩,gL gB 0,gL gB 1,gL gB 2,gL gB 3,gL gB 4,gL gB 5,gL gB 6,gL gB 7,gL gB 8,gL gB 9,gL gB 10,gL gB 11,gL gB 12,gG gB 0,gG gB 1,gG gB 2,gG gB 3,gG gB 4,gG gB 5,gG gB 6,gG gB 7,c7 ft d,⟨⟨_,_,_,⟨Vs,lH.a,lH.i,Vt⟩,Ik,ZU,Ig⟩,d.mono Wl⟩,c7 fo d,k,c7 d0 d,c7 dV d,C,⟨fm,d.mono Wl⟩,c7 hM d,⟨JW,d.mono Wl,ao⟩,⟨JX,d.mono Wl,ao⟩⟩
 exact aI.imp (agb Qcq Qcq ab)
def walk{l:PySem.W.OpenLaw}{q:Qax}{loose:At}{v:Bi->Heap->Prop}{e:World->Heap->Prop}{d:DefRec}{K:Params->Frag}{T0:BS}(j:l.most=some 63)(b:d.params.defaults=[])
  (o:∀(w:World) (h:Heap),e w h->(K w.params).In h) (r:∀(w:World) (h:Heap),e w h->∀P∈T0,h.get? P=some (tabObj #[]))
  (F:∀(w:World) (mg:Bi) (g:Addr) (h:Heap),(K w.params).In h->h.Ns mainGlobals mg->mg d.name=some (.ref g) →
   ∃(fd:QaC) (ts:Cl),(∀p∈ts,p.1∈T0/\ts.lookup p.1=some p.2/\(K w.params).lookup p.1=none/\∃c,CodeHd h c p.1)/\(∀(s:Qb) (u:Value),BindsTo s fd ⟨[u],[]⟩ [("script",u)])/\∀base:Heap,(K w.params).In base->base.Ns mainGlobals mg->FH mg base->fz l.prog w (K w.params) mg base lO 53 g fd ["script"] (spT (K w.params) ts 1 xY xZ x6)) :
  PySem.W.WalkO q loose v e l.row.toRowW d [] (λf vs=>PySem.call f vs):=
 abM (n:=63) (k:=53) (x:="script") (sp:=λw ts=>spT (K w.params) ts 1 xY xZ x6) j Wl b ⟨rfl,Wl,Wl⟩ o r F (λ_ _ _ a ns m t i=>agc rfl m rfl t i)
end Law
end
namespace PySem.W.Fast
def tw10004390603323046152:=0
def tw1006382420155453986:=0
def tw10130587462512094337:=0
def tw10199355327187686388:=0
def tw10239582857231517223:=0
def tw10311633070922387294:=0
def tw10353372298609282295:=0
def tw10381127016964253790:=0
def tw104472806408351710:=0
def tw1058223933837480041:=0
def tw10592904479128485726:=0
def tw10750167642657681728:=0
def tw11114688695812123027:=0
def tw11117235024731974880:=0
def tw11134225192582880988:=0
def tw1120712515355854491:=0
def tw11320211382042514606:=0
def tw11332348413599220829:=0
def tw11338909764018195088:=0
def tw11399687353310620563:=0
def tw11432800228412502299:=0
def tw11443122690651009585:=0
def tw11568777865069883744:=0
def tw11582071119269410542:=0
def tw11723605839111116205:=0
def tw1180401252318891222:=0
def tw11860916513903845721:=0
def tw11871747578646111870:=0
def tw11873923364465337172:=0
def tw11960373533952988577:=0
def tw1205419296159062653:=0
def tw12232246949249880494:=0
def tw12248244806756237391:=0
def tw12267369784718871401:=0
def tw1227026529411799251:=0
def tw12287722386894498991:=0
def tw12330660529946377638:=0
def tw12490144885226398793:=0
def tw12514058821565838112:=0
def tw12560246691646501282:=0
def tw12648412726366308081:=0
def tw12770771697021449719:=0
def tw12857742486244634028:=0
def tw12977448599545698617:=0
def tw1300304105241939959:=0
def tw13063985255940586551:=0
def tw13067095898876480750:=0
def tw1314333695446641728:=0
def tw13146047335868753149:=0
def tw13250084723811949292:=0
def tw13273902350697215662:=0
def tw13298634940168130483:=0
def tw13434526399116972915:=0
def tw1347550662089386471:=0
def tw13588332924821719092:=0
def tw13636667060185092952:=0
def tw1365886492468459623:=0
def tw13678019369539969874:=0
def tw13706302420149265073:=0
def tw13754529593282503660:=0
def tw1385518996948799489:=0
def tw13963631485998027517:=0
def tw14018585845574122847:=0
def tw14028333463441235083:=0
def tw14032549948692147932:=0
def tw14099189688269658356:=0
def tw14216935509513778784:=0
def tw1422844217546482100:=0
def tw14241175537387968665:=0
def tw14272686985917268956:=0
def tw14330524458573775528:=0
def tw14383885508937997402:=0
def tw14391816532857374100:=0
def tw14452186098159494910:=0
def tw14547522012840123155:=0
def tw14620774132308004485:=0
def tw14635187408652568851:=0
def tw14701177121592144216:=0
def tw14734672546519169303:=0
def tw1474631799955310922:=0
def tw1476805847517991768:=0
def tw14813088426557800539:=0
def tw14861973955165035023:=0
def tw14892111107541699258:=0
def tw14995406159104581451:=0
def tw15197982977545975238:=0
def tw15250416401275342087:=0
def tw15300109648864642400:=0
def tw15367032089329851732:=0
def tw15649547872582324744:=0
def tw15811681756605951941:=0
def tw15856658510041086961:=0
def tw15884117137301193547:=0
def tw15899812278607010935:=0
def tw15971310088380243653:=0
def tw1601938870879915417:=0
def tw16098964307427531925:=0
def tw16147395032504344890:=0
def tw16190829651981885364:=0
def tw16253472367853065414:=0
def tw16308945709883192171:=0
def tw16334890901755687839:=0
def tw1634378453334939239:=0
def tw16417477556890420145:=0
def tw16476522734061563554:=0
def tw1648419726997480552:=0
def tw16678658904548769470:=0
def tw16731349449167514105:=0
def tw16828704446535048431:=0
def tw16892325710776792320:=0
def tw16931761544697111842:=0
def tw16938314698688694577:=0
def tw17004989826436704619:=0
def tw17019156631729472192:=0
def tw1710112530611543061:=0
def tw17106055214851939696:=0
def tw17109983930968711318:=0
def tw17130123976915869131:=0
def tw17136228909383198545:=0
def tw17219768236784904918:=0
def tw17391120892373224858:=0
def tw17436075589992620341:=0
def tw17579253180796335134:=0
def tw17696917859520217673:=0
def tw17730122446372432931:=0
def tw17737391327465306410:=0
def tw1775260460680192529:=0
def tw17839011604450008864:=0
def tw17935959914517969603:=0
def tw18099473624457694783:=0
def tw18115527256155719236:=0
def tw18210304684199399789:=0
def tw18333837525250948615:=0
def tw1866859105007760871:=0
def tw1867009264402383770:=0
def tw1874308783143247839:=0
def tw1877344491554130026:=0
def tw191362800998664848:=0
def tw1958526544253181129:=0
def tw198274131998820323:=0
def tw2066567308753810653:=0
def tw222972730963398388:=0
def tw223726818708902520:=0
def tw2260080662582836349:=0
def tw2310813582703479720:=0
def tw2335297389261295042:=0
def tw2350174942915337118:=0
def tw2485694651938648577:=0
def tw2796519412793205752:=0
def tw2806735579351911821:=0
def tw2883819383691177107:=0
def tw2906053812694358146:=0
def tw295041946532721942:=0
def tw298602362911548958:=0
def tw299821599316550120:=0
def tw300639077340559292:=0
def tw3054162345656712084:=0
def tw3133495014769451936:=0
def tw3139502850004679865:=0
def tw3245116870958532015:=0
def tw3268871990581093192:=0
def tw331195598382387076:=0
def tw3455595328527487028:=0
def tw3456254217782728110:=0
def tw368003235253164903:=0
def tw3740276934521783723:=0
def tw3889546328645905013:=0
def tw3937928621226249739:=0
def tw3939875901424842017:=0
def tw4249013396360345220:=0
def tw4339435158359519869:=0
def tw4404576303620592162:=0
def tw4422931148553263036:=0
def tw4426847427070983501:=0
def tw4437133413845545882:=0
def tw4455150240515081098:=0
def tw4531071496791796821:=0
def tw4544451456940144539:=0
def tw4569961974091729875:=0
def tw4573649236464198433:=0
def tw4614869856472930983:=0
def tw4657180865799408000:=0
def tw4836138371174707971:=0
def tw4884574251672364135:=0
def tw4895462742844708853:=0
def tw5027032215147791918:=0
def tw5151264041659729011:=0
def tw5160038020411711136:=0
def tw5466607220891445161:=0
def tw5470908341458733691:=0
def tw5581348861963182728:=0
def tw5735788929042202801:=0
def tw5763405971359226928:=0
def tw5831518358644408020:=0
def tw5892036502482927373:=0
def tw5942224990465344491:=0
def tw5985329979349613399:=0
def tw603330272133667043:=0
def tw6065548076672096112:=0
def tw6095329838300868773:=0
def tw6117104330486129767:=0
def tw6316912013937608290:=0
def tw6356535778748359159:=0
def tw6531066412142142666:=0
def tw6563582906774045209:=0
def tw6616012229420396657:=0
def tw6624933536622642361:=0
def tw6683692712152887599:=0
def tw6696440472521476066:=0
def tw6758974519335625475:=0
def tw6849605816476612865:=0
def tw6933932762623427517:=0
def tw6972283884813602220:=0
def tw6975058159553734527:=0
def tw7024547782006766024:=0
def tw7055067952554498281:=0
def tw7074867066639636446:=0
def tw7112404362356973302:=0
def tw712387733868045095:=0
def tw7240869623551106602:=0
def tw7279548285634508862:=0
def tw7343660008998861650:=0
def tw73570331103359407:=0
def tw7497107595693659086:=0
def tw7579177572837169168:=0
def tw7604997815041386825:=0
def tw7734463680723249534:=0
def tw7882097238889094849:=0
def tw7888212288826760893:=0
def tw7888476564035104823:=0
def tw7935266819649127757:=0
def tw7969033444905420374:=0
def tw7971715976934317173:=0
def tw7979018632577368111:=0
def tw8188075755379144502:=0
def tw8502802738003388331:=0
def tw853308133867269195:=0
def tw8563954838845912211:=0
def tw8617754651470168568:=0
def tw8628098863709252474:=0
def tw8629058311028920786:=0
def tw8713770769601287387:=0
def tw877965222037918516:=0
def tw8807002678617303101:=0
def tw8824305216452228017:=0
def tw8863718677742970035:=0
def tw8871072537410075885:=0
def tw8974357889638741829:=0
def tw9124942070857906284:=0
def tw9180361948989258754:=0
def tw9213938819437720425:=0
def tw9326434642361748802:=0
def tw9370858280504519420:=0
def tw9393819209497492974:=0
def tw9531750119384075727:=0
def tw9634375087796482810:=0
def tw9797342926141400720:=0
def tw982370355126668835:=0
def tw9972484614254612561:=0
def tw9990066267148963931:=0
end PySem.W.Fast
open PySem PySem.W PyProof.Rows
set_option maxRecDepth 100000 in
set_option maxHeartbeats 0 in
theorem PySem.Challenge.cw_moodtree_k48_two_runs_apart_holds : PySem.Challenge.rw_moodtree_k48_two_runs_apart.Holds := by
 w_on; o_law; k_head; (case hw => w_witness2)
 k_fill
 refine Law.walk (l := PySem.Challenge.rw_moodtree_k48_two_runs_apart) rfl rfl (λw h Y => PySem.W.km_in_of Y) (λw h Y => PySem.W.km_tabs_of Y) ?F
 case F =>
   intro w mg fa h KX G hmg
   apply Law.all_mk KX G hmg
   all_goals first | exact L3.Wq.mk (n := 1) rfl | (refine L3.Wq.mk (n := 2) ?_; kernel_rfl) | (refine L3.Wq.mk (n := 3) ?_; decide) | (apply L3.fn1 <;> k_is) | (apply L3.fn2 <;> k_is) | ((try delta L3.InG); k_is)
