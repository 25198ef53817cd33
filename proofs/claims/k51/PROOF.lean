import PyProof.Rows.All
import Wide.All
import OpenK.AllK
import Wide.FinOn
import Lean
import PyProof.EqAt
import PyProof.EqKinds
import PyProof.TupleCall
import PySem.Challenge.RW_moodtree_k51_the_table
set_option Elab.async false
set_option linter.all false
set_option maxRecDepth 100000
set_option maxHeartbeats 4000000
open PySem.W (instObj hideAll Frag lookIn plainGet hasDictIn findIn handedIn plainGet_of isFn plainOver takerIn any_some makesIn emptyDict keepIn methodCall_KW cellsFrom_some fnOf codeIn kla_obj CodeHd envX kla_fn codeHdIn codeHd_of_K tabObj nsOkIn nsIn tailIn exmOne mroIn kas_item kas_range kas_cmp)
theorem We{p:Prop}(h:p:=by lia):p:=h
def Wl{p:Prop}(h:p:=by decide +kernel):p:=h
def Wm{p:Prop}(h:p:=by decide):p:=h
def Wp{p:Prop}(h:p:=by simp):p:=h
theorem WA{p:Prop}(h:p:=by simp_all):p:=h
theorem WB{p:Prop}(h:p:=by grind):p:=h
theorem WE{p:Prop}(h:p:=by simp;lia):p:=h
open Lean in
def qqM (k:Name) (x:List Syntax):Syntax:=.node .none k x.toArray
open Lean in
def qqL (x:String):Syntax:=.atom .none x
open Lean in
def qqN (x:String):Syntax:=mkIdent x.toName
open Lean in
def qqC (x:List Syntax):Syntax:=qqM nullKind (x.intersperse (qqL ","))
open Lean in
def qqS (q:List Syntax) (t:String):List Syntax:=
 let r:=(t.drop 1).toString;let n:=r.toNat?.getD 1;let s:=q.drop n;let a:=(q.take n).reverse;let y:=q.headD .missing;let o:=q.tail;let x:=o.headD .missing;let w:=o.tail;let p:=qqM ``Parser.Term.hygienicLParen [qqL "(",qqM hygieneInfoKind [mkIdent .anonymous]]
 match t.front with
 | '@'=>qqM ``Parser.Term.app [s.headD .missing,qqM nullKind a]::s.tail
 | '['=>qqM `«term[_]» [qqL "[",qqC a,qqL "]"]::s
 | '<'=>qqM ``Parser.Term.anonymousCtor [qqL "⟨",qqC a,qqL "⟩"]::s
 | ','=>qqM ``Parser.Term.tuple [p,qqM nullKind [a.headD .missing,qqL ",",qqC a.tail],qqL ")"]::s
 | '.'=>qqM ``Parser.Term.dotIdent [qqL ".",qqN r]::q
 | '!'=>qqM ``Parser.Term.explicit [qqL "@",qqN r]::q
 | '\''=>Syntax.mkStrLit r::q
 | '_'=>(if r.isEmpty then qqM ``Parser.Term.hole [qqL t] else qqN t)::q
 | '='=>qqM ``Parser.Term.namedArgument [qqL "(",qqN r,qqL ":=",y,qqL ")"]::o
 | '>'=>qqM ``Parser.Term.proj [y,qqL ".",if r.isNat then Syntax.mkLit fieldIdxKind r else qqN r]::o
 | '~'=>qqM (.mkSimple s!"term{r}_") [qqL r,y]::o
 | '^'=>qqM ``Parser.Term.arrow [x,qqL "→",y]::w
 | '`'=>qqM (.mkSimple s!"term_{r}_") [x,qqL r,y]::w
 | ':'=>qqM ``Parser.Term.typeAscription [p,x,qqL ":",qqM nullKind [y],qqL ")"]::w
 | '?'=>qqM `termIfThenElse [qqL "if",w.headD .missing,qqL "then",x,qqL "else",y]::w.tail
 | '\\'=>qqM ``Parser.Term.fun [qqL "fun",qqM ``Parser.Term.basicFun [qqM nullKind [if r=="_" then qqM ``Parser.Term.hole [qqL r] else qqN r],qqM nullKind [],qqL "=>",y]]::o
 | _=>(if t.isNat then Syntax.mkNumLit t else if t=="Prop" then qqM ``Parser.Term.prop [qqL t] else qqN t)::q
def qqT:Array String:=("
Shared


model X.prog X.w @2












.refl _ @








E.gg 0 @


aA E.ll 0 @ @
Inv X pins Y H s @5
j 1 `+

aA E.ll 1 @ @





E.gg 1 @

aA E.ll 2 @ @

List bM @


E.gg 2 @






E.gg 3 @
A Prop ^
.ref a @
n 1 `+





QD4
.cons h r @2 \\r \\h \\_ \\_
k1.trans k2 @
.ref f @
.inl rfl @
trivial \\_ \\_ \\_
QD5
model prog w @2
.ref C @
QD6
E.ll 2 @
aA E.ll 5 @ @
aA E.ll 6 @ @
AC X e [0 @3
bq K CL b H Z U Y ts vs @9
trivial \\_ \\_ \\_ \\_
E.ll 5 @
E.ll 4 @
QD7
.cu o .dT gs @ @2
e es `::
QD8
aA E.ll 3 @ @
E.ll 3 @
.inr rfl @
iq rfl @
QD9
.dT gs @
.nil \\_
v_ E.ll 2 @ >1 @
.Name x pos @2
E.ll 6 @
dh I q Wp @3
bP cL di hs @3
some t @
bY X CL b e U t δ1 @7
v_ E.ll 0 @ >1 @
aA Qar @
k 1 `+
QEa
QEb
.Name x pp @2
some v @
rC ws a @2
v vs `::
QEc
QEd
.cons h k a i4 _ b @2 @2 \\b \\a @ r k a iF _ b @2 @2 \\b \\a @ @2 \\k \\r \\h \\_ \\_
qG c br >2 @2
ao st @
ws.map dN @
.ins c fs @2
X.A.units 64 `+ cLine `<
b8 bu i8 _ @ @2
dG ks es ss @3
.sh d @
aV ks @
bw ks @
QEe
L2.Inv X pins Y H s @5
vL E.ll 3 @ >1 @
EP X pins Y Q @4
.int i @
E.ll 7 @
.tup xs @
E.gg 4 @
i 1 `+
QEf
e9 aK isAll es ss mem @5
trivial \\_
False \\_ \\_
.sh .int n @ @
.str x @
QEg
s.heap.objs.size 1 `+
v_ E.ll 1 @ >1 @
.lst xs @
.dK kvs @
.int _ @
bN st @
QEh
QEi
QEj
es.map .int @
es.length 1 `-
X.gS XE X W @2 @
sY X.stack @
upd H a o @3
.bl true @
.sh c.d @
QEk
QEl
iw.mp b @ >elim h a @ r a @ @2 \\b \\a \\r \\h \\_ \\_
cN X CL b e1 U .int i @ δ1 @7
dD X scope Nc C s H fp @7
absurd b km @2 \\b \\a
es.getD src.toNat 0 @2
.ref it @
aA Qbb @
res a @
.ref p @
fO a 9 @2
gC ws @
QEm
QEn
QEo
QEp
bq K CL b H Z U Y t ts `:: v vs `:: @9
v_ E.ll 3 @ >1 @
ah QD ah ai av @2 @2
.Call QaP Qau [0 pos @4
v_ E.ll 5 @ >1 @
l.map .int @
eZ ai @
XQ es ws @2
.ref e @
some t0 @
E.gg 6 @
E.gg 5 @
t ts `::
QEq
QEr
QEs
QEt
eO X.env scope.names [0 @3
cO E.ll 0 @ >1 rfl @2
cN X CL b e2 δ1 .int j @ U2 @7
he pins s Y H _ I h @7
absurd a Wm @2 \\a
A2 s es es.length @3
s.map .int @
iY _ rfl <2 @
.sh .int mo @ @
a sysModules `==
rfl \\_ \\_
ops.map .int @
rfl \\_
arg a @
k1.trans c @
j9 ks es w @3
model P w @2
gC ws i @2
0 i Int : `+
some v0 @
.Um q @
QEu
QEv
kG aV ks @ bw ks @ es ss mem false es.length false p @9 \\p
decide p cT es u tg @3 `∈ @ ~! \\p
ds.map T.sh @
Ir cd mo fl pl rs s @6
.lst ds @
ns.map V.int @
ks.map .str @
q \\q \\_
.dct kvs @
ps.zip us @
.tabs p >2 @
aM q hn @2
g1 g2 `++
eS ks @
QEw
QEx
QEy
QEz
QEA
QEB
QEC
QED
QEE
QEF
cN X CL b e U .lst ds @ δ1 @7
decide x u `≠ @ \\x
.ref s.heap.objs.size @
.Subscript e1 e2 pos @3
cH E.bU E.cV QD fB @4
absurd q km @2 \\q
I.cR.fresh ik _ @ @
.int n @
mem.map .int @
v_ E.ll 6 @ >1 @
ML c p QaW @3
toN c p QaW @3
v_ E.ll 7 @ >1 @
ah QP av @2
some Qad @
rC c.ws a @2
ss.map .int @
E.ll 8 @
c.trans a @
fL P w @2
.dT kvs @
.jt kvs @
E.gg 10 @
.ref x @
.int x @
qp p w @2
c 4 `/
nL ws @
f e `++
QEG
QEH
QEI
QEJ
QEK
QEL
QEM
QEN
QEO
QEP
swapsWith e some .Name x pos' @2 @ pos.line X.env @4 pure false @ `=
.ListComp elt tg iter ifs 0 <4 [1 scope pos @4
backToKw pos keywordEach [0 X.env @2 @2
.Compare e1 .NotIn [1 e2 [1 pos @4
e _ _ h @3
.Name 'isinstance pp @2
.sh .tup ds @ @
.tup ds @
us.reverse vs `++
bI QD ai rfl @3
bw ks s @2 \\s
some Qa3 @
U.set i none @2
.lst Qcz @
.sh .str sg @ @
vL E.ll 6 @ >1 @
v_ E.ll 4 @ >1 @
c.bs.map j7 @
iu s.rs @
CL 'Growth @
ak QbZ @
CL 'Chart @
CL exc a @ @
.inl z @
c9 rfl @
some QeL @
I.tok _ @
es x [1 `++
.inl w @
aq rfl @
fp gp `++
Qi s j @2
g i j @2
.bl b @
.sh _ @
j f `++
m 1 `+
QEQ
QER
QES
QET
QEU
QEV
QEW
QEX
QEY
QEZ
QE0
QE1
QE2
r k a ij _ b @2 @2 \\b \\a @
dD X scope Nc s3.heap.objs.size s3 upd H s.heap.objs.size .lst [0 @ @3 fp @7
dz X.prog X.w X.K X.mg X.base CX k f fd ps sp @11
.Name x pos' @2
.Call .Attribute QaP m apos @3 Qau [0 pos @4
.lst k _ gk @2 >trans h @ Qem @2 \\k \\r \\_ \\h
.ins k _ gk @2 >trans h @ Qem @2 \\k \\r \\_ \\h
.dct k _ gk @2 >trans h @ Qem @2 \\k \\r \\_ \\h
au keep a i4 _ c @2 @2 @ \\c \\a
.Compare e1 .NotEq [1 e2 [1 pos @4
xO ws ops sg es Qh ks ops @2 @5
jq n.hi n.hv n.hd n.iV @4
.pin r k @ @ \\k \\r \\_
CL 'TooWide @
tT E.bU E.cW QaK fC @4
c a b i @3 \\i \\_ \\b \\a
vL E.ll 4 @ >1 @
starEach Qau X.env @2
ah QD ah QH av @2 @2
.lst p >1 >map .int @ @
.lst p >2 >map .int @ @
.ins C dx fs @3
trivial \\_ \\_
.ins CL c @ dx gs @3
.sh .lst Qcg @ @
.lst tl @
z.elim \\z \\_
.builtin id @
.Dict [0 [0 pos @3
Rr ks es ss mem @4
ah Qaw av @2
Y.set i QaQ @2
bI QP ai rfl @3
.sh QcB @
s.fl.map lZ @
TP X pins Y Q @4
vM E.ll 4 @ >1 @
a.map .int @
R.drop i 1 `+ @
es.length 1 `+
es.getD x 0 @2
lH ks es ws @3
f1 f2 d `++ `++
CL 'Table @
X.pinned p @
.ref p @ vs `::
.lst us @
W3 ps @ δc `++
f.trans c @
b9 .nil Wl @2
ij _ hv @2
nI c mo @2
zc kz xs @2
D.jJ ds @
l.map f @
.ref Dd @
.tup ks @
aM e hn @2
.bl _ @
.inl h @
.ref l @
.ref c @
.val v @
.ref D @
.lst _ @
E.gg 7 @
E.ll 1 @
vs Jh `++
ka _ e @2
HW P w @2
oT _ _ @2
jQ a n @2
out a @
l r `::
QzN r `::
QE3
QE4
QE5
QE6
QE7
QE8
QE9
QFa
QFb
QFc
QFd
QFe
QFf
QFg
QFh
QFi
QFj
QFk
fnOf x qual gW st @ bN st @ ao st @ .none kV doc pm an eB ct @12
envOfC qual ao st @ s.heap.objs.size f eB @5
.dct Rd.mono e h @2 r @2 \\r \\_ \\h
kvs.any decide a >1 k `= @ \\a @
.tup aB.Gb e h @2 r @2 \\r \\_ \\h
.lst e.seq h @ r @2 \\r \\_ \\h
ZP X CL b Qau U arg a @ δ1 @7
seqObj 'list us.toArray 0 @3
.lst ds.filter p @ >map g @ @
X.env.frame some X.env.locals @ `=
some .lst tl t [1 `++ @ @
behindInMarks .NotIn e2 @2 false `=
BP X A q scope Nc f c s H @9
r3 X CL b tg iter U ds δ1 @8
pa.endLine pb.line `== true `=
200 12 j Int : `* `+
Fc X CL x k n arg Pre res @8
bq X.K CL b H Z U Y ts vs @9
.tup k.map kV @ @
.BinOp e1 .Add e2 pos @4
.j5 QdC r q @3 \\q \\r \\_ \\_ \\h
.ins QdC r @2 \\r \\_ \\h
.jt QdC r @2 \\r \\_ \\h
ah QD ah QaL av @2 @2
cO E.ll 4 @ >1 rfl @2
List.lookup f fs @2 some t @ `=
HW X.prog X.w @2
fO s most @2
Cc Addr Value `× `×
X.stack X.env X.outer `:: `=
.dct kvs k t ,2 [1 `++ @
g pins s Y H _ I h @7
f pins s Y H _ I h @7
.Attribute e f pos @3
1 aE s 62 @2 3 `% `+
.str sg @
0 i `≤ i ws.length `< `∧
X.xe False \\_ \\_ `=
Rr ks es ss mem w @5
u 1 ~- `= u bV es t @2 `∈ `∨
.sh .lst Qbv @ @
Gn bs hs bg pr R @5
keepIn K Qad @2 true `=
Binds X.K fd ps [0 @4
some Qa3 @ δc `::
.type 'list @
.sh t.cu @
e \\e \\_ \\_ \\_
eval e X.env @2
.bool true @
Int Int Bool ^ ^
jq hi hv hd iV @4
entry N Qcn @2
upd Z1 a Qat @3
bR K CL Z kvs gs @5
binaryOp .Add @
fs.lookup m @ none `=
vM E.ll 2 @ >1 @
True \\_
bC X.K CL c @ f @3
It Hp Prop ^ ^
s.trans c.zh @
xD b a Qat @3
.int i t @2
.ref CL c @ @
.ref Qez @
.j5 w ds es @3
Cc α `×
HW l.prog w @2
fj QaM X.A @2
lR X pins H a @4
gs k v ,2 [1 `++
xq ds k @2 some d @ `=
.ref D' @
K w.params @
.Name x px @2
Option Value @
Addr Prop ^
ic We We @2
kr j0 e @ @
h.trans g @
lx cj WE @ @
x2 a o gs @3
.own x @
List QpB @
Option Expr @
ij _ he @2
truthy v @
.sh .non @
ma.mpr We @
some t1 @
.cu o u @2
ij _ hl @2
ij _ hm @2
.own a @
.ref b @
.inl e @
mF kvs @
ij _ d @2
a y ys @2
zA R s @2
sub e @
f2 c `++
h k >1 @
r k >2 @
a >1 k `=
QFl
QFm
QFn
QFo
QFp
QFq
QFr
QFs
QFt
upd H s.heap.objs.size .lst [0 @ @3
keywordEach [0 X.env @2
.j5 k _ gk @2 >trans h @ ay.mono e f @2 ay.mono e g @2 @3 \\k \\g \\f \\h
some .Name x pos' @2 @
kG aV ks @ bw ks @ es ss mem eN mode @ es.length false @8
Ax X CL scope Nc xs.length tg parts ifs elt δc ds p g @13
.jt k _ gk @2 >trans h @ bR.mono e f @2 @2 \\k \\f \\h
XO nL ws @ j9 ks es gC ws k @2 @3 \\k Kp es @ @3
PySem.revObj l its.toArray.size Int : 1 `- @2
.Compare e1 .Is [1 .Constant .none kj p2 @3 [1 pos @4
eN mode @ true `= 'far 'new ?
.Call .Attribute o m apos @3 Qau [0 pos @4
0 gC ws i @2 >src `≤ gC ws i @2 >src es.length `< `∧
b9 .cons E.ll 0 @ >1 .inl E.jU @ .nil @3 Wl @2
swapsWith e none pos.line X.env @4 pure false @ `=
Gf X CL b Qau U arg a @ >map T.sh @ δ1 @7
l4.mpr keep p h rfl @3 \\h nd <2 @
[0 Ev : >isEmpty 0 1 ?
b X.ex `∈ X.iE.heap.objs.size b `≤ `∨
.str nz d.tS.toNat @ @
fX wg E.bL E.oG QA QN QH @5 @
.Call .Name 'len pp @2 e [1 [0 pos @4
a f2 `∈ H a @ Z a @ ?
.ins 'Growth fs @2
JR .inl w @ E.u Qaw Qal rfl @5
aj cg aj cg aL @2 @2
Qf X.K CL n arg Pre res @6
.Call .Name x p @2 Qau [0 pos @4
.Assign .Name x pos' @2 [1 e pos @3 dQ `::
Lies X pins Y H s H' e C a0 B s' @11
List.replicate es.length 1 ~- @2
bY X CL b e U .sh .bl p @ @ δ1 @7
scope.names.lookup x @ some .local @ `=
200 12 k Int : `* `+ 7 `+
.tup QdC r k @ @2 \\k \\r \\_ \\h
tO b fx r fs w WA @6 \\hw \\w
PassesOwn Qe X.A X.env X.xe @4
.Compare e1 .Eq [1 e2 [1 pos @4
U.set i some .sh t.cu @ @ @2
vJ ws w @2 [0 `= d7 h w @2 some true @ `= `∨
congrArg _ i @2 \\i \\_ \\_
aE s 200 12 j Int : `* `+ 7 `+ @2
.Compare a op [1 b [1 pos @4
.Name y py @2
some T.sh d @ @ \\d
bY X CL b e U Qa3 δ1 @7
x '__debug__ Str : `==
behindInMarks op b @2 false `=
xs.map x >2 >2 \\x @
cH E.iU E.gu QD kD @4
e7 aj QbZ aL @2 aD @2
keys.zip us.toArray @
hi pins s Y H _ I h @7
h H Z Y ts vs _ S k @8
x >1 >isSome \\x
Str Option NameKind @ ^
s.fl.getD n [0 [0 ,2 @2
.done .ret .none @ @
.Subscript o i pos @3
ka _ q @2 \\q \\_ \\_
nG.trans vC Wm hn @2 @
.builtin 'sorted @
j9 ks es gC ws k @2 @3
cy Qam ai @2
c.cR.fresh ik _ @ @
keepIn X.K Qad @2 true `=
oE ks es ss is os ws @6
X.mg 'reversed @ none `=
.Tuple elts kk pt @3
0 x `≤ x es.length `< `∧
vL E.ll 5 @ >1 @
s.trans s' @
kz.length us.length `=
upd H p .dK [0 @ @3
upd H p .dT [0 @ @3
kvs.length 1000000 `≤
getMethod I m pl @3
gs.Pairwise Qpm @
Nat Heap Prop ^ ^
fH K CL H Z U Y fp @7
some .lst tl0 @ @
.Tuple es j pos @3
X.mg 'sorted @ none `=
gC ws k @2
x '__name__ `≠
n8 X CL b e U i p @7
jQ s Qgi @2
X.mg 'range @ none `=
U.set i QdJ @2
arg a @ >length 1 `+ n `=
X.env X.outer `::
r \\r \\_ \\_
call Qad u [1 @2
X.A.units 1 `+ cLine `<
X.mg x @ some Qad @ `=
.ins c QbL @2
upd H a QaB @3
.pin y Qh5 @2
vM E.ll 3 @ >1 @
vL E.ll 2 @ >1 @
vL E.ll 7 @ >1 @
.type 'dict @
Array DictEntry @
Gl X 'reversed @2
q 6 k Int : `* `+
x >1 ~! \\x
.sh .int k @ @
.int j Int : @
Recv U i c fs g @5
putK kvs k v @3
r \\r \\_
X.mg 'len @ none `=
aE s k @2 13 `/ k `+
A.units 1 `+ cLine `<
k2.trans a2 @
c.ws.map dN @
.tup [0 @
SP X pins D @3
H a @ some QeH @ `=
oZ N Qcn @2
F8 f.heap H @2
zA R Vv _ @ @2
zA R Y9 _ @ @2
VA c p x br @4
ah Qal av @2
ah Qa8 av @2
aj QaD aL @2
D Option BA @ ^
Gl X 'sorted @2
br >1 >map xN @
PE X value tv @3
some Q3 @
I.lB x c e @3
uj r ta tb @3
hl j U2 p2 @3
X7 s q m n @4
Gl X 'range @2
f1 g c `++ `++
f1 g d `++ `++
m ops `∈
CL 'Tree @
E.gg 8 @
.lst ys @
e.trans s @
.sh Qba @
e.trans c @
.ok .next @
.lst [0 @
d.trans u @
g b o e a @4
ij _ hz @2
m.toNat 1 `+
q vJ ws w @2 `++
F5 c p sg @3
K.In s.heap @
List Qlm @
KT H kvs xs @3
h.mono e @
some e @
Hp Prop ^
iX kvs k @2
IE s q n @3
b8 bu aD @2
jC _ _ _ @3
X.mg x @ none `=
Gl X 'len @2
x l `∈
Arguments
.type T @
.tup ys @
eN mode @
tV H gp @2
o9 ws R @2
ds k [1 `++
c 16 `/
X.gS E @
α Int ^
.lst c @
E.ll 9 @
us ws `++
i4 _ a @2
i4 _ c @2
f1 f2 `++
i4 _ d @2
ne c d @2
BW _ n @2
lL _ Wm @2
l8 _ Wm @2
.lst List.range j @ >map Gr s es n k lK s es.length @2 >getD k 0 @2 @5 \\k @ >map dN @ >map T.sh @ @
.Call .Attribute QaP 'append pa @3 e [1 [0 pb @4
jd fY E.aY E.ef Qcb rfl rfl eV @6 rfl iy eV @ bF _ @ @4
.sh .tup .lst F7 c @ @ .lst yy c @ >1 >map .int @ @ .lst yy c @ >2 >map .int @ @ [3 @ @
.builtin 'type.__call__ .ref C @ us `:: kw <2 @2
attributeBase QaP 'append X.env eval QaP X.env @2 @4 eval QaP X.env @2 `=
.ExceptHandler some .Name x np @2 @ none b₀ suite `:: pos @4 rest `::
.pin y .ins 'Growth Ir c.d mo _ _ _ .sh .int s.sp @ @ @6 @2 @2
fnOf x x gW st @ bN st @ QaX .none kV doc pm an eB ct @12
.ListComp elt .Name y px @2 iter ifs 0 <4 [1 scope pc @4
jd fY E.aY E.iA Qcb rfl rfl lI @6 rfl iy lI @ rfl @4
.cons E.ll 0 @ >1 .inl E.ur @ .nil @3
.ListComp elt tg iter ifs 0 <4 [1 scope pc @4
T.ins 'Chart lX _ _ .ins 'Tree _ @2 _ _ _ @6 @2
a f2 `∈ H a @ Z a @ ? \\a
s.heap.IsRevIter it l items.size Int : 1 `- @3
swapsWith QkL none pos.line X.env @4 pure false @ `=
_ 1 ~- Int : EC es src _ @3 ?
envOfC qual scope s.heap.objs.size f cd @5
.ext xf f q params body scope Qca c @7 @
decide x pA ks es ops gs @4 `∈ @ ~! \\x
.lst A2 s es j @3 >map .str @ >map T.sh @ @
scope.names.lookup x @ some .globalImplicit @ `=
.Assign .Subscript e0 e2 ps @3 [1 e pos @3 dQ `::
ak cy aA E.ll 8 @ @ ai @2 @
.Call .Name 'list pp @2 e [1 [0 pos @4
fX yB E.bL E.Og QA QU QH @5 @
decide p cT es u t @3 `∈ @ ~! \\p
kr mm j0 e @ I.ok.sT x c C f @4 @2 @
upd H p .ext Ju w p [0 [0 [0 @5 @ @3
v_ E.ll 8 @ >1 @
t 'bool `== n 'int `== `&&
cQ X CL b dQ δ1.set i QaI @2 D @6
ak mL E.oG QN QH a >2 @4 @
.ins 'Growth MN c.d mo w s @4 @2
.lst ds.filter p @ >map g @ @ ts `::
.builtin 'object.__class__ @
.ins 'Growth MN cd mo w s @4 @2
Str Addr `×
.Name 'reversed q @2
.tup e.Gb h @ r @2 \\r \\_ \\h
.lst e.Hu h @ r @2 \\r \\_ \\h
.dct e.rd h @ r @2 \\r \\_ \\h
V Co Co Hp VK Prop ^ ^ ^ ^ ^
PySem.call f vs @2 \\vs \\f
.str nz 0 k Int : `+ >toNat @ @
ws.length 63 `≤ Eb ws @ Rt ws @ `∧ `∧
.Assign .Name x pos' @2 [1 e pos @3
scope.names.lookup x @ some .free @ `=
jq nm.hi nm.hv nm.hd nm.iV @4
.ins CL c @ dx oV f v gs @3 @3
.Compare e1 .In [1 e2 [1 pos @4
.ins 'Tree zf ks es ss @3 @2
ak v_ JX 1 =i rfl Wl @3 @ @
aW e7 aj cg Qh7 @2 aD @2 @
.sh .bl decide i j `= @ ~! @ @
ds.length JK.length `+ sizeLine `≤
.inl gs o rfl aC <4 @
trivial \\_ \\_ \\_ \\_ \\_
lookup_relabel_local h2 @
h k a i4 _ b @2 @2 \\b \\a @
r k a iF _ b @2 @2 \\b \\a @
dD X scope Nc C s0 a f0 @7
kk c ij _ o @2 @2 \\o \\c
e9 Qa4 Qa5 es ss mem @5
Option T @
B1 Nat Hp V Prop ^ ^ ^ ^
T.sh .int z @ @ \\z
aq _ rfl <2 @
.Constant Qbk j pos @3
.ext Ju w a ds vs us @5 @
cN X CL b e1 U Qbk δ1 @7
cN X CL b e1 U QcB δ1 @7
bY X CL b e1 U QdE δ1 @7
m pos pins s Y H _ I h @8
Fm X CL x k n arg Pre res @8
o8 X CL x k n arg Pre exc @8
ah bI QH ai rfl @3 av @2
Y7 c.ks c.es c.ws p >2 p >1 Qda @6
bY X CL b e U .sh QcF @ δ1 @7
handleBy Qb1 X.env hs @3
I.base.free b o e n a @5
.Constant Qba j pos @3
j pins s1 Y H1 _ m q1 @7
bY X CL b e U QdL δ1 @7
bY X CL b e U QeT δ1 @7
putK gs k v @3
hideAll s.heap Qby @2
V V Hp VK Prop ^ ^ ^ ^
tl.reverse ts `++
T.sh Qh1 @ \\d
.dct d8 iu s2.rs @ @ @
cH E.iU E.i7 QD ou @4
V.ref x >2 >1 @ \\x
.tup us @
Bool Shared Prop ^ ^
.Name 'reversed pq @2
seqObj 'list out c @3
kvs.take j @
hm b _ q z \\z @4
h pins s Y H _ I hw @7
hv pins s Y H _ I h @7
sysModules h.objs.size `<
vL E.ll 1 @ >1 @
Unit Shared Prop ^ ^
f QgS .int j u @2 @2
Flow Shared Prop ^ ^
BD X compareOp op @ r @3
ka _ e @2 \\e \\u \\b
Gf X CL b es U tl δ1 @7
cN X CL b e2 δ1 d U2 @7
s.heap.IsList l items @2
rawInt i Int : 1 `+ @
mem.getD m.toNat 0 @2
aA E.ll 12 @ @
starEach e [1 X.env @2
B0 Hp VK Prop ^ ^ ^
I.cR.fresh n2 _ @ @
World Heap Prop ^ ^
ks.map kV @
oP nk _ @ v3 _ _ @2 @2
decide i j `= @
ForInStep.yield r @
X.mg 'enumerate @ none `=
.Name 'sorted pp @2
d8 QdQ @
.sh .int qw s @ @ @
.sh .int EB s @ @ @
.sh .int Qgp @ @
.sh .lst Qc3 @ @
d.params.defaults [0 `=
starEach [0 X.env @2
n8 X CL b e0 δ1 i p @7
FG N P G X.env.scope @4
es.getD m.toNat 0 @2
bh.getD m.toNat 0 @2
tupleKind Qde @
V Hp VK Prop ^ ^ ^
codeIn K eB qual @3 true `=
items.size sizeLine `≤
isAll s @ \\s
yV E.ll 2 @ >1 rfl @2
a.free c d q n e @5
tE X.prog X.w H' h' @4
LO X pins Y tg R @5
Qt s.heap x dx C mA @5
us.length tl.length `=
k NameKind.free `==
List Key L3.D `× @
upd H p .dK gs @ @3
xt X CL b e U c δ1 @7
y t `= y bV es t @2 `∈ `∨
aj QbU aL @2
ys.length sizeLine `≤
tl.length sizeLine `≤
.sh r.mono ww @ @
T.lF p t0 @2 some QeL @ `=
.sh .int s.sp @ @
b8 aG cg bu @2 aD @2
Un fs ex H H1 h h1 @6
h1.trans z @
aQ K CL H Z t v fp @7
d.trans s' @
List Cc L3.D `× @
aE s 60 @2 3 `/ 26 `%
ak cy QH ai @2 @
Bi Heap Prop ^ ^
f.mem_iff.mp c @
res a @ >clean true `=
tl.length 1000000 `≤
execs st X.env @2
U.set i QaI @2
upd Z p Qmg @3
upd H p Qmg @3
upd H p Qe6 @3
upd H a Qbo @3
f1 g l `++ `++
a g j [0 `++ `++ `::
upd H1 a Qat @3
Passes Qgh X W @3
v_ E.ll 10 @ >1 @
ah QD Qc8 @2
c9 4 =j rfl @2
bK QaD ai pe @3
Int Int Int ^ ^
pyNext QbJ @
X.mg 'tuple @ none `=
Gl X 'enumerate @2
some .ref y @ @
PySem.W.OpenLaw
c.is.map .tup @
rfl \\v
AP X pins Y Q @4
r0 X.env.scope x @2
dO K CL Z kvs gs @5
.j5 X.w ds es @3
q a b c d e f @6
h w false ,2 [1 `++
oi List lY @ `×
vM E.ll 5 @ >1 @
vM E.ll 8 @ >1 @
vL E.ll 8 @ >1 @
α β Prop ^ ^
a.zh.trans s @
.sh .int m @ @
instObj C dx @2
decide i j `< @
decide j i `< @
.type 'str @
.List es pos @2
ay K CL Z ds us @5
h w true ,2 [1 `++
ah QeC av @2
fs.lookup f @
l.map D.int @
some Qpy @
0 \\_
X.gS Qps @
q >2 >map T.sh @
.int Qf6 @
.str w.sign @
.tup w.asks @
is.map .tup @
os.map .tup @
bP cL MG hs @3
i l `∈
lR X pins H kS @4
.j5 c ds es @3
jB K x st f fd @5
es.getD k 0 @2
aE s Qif @2
h.objs.size a `≤
newList [0 @
Ak Je cL @ @
T.lF p t0 @2 some u @ `=
.sh QpJ @
.sh Kw s @ @
start N vs @2
H b @ some Qf9 @ `=
H a @ some Qbp @ `=
ay K CL Z d v @5
notStar e @ true `=
UJ U is ps @3
l.getD i z @2
Str Int `×
hl w c ,2 [1 `++
ah QH av @2
kr QpK @
ml kr a @ @
d.trans a @
f1 g b `++ `++
Gl X 'tuple @2
g.trans f @
f1 q s `++ `++
x bV es m @2 `∈
some 1 ~- @
aA Qdc @
.tup w.lG @
.inl E.jU @
upd H x o @3
l.most some n @ `=
Key D `×
.ref D @ vs `::
us.length 64 `<
1 j Int : `+
ds.map g @
List QgW @
X.hand e @
.sh .any @
l.map zq @
.own rfl @
.str x t @2
Dh HE UC @2
ne b o e @3
qo h d b @3
qo h g f @3
jD _ _ _ @3
ah ai av @2
bG aL aD @2
rB k0 k1 @2
U7 0 rfl @2
e x `= H e @ some Qhc @ `= `∨
j.push Qfi @
.tup QmF @
.dct QmL @
kh lE JD ak yA E.bL E.cJ QA E.gg 4 @ QH @5 @ ak yA E.bL E.cJ QA E.gg 4 @ QD @5 @ @2 >1 jv JD ak yn E.bL E.fc QA E.gg 5 @ QH @5 @ ak yn E.bL E.fc QA E.gg 5 @ QD @5 @ @2 >1 @ \\_ @2 @
Ap es j9 ks es a @3 j9 ks es c @3 @3 \\c \\a
Db List lY @ `×
j9 ks es gC ws k @2 @3 \\k
e Int : u `= iT es u t e @4 e Int : t `≠ `∧ `∨ st e @ AV es u e @3 j8 ss mem fl e @ e @4 ch.getD e 0 @2 ? ?
b NameKind.free `== env.scope.kind .function `== `&& env.kindOf n @ some _ @ `== `&& true `= n NameKind.cell ,2 n b ,2 ?
b8 aG cF nv s w @2 E.jV Q1 aj cF s w ,2 E.uN E.gg 6 @ aj QaD aj QbU aL @2 @2 m @5 aL @2 trivial @5 bu @2 aD @2
DS X CL b Z δ1 ts vs CL c @ @8
kla_obj '<lambda> q params body scope Qca X.mg '__name__ @ >getD .none @ g i @9
newFunctionEnv scope X.env.globals Qca [0 X.env.qual none .none some X.env @ @8
r .ok .ret .bool true @ @ @ `= OldK f.heap s'.heap @2 s'.os f.os `= AllBare s'.gens @ `∧ `∧ `∧ \\s' \\r
aj bG [0 =ds aL aD @3 aj bG [0 =ds aL aD @3 aj cy Qam ai @2 aj cg aL @2 @2 @2 @2
h2 rfl H1 Z1 Y ts vs _ a.pop k v H2 Z2 c.trans d @ Qac f @6 \\f \\k2 \\d \\Z2 \\H2 \\v @9
assign .Name y py @2 X.env @2
mE aW vG aW b8 aG bG aL aD @2 bu @2 aD @2 @ ak cy QD ai @2 @ rfl We We sz We @ @6 @ e _ n1 @2 @2
h2 rfl H1 Z1 Y ts vs _ c k H2 Z2 a.trans d @ Qac f @5 \\f \\k2 \\d \\Z2 \\H2 @9
Option V @
dz X.prog X.w X.K X.mg X.base oj k f fd ps q4 X.K CL c n arg Pre res @7 @11
y c.d mo w x >1 s.rs s.sp <3 GS : toN c p QaW @3 ,6 \\y
far decide e kG aK isAll es ss mem far es.length near t @9 `∈ @ `&&
JU g f I h e pins s2 Y H2 x y v u Q i d c q @13 \\q \\c \\d \\i \\H2 \\y \\x \\s2 \\u \\v @5
swapsWith value some .Subscript o i pos' @3 @ pos.line X.env @4 pure false @ `=
.j5 k _ gk @2 >trans h @ ay.conv e f @2 ay.conv e g @2 @3 \\k \\g \\f \\h
swapsWith e some .Subscript QaP e2 ps @3 @ pos.line X.env @4 pure false @ `=
.int es.length Nat : @
mm j0 e @ I.ok.above @2
fY E.aY E.je Qcb rfl rfl gQ @6
xs.isEmpty ~! Builtin.List.listTooLong xs.size ys.size `+ @ `&& true `= ~¬
swapsWith e some .Subscript e0 e2 ps @3 @ pos.line X.env @4 pure false @ `=
.Subscript e0 e2 ps @3
kvs.map b >1 k `= b >1 t' ,2 b ? \\b @
fnOf name qual params body scope dV kV doc pm an eB ct @12
kvs.map a >1 k `= a >1 y ,2 a ? \\a @
c c `= b.B c @ >isSome true `= `∧ some _ @ b.B c @ ?
c c `= b.Z c @ >isSome true `= `∧ some _ @ b.Z c @ ?
.ListComp elt .Name y px @2 iter ifs 0 <4 [1 scope pos @4
.ins 'Growth MN cd mo w t8 s.fl p @2 s.rs s.sp <3 @4 @2
ak aN E.ua QU @2 @
n 'int 'str 'list 'tuple 'bool 'dict [6 `∈
kla_fn '<lambda> q params body scope cl pm cd ct @9
G.all sc.names.lookup x @ some .globalImplicit @ `== \\x @
ak aN E.Iw QA @2 @
HT.F9 xs.length xs.length hi @3 HT.F9 xs.length 0 lo @3 `-
a >1 k `= a >1 v ,2 a ? \\a
a >1 k `= a >1 d ,2 a ? \\a
attributeBase o 'index X.env eval o X.env @2 @4 eval o X.env @2 `=
starEach e1 e2 [2 X.env @2 false eval e1 X.env @2 ,2 starEach e2 [1 X.env @2 `:: `=
.jt k _ gk @2 >trans h @ bR.conv e f @2 @2 \\k \\f \\h
H a @ >isSome true `= Z a @ W' a @ ?
wpAny_updateSeq hl rfl b =hz hz =_hz' @4
.Call .Attribute QaP 'extend pa @3 e [1 [0 pb @4
R.map T.lst l.map D.int @ >map T.sh @ @ \\l @
dz X.prog X.w X.K X.mg X.base oj k f fd ps Qh8 @11
X.env.kindOf y >1 @ some .cell @ `= X.env.kindOf y >1 @ some .free @ `= `∨
a.contains y >1 @ scope.names.lookup y >1 @ some .free @ `== `&&
xf h'.objs.size q params body scope Qca g @7
.Call .Attribute o 'index apos @3 e [1 [0 pos @4
decide x pA ks es ops QaR @4 `∈ @ ~! \\x
ak cy QD ai @2 @
lC yG f hm PySem.boot_len QaH hs =he @6
.Call .Attribute e0 'append pa @3 e [1 [0 pb @4
fnOf x x gW st @ Qbr QaX .ref tp @ kV doc pm an eB ct @12
j9 ks es Qcr @3 1 ~- `= j9 ks es Qcr @3 bV es gC ws i @2 >jj >toNat @2 `∈ `∨
Od QdP iH c @ >map .str @ F7 c @ QeU QdQ @5
aG bK Qle ai pe @3 aG bK Qle ai AG @3 bu @2 @2
its.toArray.size 1 `-
N.all sc.names.lookup x @ some .local @ `== \\x @
DI E.g E.cJ E.xQ Qa8 bE _ @ QN QU @7
spliced backTo pos starEach es X.env @2 @2 @
typeOf QeN @ pure .type 'method_descriptor @ @ `=
scope.names.lookup y @ some .free @ `== \\y
N8 bs hs bg pr .dct d8 kvs.take j @ @ @ @5
.int j i `> j i ? @
some .builtin 'object.__setattr__ @ @
.Call .Attribute e m apos @3 args [0 pos @4
.Subscript e .Slice lo hi none p2 @4 pos @3
i j rfl rfl q <5 \\q \\_ \\_
p2 f _ z @2 >2 >2 >elim .inl .inr @2 @ \\z
dD X scope Nc s.heap.objs.size s H fp @7
.Call .Name 'enumerate pr @2 e [1 [0 pc @4
List.range keys.zip us.toArray @ >size @
b9 .cons E.ll 6 @ >1 .inl E.VQ @ QkV @3 Wl @2
.lst cT es u tg @3 >map .int @ >map T.sh @ @
Value Addr Result Shared Prop ^ ^ ^ ^
Gf X CL b Qau QdK dl.map T.sh @ δ1 @7
d.JC.toS 'open 'shut [2 At : `∈
.sh .int 8 mo `* s2.sp `- Nat : Int : @ @
K.lookup f @ some oc od .func QfR @ F3 <4 @ `=
.Assign .Subscript o i pos' @3 [1 value pos @3
.Assign .Subscript QaP e2 ps @3 [1 e pos @3 dQ `::
back p q ?
aW cS E.cJ QdH bE _ @ Q1 aU @5 @
.Call .Name 'tuple pp @2 e [1 [0 pos @4
Gp cZ 'tuple 'len 'TooWide [3 X CL @4
bK QaD ak aN E.vN E.gg 8 @ @2 @ AG @3
bK QaD ak aN E.qv E.gg 9 @ @2 @ NF @3
bI QP ak aN E.uc QN @2 @ QdW @3
SP X pins E .next s' @5 \\s' \\_
Block X CL scope Nc ifs elt δc ds p g @10
.ins 'Table Od bs hs bg pr kvs @5 @2
bI QP ak aN E.RC QA @2 @ QdW @3
.call .ref R @ .ref a @ [1 [0 <2 @2
.cons E.ll 1 @ >1 .inl E.RH @ .nil @3
its.toArray.size c.toArray.size `+
bY X CL b e2 δ1 .sh .tup JK @ @ U2 @7
o6 X CL b .Name y px @2 iter U ds δ1 @8
d pm.mem_iff.mp z @ @ \\z
n9 aK isAll es ss mem far near u t x @10
Y7 ks es ws mem ops rC ws some @2 @6
List.replicate c.es.length 1 ~- @2
Dz QiQ bE _ @ JF JG QdS @ @4
0 gC ws i @2 >jj `≤ gC ws i @2 >jj es.length `< `∧
CN E.g.nd E.g.calm QaF Qbb @4
ak mL E.oG QU Qal q1 @4 @
jz yH i hm hv QaH hs =he @6
.type 'list_reverseiterator @
ks.getD x.toNat Str.empty @2 'leaf `=
fY E.aY E.ef Qgf rfl rfl eV @6
z >2 b f @2 >trans e @ \\e \\f \\o \\b
v .non `= Q Qdi H2 @2 `∧ \\H2 \\v
bq K CL b H Z U Y tl ts `++ us vs `++ @9
vs.map some @ List.replicate n none @2 `++
Qf K CL ps.length arg Pre res @6
cQ X CL b dQ δ1.set i Qf1 @2 DD @6
List.replicate xs.length none @2
Turn X.prog X.w X.K tg J fp it tn @8
bq K CL b H Z U Y .sh d @ ts `:: QaS @9
.lst s.fl.map lZ @ >map T.sh @ @
aj QbX aj QbU aj mC aL @2 @2 @2
Aj zA R b @2 @ Aj zA R a @2 @ `< \\b \\a
fY E.aY E.fV Qcb rfl rfl t7 @6
PySem.F.args_tuple_add_2 _ _ @2
sortedAll_old \\_ \\_
List.sublist_append_left _ _ @2
hideAll s.heap Qby @2 >StaysIn h @
.Try body h0 hs `:: [0 [0 pos @5 dQ `::
seqObj 'tuple us.toArray 0 @3
R.map D.lst QbY @ \\l @
bQ QH bI QP QpW lW @3 G @3
eS ks x @2 decide x bV es c @2 `∈ @ `&&
letOwnedTupleGo tg QbJ u @3
bq K CL b H Z U Y Qmb QdG @9
cN X CL b e U .lst QbY @ δ1 @7
uu X.K CL n arg Pre res out @7
ah QP QeQ @2
bW dZ VC x @ \\x _ @2 @
h pins s Y H Q I.gS _ @ hw @7
instObj C s.heap.objs.size @2
rB hs.i i hi @2 >1 hs.i i hi @2 >2 @2
.sh .lst row.map .int @ @ @
.lst x >2 >map Rx @ >map T.sh @ @
x '__classdict__ Str : `==
.BoolOp .And b rest `:: pos @3
a b rest `:: `::
Value B2 `× Shared Prop ^ ^
d pos pins s1 Y H1 _ i q1 @8
mJ X.K H p ys @4 tL X.K H p ys @4 `∨
.lst xs zs `++ @
.inr .inr z @ @ \\z
Obj.mapSeq x ys `++ \\x @
true true true `&& `&&
T.sh .tup z @ @ \\z
jd QpL rfl iy gQ @ rfl @4
.sh .tup .tup Qc5 @ lZ q @ [2 @ @
.BoolOp .Or b rest `:: pos @3
Qx P w K mg base A outer s H @9
cN X CL b e2 δ1 .str j @ U2 @7
.Compare e1 .Lt [1 e2 [1 pos @4
.Compare e1 .Gt [1 e2 [1 pos @4
.BoolOp .And e2 es `:: pos @3
.BoolOp .And e e2 es `:: `:: pos @3
bootBuiltins 'list @ some QgA @ `=
dD X scope Nc C s0 H0 f0 @7
F.args_list_extend_2 _ _ @2
PySem.Fin Shared Prop ^ ^
apos.endLine pos.line `== true `=
ah ak cy ai jA 0 @ @2 @ av @2
ak yL E.d9 QaL QN @3 @
ak v_ SS 0 =i rfl Wl @3 @ @
aW b8 aG QbZ bu @2 aD @2 @
ak CG E.d9 QH Qb3 @3 @
ak yL E.d9 QH Qb3 @3 @
I.base.keep b o e n D g @6
D b o f e @4 \\e \\f \\o \\b
apos.endLine Ce.line `== true `=
.Pass 0 0 0 0 <4 @
b k a iF _ c @2 @2 \\c \\a @
.Compare e1 op [1 e2 [1 pos @4
cN X CL b e1 U .str i @ δ1 @7
.BoolOp .Or e2 es `:: pos @3
.BoolOp .Or e e2 es `:: `:: pos @3
dD X scope Nc C s0 b f0 @7
.builtin 'isinstance @
.inr QdV @ \\z
some .jt BO kvs k d @3 @ @
defaultsOf params X.env @2 [0 [0 ,2 `=
F.args_list_index_2 _ _ @2
bY X CL b e2 δ1 tX k @ δ1 @7
si X.K CL n arg Pre exc @6
nsIn K mainGlobals x @3 some Qc9 @ `=
f.Xp s' a _ l @3 t1 t2 t3 @4
no _ _ d b x0 e he.symm @7
Qwn os.getD m.toNat [0 @2 `++
Y9 i j a b h' <5 @
ah jA 0 @ av @2
aG QbX aG Qc4 bu @2 @2
List.range s.fl.length @
bI aA E.ll 10 @ @ ai pe @3
Value Value Sem Value @ ^ ^
h pos pins s Y H _ I c @8
f pos pins s Y H _ I h @8
.Attribute o name apos @3
.BinOp e1 .Mult e2 pos @4
upd H a .lst us v [1 `++ @ @3
cN X CL b e U .int k @ δ1 @7
k1.trans k2.trans c @ @
f.trans s3.trans s' @ @
ys.map some @
some Qg2 @
.ok .ret Value.none @ @
decide x m `= @ ~! \\x
.lst iH c @ >map .str @ @
Qh u5 n @ yy V7 n @ @ >1 @2
isTrue e X.env QgD @3
.Constant .none j pos @3
Result Shared Prop ^ ^
.inr o e _ _ h @3 <2 @
cN X CL b e1 U QdF δ1 @7
.sh .int ds.length @ @
PySem.revObj l Qqo @2
.Call Qln x [1 [0 pq @4
seqObj 'list keys e @3
body pins s1 I.gS _ @ @3
Value.ref d @ Value.none `==
p2 QdV @ \\z
ah QD ah Qk8 av @2 @2
.sh .tup gV _ _ _ @3 @ @
aj Qbn aL @2
aq QlQ @ \\_
isTrue e X.env whole @3
.ins C dx oV f y fs @3 @3
HT.F9 xs.length 0 lo @3
Meets K CL b Z ts vs D E @8
Gf X CL b es U Qcz δ1 @7
bY X CL b e U QdE δ1 @7
j.trans a.trans i @ @
upd H a .dK Ql8 @ @3
upd H a .dT Ql8 @ @3
List.cons_ne_nil _ _ @2
pm.nodup_iff.mpr nd @
.lst tl ds.map T.sh @ `++ @
cN X CL b e U .int w @ U @7
cN X CL b e U QcF δ1 @7
x t `= t Int : bV es x @2 `∈ `∨
Iu c mo p l.take j @ y @5 some x @ `=
j7 pd s d.tS.toNat @2 @
cH E.bU E.cW QD fC @4
ak bK Qle ai lW @3 @
n \\n \\_ \\_ \\_ \\_
storeName X.env x u @3
h pins s Y H Q I hw @7
.UnaryOp .Not a pos @3
hl pins s Y H _ I h @7
intBits_le_64 h1 h2 @2
ka _ q @2 \\q \\u \\b
Nat.lt_succ_self _ @
starEach args X.env @2
.int b @ \\_ \\b
.str b @ \\_ \\b
.val b @ \\_ \\b
.cons g.mono k2 @ f @2
.UnaryOp .Not e pos @3
D.nx δ1.set i QaI @2 @
ForInStep.yield ok @
m.nodup_iff.mpr nd @
.bl t n `== Qlf `|| @
behindInMarks .In e2 @2 false `=
s1.heap.objs.size 1 `+
.sh .tup ds JK `++ @ @
scope.isCoroutine false `=
scope.isGenerator false `=
lX bs nm t is os ws @6
es.getD d.tS.toNat 0 @2 m `=
c n Int : 1 `+ `% 1 `-
Oq _ _ _ @3 \\k
IG _ _ _ @3 \\k
ak aN E.KJ Qbd @2 @
dN wd d.tS.toNat @ @
c pins s Y H _ I h @7
b pins s Y H Q I h @7
d pins s Y H _ I h @7
iF _ iF _ kg k e @2 @2 @2
n pins s Y H _ I h @7
.str toString i @ @
x.above y c pw h @ @3
call QeN v us `:: @2
.bl b @ \\_ \\b
cN X CL b e2 δ1 d2 U2 @7
ZP X CL b es δ1 ds U2 @7
Qm d hi c cL hs hf @6
m.nodup_iff.mp nd @
iF _ iF _ kg a e @2 @2 @2
q \\_ \\q \\_ \\_
a.cR.fresh n2 _ @ @
o3.append_right _ @
MH n r >2 @2 \\r
no _ _ x0 e d b he @7
.int EC es src c @3 @
A2 s Qi6 Qgi @3
.int fO s most @2 Nat : @
dY E.fE QP We Qb4 @4
.int Za s.fl p @2 Nat : @
ak aN E.ua QN @2 @
bK QaD QpW lW @3
bK QaD Qp0 pe @3
ak aN E.uc QU @2 @
.sh .lst QeX @ @
e \\e \\_ \\_
getMethod ov m pl @3
compareOp .NotIn @
ns.map WData.int @
List Key Value `× @
cN X CL b e1 U d1 δ1 @7
.Name 'range pr @2
q \\q \\_ \\_
.ins CL c @ dx [0 @3
.pin y .ins c [0 @2 @2
Js We Qex cL cL hs @5
JI sc inner h1 h2 @4
.lst tl.set j t @2 @
pm.mem_iff.mpr d @
oa K C x qual st f fd @7
kz.getD i 0 @2 kz.getD j 0 @2 `<
zA R Vv nv _ w @2 @ @2
aW e7 Qh7 aD @2 @
1 aE s 0 @2 most Int : `% `+
ak aN E.ua QA @2 @
bI QP Qp0 pe @3
bQ QkM QH CP @3
.tup p >1 >map kV @ @
I.base.xg b xs e @3
eval QaE X.env @2
.Name 'range p @2
BD X binaryOp op @ r @3
.builtin 'max @
.builtin 'len @
h1.symm.trans e @
.Expr QkL pos @2 dQ `::
l.getD k.toNat z @2
L2.St Hp Prop ^ ^
.lst xs.reverse @
bP cL MG aZ hs @ @3
.builtin 'any @
xs.size ys.size `+ sizeLine 1 `+ `≤
U.set i some n @ @2
Nat.succ.inj hl @
eval QaP X.env @2
pm.mem_iff.mp d @
L3.D.tup ks @ ds `∈
List Str L3.D `× @
es.getD QF 0 @2
c 6 `/ m Int : `%
u4 s c 4 `/ 4 `% @2
.sh .str mode @ @
yV E.ll 6 @ >1 rfl @2
kvs.take QF @
.tbl ps more `++ @
op CmpOp.NotIn `==
eval iter X.env @2
Int Int Prop ^ ^
binaryOp .Mult @
plainGet K C name @3 true `=
A.under QkO @
.type 'tuple @
A.deeper QfS @
kvs.length sizeLine `<
p5 X CL b e U p δ1 @7
f.trans QiR @
l.deeper QfS @
xr X CL tg is parts @5
List.range' 0 n @2
A.frames some X.stack @ `=
kk c WB @2 \\z \\c
h.Ns mainGlobals mg @2
C.trans QiR @
Nat Nat Bool ^ ^
kz.length xs.length `=
t6 c.ks c.es c.ws a @4
ak qJ QP ai @2 @
aE s 60 @2 78 `/ 26 `%
ak bZ Qal ai Wm @3 @
.sh .int src @ @
j9 ks es Qcr @3
tab rfl rfl rfl @3
iu A1 c mo iH c @ @3 >getD Qfb @ >rs @
cy bQ QeC Qam Qg7 @3 ai @2
List.replicate Qd8 QjA @2
.BoolOp .And QrO pos @3
h z Qj8 @2 \\hz \\z
List.replicate 37 QjA @2
.BoolOp .Or QrO pos @3
h e Qhf @2 \\he \\e
cU kl E.d9 Qmp QN @4
a v Qfa @2 \\hv \\v
e Qnk @ \\z
.Return Qkg pos @2
c QnA Qd7 `++ `::
bQ QH QP Qg7 @3
bG aj cg Qnc @2 aD @2
.int Qd4 s.toks @2
.sh .bl QmH @ @
ah i6 1 @ QsD @2
ak bZ QmA ai Wm @3 @
aj QaK Qta @2
upd H l Qj0 @3
f.trans Qnm @
decide Qon @
upd H D Qj5 @3
W2 Y ix QsQ @3
Y.set i QsR @2
upd H l QrS @3
ah QD QrF @2
sR X CL b e U p δ1 @7
ds.length sizeLine `≤
AL X pos es @3
AC X e es @3
cN X CL b e U d δ1 @7
List κ V `× @
List α @
X.calm true `=
cN X CL b e2 δ1 .int k @ U2 @7
Program
X.mg 'isinstance @ none `=
Uz K x qual st f fd @6
Q5 X CL b e U t δ1 @7
arg a @ >length n `=
Cr m @ true `= D.tup .str 'keep @ .int m @ .int mem.getD m.toNat 0 @2 @ .int bh.getD m.toNat 0 @2 @ [4 @ [1 [0 ?
Loc X.env.scope x @2
List oi BA `× @
qP X scope xs Nc ix @5
Vn X i x @3
FuncData
List κ Value `× @
cG K CL H Z kvs gs fp @7
t es.length `<
A BA ^
Gl X 'isinstance @2
tE P w H h @4
Qwf
Qwi
Qww
Around
X.N.Nodup
bz K CL Z d v @5
Qwc
Binds X.K fd ps ds @4
bD K CL H Z t v fp @7
iI X scope y Nc ix @5
Gl X x @2
i δ1.length `<
dB N ps QaX @3
Ln X i x @3
PE X a ta @3
A.handled none `=
X.mg 'list @ none `=
x es.length `<
D.bf ds @ true `=
PE X e te @3
Qwb
ay K CL Z ds vs @5
Qwr
Conv Z Z' @2
Qws
Vals xs us @2
m es.length `<
RelV y u @2
AN X iter @2
Qwg
Passes CX X E @3
yE X.K CL c @ @2
String
Cp H v0 p w @4
k es.length `<
PA X Qau t @3
aB Z Z' @2
Qwz
QwA
QwB
QwC
QwF
QwJ
QwT
QwV
QwX
Qw2
Qw5
QwM
QwD
KV kvs vs @2
A Bn ^
Qpn
Gl X 'list @2
RelV v u @2
Qwy
Qwe
A T ^
Qxa
Qxb
Qxc
Qxd
Qxe
Qxf
Qxg
Qxh
Qxi
Qxu
Qxj
Qxk
Qxl
Qxm
Qxo
Qxp
Qxs
Qxt
Qxv
Qxw
Qxx
Qxy
Qxz
QxA
QxB
QxC
QxD
QxE
QxF
QxG
QxH
QxI
QxJ
QxK
QxL
QxM
QxN
QxO
QxP
QxQ
QxR
QxS
QxT
QxU
QxV
QxW
QxX
QxY
QxZ
Qx0
Qx1
Qx2
Qx3
Qx4
Qx5
Qx6
Qx7
Qx8
Qx9
Qya
Qyb
Qyc
Qyd
Qye
Qyf
Qyg
Qyh
Qyi
Qyj
Qyk
Qyl
Qym
QwN
Qw0
PE X o td @3
PE X i ty @3
Qw9
r4 d @ some t @ `=
Qwv
Vals Jh ds @2
A Str ^
QwS
H p @ none `=
Qwa
Qv9
List AA @
QwW
aB H H' @2
PE X b tb @3
Qw1
fj k X.A @2
Qwd
Operator
QwY
Qxr
Int Int ^
QwE
Qwm
QwK
QwQ
Da AT `×
Qwp
List Bool @
Array Nat @
Qwo
PT X a tA @3
Qxn
Qwk
QwL
QwR
AB X pb e @3
A BS ^
Qwl
QwZ
D Bool ^
l.Nodup
AT AT `×
AM X x @2
Qwt
Sem Bool @
QwO
QpB
Qwj
Qwx
Qwq
QlN
Qw6
Qw7
RelV x v @2
P 0 δ1 @2
List _ @
QwG
Qw3
Qw8
QwH
QwU
Qwh
QwP
Qxq
Qw4
QwI
Qwu
w l `::
Qyn
Qyo
Qyp
Qyq
Qyr
Qys
Qyt
Qyu
Qyv
Qyw
Qyx
Qyy
Qyz
QyA
QyB
QyC
QyD
QyE
QyF
QyG
QyJ
QyL
Qy0
Qy1
Qy3
Qy4
Qy5
Qy6
Qy8
QyO
QyQ
QyR
QyT
Qzb
Qzo
Qzd
Qze
Qzf
Qzg
Qzi
Qzj
Qzk
QyW
QyY
Qzp
Qzr
QzB
QyU
Qzs
Qzt
Qzu
Qzv
Qzw
QyN
QyS
Qzx
Qzy
QyP
QzC
QzD
QzE
QzF
QzG
QzH
QzI
QzJ
QzA
QzK
QzL
QzM
Qzm
Qy7
QyX
QyH
QyI
Qzz
Qzc
Qy2
Qzq
Qzh
Qzl
Qy9
Qza
Qzn
QyV
QyZ
QyM
QyK
QzO
QzP
QzQ
QzR
QzS
QzT
QzU
QzV
QzW
QzX
QzY
QzZ
Qz0
Qz1
Qz2
Qz3
Qz4
Qz5
Qz6
Qz7
Qz8
Qz9
QAh
QAi
QAj
QAk
QAu
QAv
QAa
QAb
QAz
QAc
QAd
QAe
QAF
QAG
QAf
QAg
QAl
QAm
QAn
QAo
QAp
QAJ
QAq
QAr
QAs
QAt
QAw
QAY
QAx
QAy
QAA
QAZ
QA0
QAB
QAC
QAD
QAE
QAH
QAI
QBa
QBb
QAK
QBc
QAL
QAM
QAN
QAO
QAP
QAQ
QAR
QAS
QBd
QAT
QAU
QAV
QAW
QAX
QA1
QA2
QA3
QA4
QA5
QA6
QA7
QA8
QA9
QBe
QBf
QBg
QBh
QBi
QBj
QBk
QBl
QBm
QBn
QBo
QBp
QBq
QBr
QBs
QBt
QBu
QBv
QBw
QBx
QBy
QBz
QBA
QBB
QBC
QBD
QBE
QBF
QBG
QBH
QBI
QBJ
QBK
QBL
QBM
QBN
QBO
QBP
QBQ
QBR
QBS
QBT
QBU
QBV
QBW
QBX
QBY
QBZ
QB0
QB1
QB2
QB3
QB4
QB5
QB6
QB7
QB8
QB9
QCa
QCb
QCc
QCd
QCe
QCf
QCg
QCh
QCi
QCj
QCk
QCl
QCm
QCn
QCo
QCp
QCq
QCr
QCs
QCt
QCu
QCv
QCw
QCx
QCy
QCz
QCA
QCB
QCC
QCD
QCE
QCF
QCG
QCH
QCI
QCJ
QCK
QCL
QCM
QCN
QCO
QCP
QCQ
QCR
QCS
QCT
QCU
QCV
QCW
QCX
QCY
QCZ
QC0
QC1
QC2
QC3
QC4
QC5
QC6
QC7
QC8
QC9
QDa
QDb
QDc
QDd
QDe
QDf
QDg
QDh
QDi
QDj
QDk
QDl
QDm
QDn
QDo
QDp
QDq
QDr
QDs
QDt
QDu
QDv
QDw
QDx
QDy
QDz
QDA
QDB
QDC
QDD
QDE
QDF
QDG
QDH
QDI
QDJ
QDK
QDL
QDM
QDN
QDO
QDP
QDQ
QDR
QDS
QDT
QDU
QDV
QDW
QDX
QDY
QDZ
QD0
QD1
QD2
QD3".splitOn "\n").toArray
def qqI (c:Char):Nat:=if 'a'<=c then c.toNat-97 else if 'A'<=c then c.toNat-39 else c.toNat+4
local macro_rules | `($x:ident)=>let u:=Lean.Macro.throwUnsupported;match x.getId with
 | .str .anonymous s=>let f:=fun n=>match qqT[n]? with
   | some t=>if t.isEmpty then u else pure ((t.splitOn " ").foldl qqS []).head!
   | _=>u
  match s.toList with
  | ['Q',a]=>f (qqI a)
  | ['Q',a,c]=>f (62+62*qqI a+qqI c)
  | _=>u
 | _=>u
noncomputable section
namespace L2
open PySem PySem.Spec PyProof.Rows
abbrev cK:=@List.length_map
abbrev gk:=@List.mem_cons_self
abbrev ij:=@List.mem_cons_of_mem
abbrev iq:=@Nat.le_of_ble_eq_true
abbrev iF:=@List.mem_append_right
abbrev fP:=@List.mem_cons
abbrev ec:=@wpAny_bind
abbrev i4:=@List.mem_append_left
abbrev iw:=@List.mem_append
abbrev bX:=@if_neg
abbrev i3:=@List.append_assoc
abbrev kf:=@List.getElem?_eq_getElem
abbrev ip:=@List.mem_map
abbrev kq:=@List.getD_eq_getElem?_getD
abbrev ka:=@Heap.get?_push_of_some
abbrev ik:=@Nat.le_refl
abbrev cq:=@if_pos
abbrev i5:=@List.map_append
abbrev js:=@List.append_nil
abbrev i0:=@List.map_map
abbrev lr:=@List.getElem?_eq_some_iff
abbrev ke:=@List.length_append
abbrev j2:=@List.getElem?_map
abbrev kA:=@List.mem_of_getElem?
abbrev km:=@List.not_mem_nil
abbrev kx:=@List.mem_singleton
abbrev j0:=@Heap.lt_size
abbrev i2:=@wpAny_pure
abbrev i8:=@Nat.zero_le
abbrev k4:=@Int.toNat_natCast
abbrev kv:=@decide_eq_false
abbrev l6:=@Heap.get?_push_size
abbrev kn:=@List.map_cons
abbrev lj:=@Bool.and_eq_true
abbrev l2:=@List.nodup_append
abbrev l1:=@of_decide_eq_true
abbrev l8:=@Int.emod_lt_of_pos
abbrev l9:=@Bool.false_ne_true
abbrev kr:=@Nat.ne_of_lt
abbrev lL:=@Int.emod_nonneg
abbrev ky:=@Nat.le_trans
abbrev ko:=@sizeLine_eq
abbrev l5:=@Option.some.inj
abbrev l4:=@List.nodup_cons
abbrev lh:=@PySem.W.mg_of
abbrev l7:=@List.mem_filter
abbrev mm:=@Nat.lt_of_lt_of_le
abbrev md:=@List.take_length
abbrev mi:=@List.length_cons
abbrev mf:=@List.lookup_cons
abbrev me:=@List.all_eq_true
abbrev mI:=@List.perm_append_comm
abbrev lx:=@Nat.le_of_lt
abbrev ma:=@List.mem_range
abbrev mn:=@List.mem_flatMap
abbrev mB:=@List.map_congr_left
abbrev mv:=@List.cons_append
abbrev la:=@wpAny_mono
abbrev nr:=@Option.map_eq_some_iff
abbrev mu:=@decide_eq_true
abbrev mT:=@List.pairwise_cons
abbrev mN:=@of_decide_eq_false
abbrev mM:=@PySem.W.mg_none_of
abbrev m4:=@List.filterMap_cons
abbrev n7:=@List.Perm.append_left
abbrev o1:=@List.pairwise_singleton
abbrev m3:=@List.size_toArray
abbrev nq:=@Nat.lt_of_le_of_lt
abbrev oT:=@List.length_filter_le
abbrev n4:=@beq_eq_false_iff_ne
abbrev nk:=@List.Sublist.refl
abbrev nh:=@List.length_range
abbrev mx:=@Int.zero_add
abbrev oP:=@List.Sublist.append
abbrev oI:=@List.getElem?_range
abbrev tR:=@PyProof.Rows.callWith_type1
abbrev pz:=@List.length_replicate
abbrev nf:=@List.find?_cons
abbrev tJ:=@List.drop_eq_getElem_cons
abbrev pw:=@PySem.mem_of_lookup
abbrev nc:=@List.nodup_nil
abbrev rr:=@List.length_singleton
abbrev pv:=@wpAny_Call_Name_kw
abbrev pj:=@Bool.false_eq_true
abbrev p4:=@List.filter_append
abbrev p3:=@decide_eq_true_iff
abbrev o4:=@List.length_take
abbrev o3:=@List.perm_middle
abbrev o2:=@List.getElem_mem
abbrev pE:=@List.reverse_cons
abbrev rF:=@List.length_reverse
abbrev v3:=@List.sublist_append_right
abbrev t4:=@List.take_append_drop
abbrev ml:=@Ne.symm
abbrev ro:=@wpAny_truthy_bool
abbrev rk:=@List.take_add_one
abbrev ph:=@List.range_succ
abbrev tF:=@List.perm_iff_count
abbrev vu:=@Heap.get?_update_other
abbrev vr:=@Heap.get?_update_self
abbrev wz:=@List.getElem?_append_left
abbrev n2:=@Nat.le_succ
abbrev ri:=@List.nil_append
abbrev tw:=@Bool.not_eq_true'
abbrev pf:=@List.any_cons
abbrev wy:=@PySem.F.plainAttrs_list
abbrev wx:=@List.filter_cons_of_neg
abbrev wt:=@List.filter_cons_of_pos
abbrev vl:=@PySem.W.hideAll_get
abbrev tq:=@wpAny_passesOwn
abbrev tj:=@wpAny_specialOf
abbrev ti:=@PySem.W.kia_one
abbrev tf:=@List.filter_nil
abbrev tc:=@List.filter_map
abbrev y1:=@List.getElem?_append_right
abbrev vk:=@decide_eq_true_eq
abbrev vi:=@List.count_append
abbrev wq:=@List.mem_of_mem_take
abbrev vh:=@List.length_drop
abbrev vc:=@beq_self_eq_true
abbrev vT:=@List.mem_reverse
abbrev w8:=@Heap.SameBut.update
abbrev w4:=@List.flatMap_append
abbrev tI:=@Nat.lt_irrefl
abbrev tG:=@wpAny_holding
abbrev IS:=@List.eq_nil_iff_forall_not_mem
abbrev w1:=@List.map_replicate
abbrev za:=@List.getElem?_set_self
abbrev n3:=@if_false
abbrev y8:=@List.takeWhile_sublist
abbrev IP:=@List.eq_nil_of_length_eq_zero
abbrev IM:=@wpAny_typeNameOfWhole_keyiter
abbrev wB:=@F.slot_tuple_hash
abbrev vy:=@Bool.and_false
abbrev IH:=@List.takeWhile_append_of_pos
abbrev rq:=@beq_iff_eq
abbrev rp:=@call_meets
abbrev y6:=@List.pairwise_append
abbrev y5:=@List.Pairwise.filter
abbrev y4:=@Nat.mul_le_mul_right
abbrev vx:=@Paired.length
abbrev vw:=@Bool.or_false
abbrev y3:=@List.getElem_of_mem
abbrev wA:=@Bool.eq_iff_iff
abbrev IF:=@List.mem_of_find?_eq_some
abbrev y2:=@PySem.W.of_hideAll
abbrev zp:=@PySem.W.callWith_K
abbrev XN:=@PySem.F.args_tuple_add_2
abbrev zi:=@tupleKind_room_in1
abbrev Jp:=@PySem.F.slot_list_append
abbrev Jn:=@PySem.F.type_list_append
abbrev Ja:=@wpAny_comprehension_free
abbrev ze:=@Obj.data_mapFields
abbrev zd:=@List.find?_eq_none
abbrev IT:=@List.Pairwise.imp_of_mem
abbrev zb:=@Bool.not_eq_false'
abbrev LI:=@List.eq_of_mem_replicate
abbrev LH:=@List.getElem?_replicate
abbrev aAc:=@PySem.F.entry_tuple_add
abbrev LG:=@List.getElem?_cons_succ
abbrev F1:=@List.ext_getElem?
abbrev FX:=@F.slot_list_index
abbrev FV:=@eqIsQuiet_byValue
abbrev FR:=@List.flatMap_cons
abbrev xn:=@Bool.and_true
abbrev xm:=@List.map_take
abbrev Key:=Sum Int Str
noncomputable def Hs:Key->Value->Bool
 | .inl k,v=>Value.isInt k v
 | .inr x,v=>Value.isStrOf x v
noncomputable def aqB(w:World):Key->Int
 | .inl k=>hashInt k
 | .inr x=>hashStr w x
theorem fh:∀{k:Key} {v:Value},Hs k v=true->(∃i t,k=Sum.inl i/\v=Value.int i t)\/(∃x t,k=Sum.inr x/\v=Value.str x t)
 | .inl i,v,h=>by
  obtain⟨t,e⟩:=Value.isInt_shape h;exact .inl ⟨i,t,rfl,e⟩
 | .inr x,v,h=>by
  obtain⟨t,e⟩:=Value.isStrOf_shape h;exact .inr ⟨x,t,rfl,e⟩
def Wg(i:Int)(t:Tok):Hs (.inl i) QgS=true:=by simp[Hs,Value.isInt]
def Wh(x:Str)(t:Tok):Hs (.inr x) Qo7=true:=by simp[Hs,Value.isStrOf]
theorem aiL(a b:Int):decide ((Sum.inl a:Key)=Sum.inl b)=(a==b):=by
 by_cases e:a=b
 .subst e;simp
 simp_all
def aiM(a b:Str):decide ((Sum.inr a:Key)=Sum.inr b)=decide (a=b):=by simp
def aiN(a:Int)(b:Str):decide ((Sum.inl a:Key)=Sum.inr b)=false:=kv (λq=>nomatch q)
def aiO(a:Str)(b:Int):decide ((Sum.inr a:Key)=Sum.inl b)=false:=kv (λq=>nomatch q)
def fL(prog:Qag)(w:World):PySem.KeyKind prog w Key where
 is:=Hs
 hash:=aqB w
 inj:=λv a b f c=>by
  obtain⟨i,t,rfl,rfl⟩|⟨x,t,rfl,rfl⟩:=fh f
  .obtain⟨j,u,rfl,e⟩|⟨y,u,rfl,e⟩:=fh c
   .injection e with e1 _;rw[e1]
   .exact nomatch e
  .obtain⟨j,u,rfl,e⟩|⟨y,u,rfl,e⟩:=fh c
   .exact nomatch e
   .injection e with e1 _;rw[e1]
 byValue:=λk v h=>by
  obtain⟨i,t,rfl,rfl⟩|⟨x,t,rfl,rfl⟩:=fh h<;>rfl
 pyHash:=λhv h=>by
  obtain⟨i,t,rfl,rfl⟩|⟨x,t,rfl,rfl⟩:=fh hv
  .exact wpAny_pyHash_int h
  .exact wpAny_pyHash_str h
 eqBool:=λd hv h=>by
  obtain⟨i,t,rfl,rfl⟩|⟨x,t,rfl,rfl⟩:=fh d
  .obtain⟨j,u,rfl,rfl⟩|⟨y,u,rfl,rfl⟩:=fh hv
   .rw[aiL]at h;exact wpAny_eqBool_int h
   .rw[aiN]at h;exact SeqAt.EqAt.int_str i t y u _ _ _ _ h
  .obtain⟨j,u,rfl,rfl⟩|⟨y,u,rfl,rfl⟩:=fh hv
   .rw[aiO]at h;exact SeqAt.EqAt.str_int x t j u _ _ _ _ h
   .rw[aiM]at h;exact wpAny_eqBool_str h
 «strs»:=λk x t v h=>by
  obtain⟨i,u,rfl,e⟩|⟨y,u,rfl,e⟩:=fh h
  .exact nomatch e
  .injection e with e1 _;subst e1;cases v<;>rfl
def MQ(prog:Qag)(w:World)(i:Int)(t:Tok):(fL prog w).is (.inl i) QgS=true:=Wg i t
def MR(prog:Qag)(w:World)(x:Str)(t:Tok):(fL prog w).is (.inr x) Qo7=true:=Wh x t
inductive V where
 | non|bl (b:Bool)|int (i:Int)|str (x:Str)|Qj (b:Array UInt8)|flt (b:UInt64)|ref (a:Addr)|ty (n:Qbf)
 deriving DecidableEq
def RelV:V->Value->Prop
 | .non,u=>u=Value.none
 | .bl b,u=>u=Value.bool b
 | .int i,u=>∃t,u=Value.int i t
 | .str x, u => ∃ t, u = Value.str x t
 | .Qj b,u=>∃t,u=Value.bytes b t
 | .flt b,u=>∃t,u=Value.float b t
 | .ref a,u=>u=Value.ref a
 | .ty n,u=>u=Value.type n
abbrev _root_.B0:=List V
abbrev _root_.B2:=List Value
abbrev Vals:B0->B2->Prop:=Paired RelV
variable{xs:B0}{us:B2}
theorem Vals.length(r:QcL):xs.length=us.length:=vx r
theorem Vals.get:∀{xs:B0} {us:B2} {i:Nat} {x:V},Vals xs us->xs[i]? = some x->∃u,us[i]? = some u/\RelV x u
 | _,_,_,_,.nil,e=>by simp at e
 | _,_,0,_,.cons r _,e=>by simp_all
 | _,_,i+1,x,.cons _ t,e=>by
  obtain⟨u,h1,h2⟩:=Vals.get t (‹_›);exact⟨u,‹_›,h2⟩
theorem Vals.set{x:V}{u:Value}(r:RelV x u):∀{xs:B0} {us:B2} (i:Nat),Vals xs us->Vals (xs.set i x) (us.set i u)
 | _,_,_,.nil=>.nil
 | _,_,0,.cons _ t=>.cons r t
 | _,_,i+1,.cons q t=>.cons q (Vals.set r i t)
theorem Vals.append:∀{xs ys:B0} {us ws:B2},Vals xs us->Vals ys ws->Vals (xs++ys) QkB
 | _,_,_,_,.nil,s=>s
 | _,_,_,_,.cons r t,s=>.cons r (Vals.append t s)
theorem Vals.take:∀{xs:B0} {us:B2} (n:Nat),Vals xs us->Vals (xs.take n) (us.take n)
 | _,_,0,_=>.nil
 | _,_,_+1,.nil=>.nil
 | _,_,n+1,.cons r t=>.cons r (Vals.take n t)
theorem Vals.drop:∀{xs:B0} {us:B2} (n:Nat),Vals xs us->Vals (xs.drop n) (us.drop n)
 | _,_,0,r=>r
 | _,_,_+1,.nil=>.nil
 | _,_,n+1,.cons _ t=>Vals.drop n t
def tK:Option V->Option Value->Prop
 | some v,some u=>RelV v u
 | none,none=>True
 | _,_=>False
def KV{κ:Type}:List (κ×V)->List (κ×Value)->Prop:=Paired λ(p:κ×V) (q:κ×Value)=>p.1=q.1/\RelV p.2 q.2
noncomputable def kV:Key->V
 | .inl i=>.int i
 | .inr x=>.str x
abbrev _root_.Cc:=List Key
abbrev _root_.B1:=List (Cc×V)
abbrev _root_.Bz:=List (Str×V)
abbrev _root_.CU:=List (Key×V)
abbrev _root_.Cf:=Int->Bool
abbrev _root_.Cl:=Array Value
inductive HO where
 | lst (xs:B0)
 | tup (xs:B0)
 | dK (kvs:CU)|dT (kvs:B1)
 | set (S:Cf) (n:Nat)
 | ins (C dx:Addr) (fs:Bz)
 | own (x:Addr)
 | xd (fs:Bz)
 | met (f x:Addr)
 | rng (lo hi:Int)
 | cu (o:Obj) (u:HO)
 | tbl (ps:Cl)
 | tabs (q:Str)
 | Um (q:Str)
 | ext (φ:Heap->Prop)
abbrev Hp:=Addr->Option HO
noncomputable def upd(H:Hp)(a:Addr)(o:HO):Hp:=λb=>if b=a then some o else H b
variable{H:Hp}{a:Addr}{o:HO}
theorem aC:upd H a o a=some o:=by unfold upd;simp_all
variable{b:Addr}
def au(h:b≠a):upd H a o b=H b:=by unfold upd;rw[bX h]
def ans{u:HO}(h:H a=some o)(h':H b=some u)(d:o≠u):a≠b:=by
 intro e;subst e;rw[h]at h';exact d (l5 h')
theorem aM(h:H a=some o)(h':H b=none):a≠b:=by
 intro e;simp_all
section
variable(P:Qag)(w:World)
def dU(H:Hp)(h:Heap)(a:Addr):HO->Prop
 | .lst xs=>xs.length<=sizeLine/\∃(its:B2) (n:Nat),Vals xs its/\h.get? a=some {cls:=.type "list",data:=.seq its.toArray n}
 | .tup xs=>xs.length<=sizeLine/\∃its:B2,Vals xs its/\IsTup h a its.toArray
 | .dK kvs=>kvs.length<=sizeLine/\Qcj=false/\∃vs,KV kvs vs/\h.DictOf Qde a vs
 | .dT kvs=>kvs.length<=sizeLine/\Qcj=false/\∃xs:List Qgj,
   Paired (λ(p:Cc×V) (q:Qgj)=>p.1=q.1/\H q.2.1=some QuO/\RelV p.2 q.2.2) kvs xs ∧
   ∃o es ep,h.get? a=some o/\o.ExactDict/\o.data=.dict es ep/\es.toList=xs.map (entryOfKey QmW)/\(xs.map (·.1)).Nodup
 | .set S n=>h.SetOf (intKind P w) a S n
 | .ins C dx fs=>H dx=some Qhn/\fs.length<=1000/\dx≠a/\h.get? a=some Qn3 ∧
   ∃mA,h.Ns1 dx mA/\(∀f,tK Qob (mA f))/\PySem.Within mA (fs.map (·.1))
 | .own _=>∃o,h.get? a=some o
 | .xd fs=>∃mA,h.Ns1 a mA/\∀f,tK Qob (mA f)
 | .rng lo hi=>∃t u v,h.get? a=some {cls:=.type "range",data:=.fields #[.int lo t,.int hi u,.int 1 v]}
 | .cu o u=>h.get? a=some o/\dU H h a u
 | .tbl ps=>h.get? a=some {cls:=.none,data:=.fields ps}
 | .tabs q=>∃ps:Cl,h.get? a=some {cls:=.none,data:=.fields ps}/\TriplesOk ps.toList/\∀pos b,codeAmong pos ps.toList=some b->∃c,b=.ref c/\H c=some Qcu
 | .Um q=>∃o vs t,h.get? a=some o/\o.data=.fields vs/\vs[1]? = some (.str q t)
 | .met f x=>h.get? a=some (PySem.W.methodObj Qad Qdi)
 | .ext φ=>φ h/\(∃o,h.get? a=some o)/\∀h1 h2:Heap,φ h1->(∀o,h1.get? a=some o->h2.get? a=some o)->φ h2
def tE(H:Hp)(h:Heap):Prop:=∀a o,H a=some o->dU P w H h a o
end
variable{P:Qag}{w:World}{H':Hp}{h h':Heap}
theorem dU.lt(x:dU P w H h a o):a<h.objs.size:=by
 cases o with
 | lst xs=>obtain⟨_,_,_,_,e⟩:=x;exact j0 e
 | tup xs=>obtain⟨_,_,_,p⟩:=x;exact p.lt
 | dK kvs=>obtain⟨_,_,_,_,o,_,_,e,_⟩:=x;exact j0 e
 | dT kvs=>obtain⟨_,_,_,_,o,_,_,e,_⟩:=x;exact j0 e
 | set S n=>obtain⟨o,_,_,_,e,_⟩:=x;exact j0 e
 | ins C dx fs=>obtain⟨_,_,_,e,_⟩:=x;exact j0 e
 | own y=>obtain⟨_,e⟩:=x;exact j0 e
 | xd fs=>obtain⟨_,⟨_,_,_,e,_⟩,_⟩:=x;exact j0 e
 | rng lo hi=>obtain⟨_,_,_,e⟩:=x;exact j0 e
 | cu b u=>obtain⟨e,_⟩:=x;exact j0 e
 | tbl ps=>exact j0 (x)
 | tabs q=>obtain⟨_,e,_⟩:=x;exact j0 e
 | Um q=>obtain⟨_,_,_,e,_⟩:=x;exact j0 e
 | met f y=>exact j0 (x)
 | ext φ=>obtain⟨_,⟨_,e⟩,_⟩:=x;exact j0 e
theorem Paired.J6{α β:Type}{F G:Qn0}:∀{l₁:Qaa} {l₂:List β},Paired F l₁ l₂->(∀a b,F a b->G a b)->Paired G l₁ l₂
 | _,_,.nil,_=>.nil
 | _,_,.cons r t,f=>.cons (f _ _ r) (Paired.J6 t f)
theorem dU.yz(x:dU P w H h a o)(k:∀b u,(b=a\/H b=some Qhn)->h.get? b=some u->h'.get? b=some u)
  (l:∀b,H b=some Qhn->H' b=some Qhn) (j:∀b xs,H b=some Qbc->H' b=some Qbc) (iV:∀b q,H b=some Qcu->H' b=some Qcu:=by intro _ _ q;exact q):dU P w H' h' a o:=by
 induction o with
 | lst xs=>obtain⟨z,its,n,r,e⟩:=x;exact⟨z,its,n,r,k _ _ Qae e⟩
 | tup xs=>obtain⟨z,its,r,g,e,c⟩:=x;exact⟨z,its,r,g,k _ _ Qae e,c⟩
 | dK kvs=>obtain⟨z,y,vs,r,g,es,ep,e,c⟩:=x;exact⟨z,y,vs,r,g,es,ep,k _ _ Qae e,c⟩
 | dT kvs=>
  obtain⟨z,y,xs,r,g,es,ep,e,c⟩:=x;exact⟨z,y,xs,Paired.J6 r λp q z=>⟨z.1,j _ _ z.2.1,z.2.2⟩,g,es,ep,k _ _ Qae e,c⟩
 | set S n=>obtain⟨g,es,ep,t,e,c⟩:=x;exact⟨g,es,ep,t,k _ _ Qae e,c⟩
 | ins C dx fs=>
  obtain⟨d,z,ne,e,mA,⟨od,es,ep,e2,c⟩,r⟩:=x;exact⟨l _ d,z,ne,k _ _ Qae e,mA,⟨od,es,ep,k _ _ (.inr d) e2,c⟩,r⟩
 | own y=>obtain⟨g,e⟩:=x;exact⟨g,k _ _ Qae e⟩
 | xd fs=>obtain⟨mA,⟨od,es,ep,e,c⟩,r⟩:=x;exact⟨mA,⟨od,es,ep,k _ _ Qae e,c⟩,r⟩
 | rng lo hi=>obtain⟨t,u,v,e⟩:=x;exact⟨t,u,v,k _ _ Qae e⟩
 | cu g u i=>obtain⟨e,q⟩:=x;exact⟨k _ _ Qae e,i q⟩
 | tbl ps=>
  have e:=x;exact k a _ Qae e
 | met f y=>
  have e:=x;exact k a _ Qae e
 | tabs q=>obtain⟨ps,e,tr,cs⟩:=x;exact⟨ps,k _ _ Qae e,tr,λpos m z=>let ⟨c,e1,e2⟩:=cs pos m z;⟨c,e1,iV _ _ e2⟩⟩
 | Um q=>obtain⟨g,vs,t,e,r⟩:=x;exact⟨g,vs,t,k _ _ Qae e,r⟩
 | ext φ=>obtain⟨p,⟨o,e⟩,st⟩:=x;exact⟨st _ _ p λo q=>k _ _ Qae q,⟨o,k _ _ Qae e⟩,st⟩
theorem tE.lt(x:QbC)(e:H a=some o):a<h.objs.size:=(x a o e).lt
theorem tE.fresh(x:QbC)(e:Qot):H a=none:=by
 cases q:H a with
 | none=>rfl
 | some u=>exact absurd (mm (x.lt q) e) (tI _)
theorem tE.kept(x:QbC)(k:∀b u,h.get? b=some u->h'.get? b=some u):tE P w H h':=λa o e=>
 (x a o e).yz (λb u _ q=>k b u q) QcE λ_ _ q=>q
theorem tE.laid(x:QbC)(k:∀b u,h.get? b=some u->h'.get? b=some u)(f:Qot)(new:dU P w Qbz h' a o):tE P w Qbz h':=λb u e=>by
 have hn:=x.fresh f;by_cases d:b=a
 .subst d;rw[aC]at e;grind
 .rw[au d]at e;exact(x b u e).yz (λc v _ q=>k c v q) (λc q=>au QcI▸q) (λc xs q=>au QcI▸q) λc z q=>au QcI▸q
def Rd(H:Hp)(a:Addr)(u:HO):Prop:=H a=some u\/∃o,H a=some Qhk
theorem Rd.of{u:HO}(h:H a=some u):Rd H a u:=.inl h
theorem Rd.ok{u:HO}(r:Rd H a u)(x:QbC):dU P w H h a u:=by
 obtain r|⟨o,r⟩:=r
 .exact x a u r
 .obtain⟨_,q⟩:=x a _ r;exact q
def xw:Option HO->Prop
 | some (.lst _)=>True
 | some (.dK _)=>True
 | some (.dT _)=>True
 | some (.set _ _)=>True
 | some (.ins _ _ _)=>True
 | some (.ext _)=>True
 | some (.tabs _)=>True
 | _=>False
variable{x e:Addr}{o':HO}
theorem tE.write(ok:QbC)(d:xw (H x))(he:Qph)(k:∀b u,b≠e->h.get? b=some u->h'.get? b=some u)(f:∃u,h'.get? e=some u)
  (new:dU P w (upd H x o') h' x o'):tE P w (upd H x o') h':=λb u q=>by
 have l:∀c y,H c=some (.own y)->c≠x:=λc y r z=>by subst z;rw[r]at d;exact d
 have j:∀c xs,H c=some Qbc->c≠x:=λc xs r z=>by subst z;rw[r]at d;exact d
 have i:∀c q,H c=some Qcu->c≠x:=λc q r z=>by subst z;rw[r]at d;exact d
 by_cases g:b=x
 .subst g;rw[aC]at q;grind
 .rw[au g]at q;by_cases a:b=e
  .have m:H b=some Qhc:=by
    obtain z|z:=he
    .exact absurd (a.trans z) g
    .rw[a];exact z
   rw[q]at m;cases m;obtain⟨v,hv⟩:=f;exact⟨v,a▸hv ⟩
  .refine(ok b u q).yz (λc v n r=>k c v ?_ r) (λc r=>au (l c b r)▸r) (λc xs r=>au (j c xs r)▸r) λc z r=>au (i c z r)▸r;grind
abbrev _root_.BY:=List Addr
structure Un(fs ex:BY)(H H':Hp)(h h':Heap):Prop where
 keep:∀b o,h.get? b=some o->H b=none->b∉fs->b∉ex->h'.get? b=some o
 slot:∀b o,h.get? b=some o->H b=none->b∈fs->b∉ex->∃sl,h'.get? b=some {o with slots:=sl}
 free:∀b o,h.get? b=some o->H b=none->b∉ex->H' b=none
 there:∀b o,h.get? b=some o->b∉ex->∃o',h'.get? b=some o'
 xg:∀b xs,H b=some Qbc->H' b=some Qbc
 cD:∀b o u,H b=some Qhk->H' b=some Qhk
 xh:∀b ps,H b=some (.tbl ps)->∃more,H' b=some Qvf
section
variable{fs fs' ex ex':BY}{H1 H2:Hp}{h1 h2:Heap}
theorem Un.any(u:Qnj){a:Obj}(q:h.get? b=some a)(n:H b=none)(c:b∉ex):∃sl,h1.get? b=some {a with slots:=sl}:=by
 by_cases d:b∈fs
 .exact u.slot b a q n d c
 .exact⟨ _,u.keep b a q n d c⟩
theorem Un.trans(a:Qnj)(b:Un fs ex H1 H2 h1 h2):Un fs ex H H2 h h2 where
 keep:=λc d q n f e=>b.keep c d (a.keep c d q n f e) Qm2 f e
 slot:=λc d q n f e=>by
  obtain⟨sl,e1⟩:=a.slot c d q n f e;obtain⟨g,e2⟩:=b.slot c _ e1 Qm2 f e;exact⟨g,e2⟩
 free:=λc d q n e=>by
  obtain⟨o',e1⟩:=a.there c d q e;exact b.free c o' e1 Qm2 e
 there:=λc d q e=>by
  obtain⟨o',e1⟩:=a.there c d q e;exact b.there c o' e1 e
 xg:=λc xs q=>b.xg c xs (a.xg c xs q)
 cD:=λc d xs q=>b.cD c d xs (a.cD c d xs q)
 xh:=λc ps q=>by
  obtain⟨m1,e1⟩:=a.xh c ps q;obtain⟨m2,e2⟩:=b.xh c _ e1;exact⟨m1++m2,by simp_all ⟩
theorem Un.kept(k:∀b u,h.get? b=some u->h'.get? b=some u):Un fs ex H H h h':=
 ⟨λb a q _ _ _=>k b a q,λb a q _ _ _=>⟨ _,k b a q⟩,λ_ _ _ n _=>n,λb a q _=>⟨a,k b a q⟩,λ_ _ q=>q,λ_ _ _ q=>q,λ_ ps q=>⟨#[],‹_› ⟩⟩
theorem Un.refl:Un fs ex H H h h:=Un.kept λ_ _ q=>q
theorem Un.laid(k:∀b u,h.get? b=some u->h'.get? b=some u)(c:Qot)(hn:H a=none):Un fs ex H Qbz h h' where
 keep:=λb u q _ _ _=>k b u q
 slot:=λb u q _ _ _=>⟨ _,k b u q⟩
 free:=λb u q n _=>au (kr (mm (j0 q) c))▸n
 there:=λb u q _=>⟨u,k b u q⟩
 xg:=λb xs q=>au QcI▸q
 cD:=λb u xs q=>au QcI▸q
 xh:=λb ps q=>⟨#[],by rw[au QcI,q];simp⟩
theorem Un.write(d:xw (H x))(he:Qph)(k:∀b u,b≠e->h.get? b=some u->h'.get? b=some u)(c:∃u,h'.get? e=some u):Un fs ex H QoV h h':=by
 have g:∀b,H b=none->b≠x:=λb n z=>by subst z;rw[n]at d;exact d
 have f:∀b,H b=none->b≠e:=λb n z=>by simp_all
 have hm:∀b u,H b=some u->¬ xw (some u)->b≠x:=λb u q nm z=>by simp_all
 refine⟨λb u q n _ _=>k b u (f b n) q,λb u q n _ _=>⟨ _,k b u (f b n) q⟩,λb u q n _=>au (g b n)▸n,λb u q _=>?_,
  λb xs q=>au Qml▸q,λb u xs q=>au Qml▸q,λb ps q=>⟨#[],by rw[au Qml,q];simp⟩⟩
 by_cases a:b=e
 .subst a;exact c
 .exact⟨u,k b u a q⟩
theorem Un.mono(u:Qnj)(hs:∀b∈fs,b∈fs')(c:∀b∈ex,b∈ex'):Un fs' ex' H H1 h h1:=
 ⟨λb a q n d he=>u.keep b a q n (λz=>d (hs b z)) λz=>he (c b z),λ_ _ q n _ he=>u.any q n λz=>he (c _ z),λb a q n he=>u.free b a q n λz=>he (c b z),λb a q he=>u.there b a q λz=>he (c b z),u.xg,u.cD,u.xh⟩
end
noncomputable def L1(h:Heap)(H:Hp):BY:=(List.range h.objs.size).filter λa=>(H a).isSome
def F8(h:Heap)(H:Hp):Heap:=hideAll h (L1 h H)
def Wi(h:Heap)(H:Hp):(F8 h H).objs.size=h.objs.size:=PySem.W.hideAll_size _ _
theorem Zc{o:Obj}(e:h.get? b=some o)(n:H b=none):(F8 h H).get? b=some o:=
 vl _ e λhm=>by
  have q:=(l7.1 hm).2;simp_all
theorem ad3{o:Obj}(e:(F8 h H).get? b=some o):h.get? b=some o/\H b=none:=by
 have a:=y2 _ e;refine⟨a,?_⟩;cases q:H b with
 | none=>rfl
 | some x=>
  have hm:b∈L1 h H:=l7.2 ⟨ma.2 (j0 a),by simp[q]⟩;have z:(F8 h H).get? b=none:=PySem.W.hideAll_none _ hm;simp_all
abbrev _root_.BC:=List (Addr×Obj)
noncomputable def ad4(g h:Heap)(L:Addr):BC:=(List.range h.objs.size).filterMap λa=>if a=L\/(g.get? a).isSome=true then none else(h.get? a).map λo=>(a,o)
def rest(g h:Heap)(L d:Addr):BC:=(ad4 g h L).filter λp=>decide (p.1≠d)
abbrev _root_.Bi:=Str->Option Value
structure Mod(K:Frag)(mg:Bi)(base:Heap):Prop where
 u6:K.In base
 glob:base.Ns mainGlobals mg
 blt:∃mb,base.Ns builtinsNs mb/\∀x:Str,x≠"__name__"->mb x=bootBuiltins x
 nolimit:base.NoLimit
abbrev _root_.At:=List Str
abbrev _root_.BN:=Value->Shared->Prop
abbrev _root_.D1:=List Env
structure Cx where
 prog:Program
 w:World
 K:Frag
 mg:Str->Option Value
 base:Heap
 A:Around
 N:At
 iE:Shared
 kc:Hp
 env:Env
 outer:D1
 stack:D1
 ex:BY
 fn:Str->Bool
 calm:Bool
 pn:BC
 xe:Value->Shared->Prop
noncomputable def sY(l:D1):BY:=l.filterMap (·.frame)
abbrev Cx.fs(X:Cx):BY:=sY X.outer
def r0(sc:Scope)(x:Str):Prop:=sc.names.lookup x=some .local\/sc.names.lookup x=some .cell\/sc.names.lookup x=some .free
def Loc(sc:Scope)(x:Str):Prop:=sc.names.lookup x=some .local\/sc.names.lookup x=some .cell
def Look(env:Env)(h:Heap)(m:Bi)(x:Str)(u:Value):Prop:=
 (env.kindOf x=some .local/\m x=some u)\/((env.kindOf x=some .cell\/env.kindOf x=some .free)/\∃c,env.cells.lookup x=some c/\h.IsCell c (some u))
structure Cx.Ok(X:Cx):Prop where
 mod:Mod X.K X.mg X.base
 kind:X.env.scope.kind=.function
 glob:X.env.globals=mainGlobals
 blt:X.env.builtins=builtinsNs
 above:X.iE.heap.objs.size<=X.env.locals
 inj:∀x y c,X.env.cells.lookup x=some c->X.env.cells.lookup y=some c->x=y
 has:∀x,(X.env.kindOf x=some .cell\/X.env.kindOf x=some .free)->∃c,X.env.cells.lookup x=some c
 sT:∀x c,X.fn x=true->X.env.cells.lookup x=some c->X.iE.heap.objs.size<=c
 hd:X.calm=true->X.A.handled=none
 frames:X.A.frames=some X.stack
 uk:X.stack=X.outer\/(X.stack=X.env::X.outer/\X.env.frame=some X.env.locals)
 yY:∀b∈X.ex,b≠X.env.locals/\∀x c,X.env.cells.lookup x=some c->c≠b
 bs:∀b o,X.base.get? b=some o->X.iE.heap.get? b=some o/\X.kc b=none
 YV:X.base.objs.size<=X.iE.heap.objs.size
 Qk:∀b o,X.base.get? b=some o->b∉X.ex
 Wj:∀b∈X.ex,b∉X.fs
 xj:X.iE.heap.FunFrames X.base X.outer
 oy:∀b∈X.fs,X.kc b=none
structure Inv(X:Cx)(pins:BC)(Y:Qhd)(H:Hp)(s:Qb):Prop where
 ok:X.Ok
 os:s.os=X.iE.os
 bare:AllBare s.gens
 base:Un X.fs X.ex X.kc H X.iE.heap s.heap
 loc:∃m,s.heap.Ns X.env.locals m/\∀(i:Nat) (x:Str) (v:V),X.N[i]? = some x->Y[i]? = some QaQ->r0 X.env.scope x->∃u,RelV v u/\Look X.env s.heap m x u
 cell:∀x c,X.env.cells.lookup x=some c->∃v,s.heap.IsCell c v
 free:H X.env.locals=none
 lB:∀x c,X.env.cells.lookup x=some c->H c=none
 pin:∀p∈X.pn++pins,s.heap.get? p.1=some p.2/\H p.1=none/\p.1≠X.env.locals/\p.1∉X.fs/\∀v,p.2.data ≠ .cell v
 cR:tE X.prog X.w H s.heap
 len:Y.length=X.N.length
variable{X:Cx}{pins:BC}{Y:Qhd}{s:Qb}
theorem Cx.Ok.aqH(ok:X.Ok){o:Obj}(e:X.base.get? b=some o):b∉X.fs:=λa=>by
 have:=(ok.xj.mem a).1;grind
theorem Inv.bs(I:QE):∀b o,X.base.get? b=some o->s.heap.get? b=some o/\H b=none:=λb o e=>
 ⟨I.base.keep b o (I.ok.bs b o e).1 (I.ok.bs b o e).2 (I.ok.aqH e) (I.ok.Qk b o e),I.base.free b o (I.ok.bs b o e).1 (I.ok.bs b o e).2 (I.ok.Qk b o e)⟩
theorem Inv.bk(I:QE):∀b o,X.base.get? b=some o->s.heap.get? b=some o:=λb o e=>(I.bs b o e).1
theorem Inv.mod(I:QE):Mod X.K X.mg X.base:=I.ok.mod
theorem Inv.Ah(I:QE):X.K.In s.heap:=I.ok.mod.u6.keeps I.bk
theorem Inv.nolimit(I:QE):s.heap.NoLimit:=I.ok.mod.nolimit.keeps I.bk
theorem Inv.lt(I:QE):X.env.locals<s.heap.objs.size:=let ⟨_,hn,_⟩:=I.loc;hn.lt
theorem Inv.sz(I:QE):X.iE.heap.objs.size<=s.heap.objs.size:=ky I.ok.above (lx I.lt)
theorem Inv.aqI(I:QE)(h:s.heap.objs.size<=a):a∉X.fs:=λc=>by
 obtain⟨_,o,b,_⟩:=I.ok.xj.mem c;exact absurd (mm (j0 b) (ky I.sz h)) (tI _)
theorem Inv.sL(I:QE):∀x c,X.env.cells.lookup x=some c->c≠X.env.locals:=λx c e z=>by
 obtain⟨v,o,a,hd⟩:=I.cell x c e;obtain⟨m,⟨o',es,ep,b,d,_⟩,_⟩:=I.loc;grind
theorem Inv.xj(I:QE):s.heap.FunFrames X.base X.outer:=by
 have all:∀(l:D1),(∀b∈sY l,b∈X.fs)->X.iE.heap.FunFrames X.base l->s.heap.FunFrames X.base l:=by
  intro l
  induction l with
  | nil=>intro _ _;trivial
  | cons env r d=>
   intro hs hl;obtain⟨h,⟨L,o,hf,hn,g,hd⟩,f⟩:=hl;have c:=hs L (by unfold sY;rw[m4,hf];exact gk);obtain⟨sl,e⟩:=I.base.slot L o g (I.ok.oy L c) c λz=>I.ok.Wj L z c;exact⟨h,⟨L,_,hf,hn,e,hd⟩,d (λb a=>hs b (by unfold sY;rw[m4,hf];exact ij _ a)) f⟩
 exact all _ (λ_ a=>a) I.ok.xj
theorem Inv.stack(I:QE):s.heap.FunFrames X.base X.stack:=by
 obtain e|⟨e,hf⟩:=I.ok.uk
 .rw[e];exact I.xj
 .rw[e];obtain⟨m,hn,_⟩:=I.loc;refine .cons (by rw[I.ok.kind];decide) hf hn ?_ I.xj;exact Heap.get?_none_of_le (ky I.ok.YV I.ok.above)
theorem Inv.Jd(I:QE):∀b∈sY X.stack,b∈X.env.locals::X.fs:=λb a=>by
 obtain e|⟨e,hf⟩:=I.ok.uk
 .rw[e]at a;exact ij _ a
 .rw[e]at a;unfold sY at a;rw[m4,hf]at a;exact a
theorem Inv.Cw(I:QE):∀b∈sY X.stack,H b=none:=λb a=>by
 obtain e|a:=fP.1 (I.Jd b a)
 .rw[e];exact I.free
 .obtain⟨_,o,c,_⟩:=I.ok.xj.mem a;exact I.base.free b o c (I.ok.oy b a) λz=>I.ok.Wj b z a
variable{t':Nat}
theorem Inv.step{E:Array GenState}{d':Drawn}{ch:BY}(I:QE)
  (y:∀b∈ch,Qh0/\b≠X.env.locals/\(∀x c,X.env.cells.lookup x=some c->c≠b)/\∀p∈X.pn++pins,p.1≠b)
  (keep:∀b o,b≠X.env.locals->b∉X.fs->b∉ch->s.heap.get? b=some o->H b=none->h'.get? b=some o)
  (slot:∀b o,b≠X.env.locals->b∈X.fs->b∉ch->s.heap.get? b=some o->H b=none->∃sl,h'.get? b=some {o with slots:=sl}) (free:∀b o,b∉ch->s.heap.get? b=some o->H b=none->H' b=none)
  (there:∀b o,b∉ch->s.heap.get? b=some o->∃o',h'.get? b=some o')
  (xg:∀b xs,H b=some Qbc->H' b=some Qbc) (cD:∀b o u,H b=some Qhk->H' b=some Qhk) (xh:∀b ps,H b=some (.tbl ps)->∃more,H' b=some Qvf)
  (ns:∀m,s.heap.Ns X.env.locals m->h'.Ns X.env.locals m) (cR:Qm3) (F:AllBare E) :
  Inv X pins Y H' {s with heap:=h',gens:=E,drawn:=d',toks:=t'}:=by
 have t:∀b o,X.iE.heap.get? b=some o->b≠X.env.locals:=λb o e=>kr QpK;have g:∀b o,X.iE.heap.get? b=some o->b∉X.ex->b∉ch:=λb o e a h=>by
  rcases(y b h).1 with z|z
  .exact a z
  .exact absurd (mm (j0 e) z) (tI _)
 have cellK:∀x c,X.env.cells.lookup x=some c->∀v,s.heap.IsCell c v->h'.IsCell c v:=λx c e v ⟨o,j,hd⟩=>by
  have f:c∉ch:=λz=>(y c z).2.2.1 x c e rfl;by_cases D:c∈X.fs
  .obtain⟨sl,q⟩:=slot c o (I.sL x c e) D f j QjQ;exact⟨_,q,hd⟩
  .exact⟨o,keep c o (I.sL x c e) D f j QjQ,hd⟩
 refine⟨I.ok,I.os,F,⟨λb o e n h a=>?_,λb o e n h a=>?_,λb o e n a=>?_,λb o e a=>?_,λb xs e=>xg b xs QuP,λb o xs e=>cD b o xs (I.base.cD b o xs e),λb ps e=>?_⟩,?_,λx c e=>?_,?_,λx c e=>?_,λp C=>?_,cR,I.len⟩
 .exact keep b o (t b o e) h Qj7 (I.base.keep b o e n h a) Ql3
 .obtain⟨sl,e1⟩:=I.base.slot b o e n h a;obtain⟨A,e2⟩:=slot b _ (t b o e) h Qj7 e1 Ql3;exact⟨A,e2⟩
 .obtain⟨o',e1⟩:=I.base.there b o e a;exact free b o' Qj7 e1 Ql3
 .obtain⟨o',e1⟩:=I.base.there b o e a;exact there b o' Qj7 e1
 .obtain⟨m1,e1⟩:=I.base.xh b ps e;obtain⟨m2,e2⟩:=xh b _ e1;exact⟨m1++m2,by rw[e2,Array.append_assoc]⟩
 .obtain⟨m,hn,hl⟩:=I.loc;refine⟨m,ns m hn,λi x v e1 e2 G=>?_⟩;obtain⟨u,r,l⟩:=hl i x v e1 e2 G;refine⟨u,r,?_⟩;obtain l|⟨k,c,e,z⟩:=l
  .exact .inl l
  .exact .inr ⟨k,c,e,cellK x c e _ z⟩
 .obtain⟨v,z⟩:=I.cell x c e;exact⟨v,cellK x c e v z⟩
 .obtain⟨m,⟨o,_,_,j,_⟩,_⟩:=I.loc;exact free _ o (λz=>(y _ z).2.1 rfl) j I.free
 .obtain⟨v,o,j,hd⟩:=I.cell x c e;exact free c o (λz=>(y c z).2.2.1 x c e rfl) j QjQ
 .obtain⟨e,n,ne,B,d⟩:=I.pin p C;have f:p.1∉ch:=λz=>(y p.1 z).2.2.2 p C rfl;exact⟨keep p.1 p.2 ne B f e n,free p.1 p.2 f e n,ne,B,d⟩
theorem Inv.un(I:QE)(u:Un X.fs [] H H' s.heap h')(cR:Qm3):Inv X pins Y H' {s with heap:=h',toks:=t'}:=by
 obtain⟨m,⟨o,es,ep,f,r⟩,_⟩:=id I.loc;obtain⟨sl,i⟩:=u.any f I.free Wp;exact I.step (ch:=[]) (λ_ z=>nomatch z) (λb o _ a _ e n=>u.keep b o e n a Wp) (λb o _ a _ e n=>u.slot b o e n a Wp) (λb o _ e n=>u.free b o e n Wp) (λb o _ e=>u.there b o e Wp) u.xg u.cD u.xh (λj hm=>by
  obtain⟨o',c,d,g,h⟩:=hm;rw[f]at g;cases g;exact⟨_,c,d,i,h⟩) cR I.bare
theorem Inv.call{i:Array GenState}{d':Drawn}{ch:BY}(I:QE)(u:Un Qby ch H H' s.heap h')(cR:Qm3)(q:AllBare i)
  (j:∀b∈ch,Qh0/\b≠X.env.locals/\(∀x c,X.env.cells.lookup x=some c->c≠b)/\∀p∈X.pn++pins,p.1≠b) :
  Inv X pins Y H' {s with heap:=h',gens:=i,drawn:=d',toks:=t'}:=by
 obtain⟨m,⟨o,es,ep,h,r⟩,_⟩:=id I.loc;obtain⟨sl,d⟩:=u.any h I.free λz=>(j _ z).2.1 rfl;exact I.step j (λb o d t a e n=>u.keep b o e n (λz=>(fP.1 (I.Jd b z)).elim d t) a) (λb o _ _ a e n=>u.any e n a) (λb o a e n=>u.free b o e n a) (λb o a e=>u.there b o e a) u.xg u.cD u.xh (λv hm=>by
  obtain⟨o',f,g,k,l⟩:=hm;rw[h]at k;cases k;exact⟨_,f,g,d,l⟩) cR q
theorem Inv.turned{it:Addr}(I:QE)(k:∀b o,b≠it->s.heap.get? b=some o->h'.get? b=some o)(hn:H it=none)(f:it≠X.env.locals)
  (h1:it∈X.ex\/X.iE.heap.objs.size<=it) (h2:∀x c,X.env.cells.lookup x=some c->c≠it) (i:∀p∈X.pn++pins,p.1≠it):Inv X pins Y H {s with heap:=h',toks:=t'}:=by
 have d:∀b u,H b=some u->b≠it:=λb u e z=>by grind
 refine I.step (ch:=[it]) (λb h=>?_) (λb o _ _ a e _=>k b o (λz=>a (by simp[z])) e) (λb o _ _ a e _=>⟨ _,k b o (λz=>a (by simp[z])) e⟩) Qtv
  (λb o a e=>⟨o,k b o (λz=>a (by simp[z])) e⟩) Qus QgC (λb ps e=>⟨#[],‹_› ⟩) (λm hm=>?_) (λb u e=>?_) I.bare
 .have e:=by simpa using h
  subst e;exact⟨h1,f,h2,i⟩
 .obtain⟨o,es,ep,g,r⟩:=hm;exact⟨o,es,ep,k _ o (ml f) g,r⟩
 .refine(I.cR b u e).yz (λc v a q=>k c v ?_ q) QcE λ_ _ q=>q;obtain z|z:=a
  .rw[z];exact d b u e
  .exact d c _ z
theorem Inv.tok(I:QE)(t:Nat):Inv X pins Y H {s with toks:=t}:=I.un Un.refl I.cR
theorem Inv.kept(I:QE)(k:∀b u,s.heap.get? b=some u->h'.get? b=some u):Inv X pins Y H {s with heap:=h',toks:=t'}:=I.un (Un.kept k) (I.cR.kept k)
theorem Inv.laid(I:QE)(k:∀b u,s.heap.get? b=some u->h'.get? b=some u)(c:s.heap.objs.size<=a)(new:dU X.prog X.w Qbz h' a o) :
  Inv X pins Y Qbz {s with heap:=h',toks:=t'}:=I.un (Un.laid k c (I.cR.fresh c)) (I.cR.laid k c new)
theorem Inv.write(I:QE)(c:xw (H x))(he:Qph)(k:∀b u,b≠e->s.heap.get? b=some u->h'.get? b=some u)(a:∃u,h'.get? e=some u)
  (new:dU X.prog X.w QoV h' x o):Inv X pins Y QoV {s with heap:=h',toks:=t'}:=I.un (Un.write c he k a) (I.cR.write c he k a new)
theorem Inv.Cy{a:BC}(I:QE)(h:∀p∈a,s.heap.get? p.1=some p.2/\H p.1=none/\p.1≠X.env.locals/\p.1∉X.fs/\∀v,p.2.data ≠ .cell v):Inv X a Y H s:=
 ⟨I.ok,I.os,I.bare,I.base,I.loc,I.cell,I.free,I.lB,λp b=>(iw.1 b).elim (λz=>I.pin p (i4 _ z)) (h p),I.cR,I.len⟩
variable{i:Nat}
def MS{N:At}(c:N.Nodup){j:Nat}{x:Str}(a:N[i]? = some x)(b:N[j]? = some x):i=j:=by
 obtain⟨h1,e1⟩:=lr.1 a;obtain⟨h2,e2⟩:=lr.1 b;exact(List.getElem_inj c).1 (e1.trans e2.symm)
variable{M:Model}{A:Qas}{E:BN}{v:V}{u:Value}{Q:Qmq}
abbrev _root_.Ev:=List Keyword
abbrev _root_.AB(X:Cx)(p:Pos)(e:Expr):Prop:=((backTo p QmB).all Qjp&&(backToKw p QhJ).all QiA&&decide ([e].length+([]:Ev).length+QhZ<30))=true
abbrev _root_.Ch:=List Expr
abbrev _root_.AC(X:Cx)(e:Expr)(es:Ch):Prop:=starEach Qau X.env=(false,eval e X.env)::starEach es X.env
abbrev _root_.AD(x:Str):Prop:=Qis=false
abbrev _root_.AE(x:Str):Prop:=QrM=false
abbrev _root_.AL(X:Cx)(p:Pos)(es:Ch):Prop:=(backTo p (starEach es X.env)).any (·.1)=false
abbrev _root_.AM(X:Cx)(y:Str):Prop:=X.fn y=true\/X.env.scope.names.lookup y=some .local
abbrev _root_.AN(X:Cx)(e:Expr):Prop:=∀x,foldedSetIterable e X.env x=pure x
abbrev _root_.AR(X:Cx)(e d:Expr):Prop:=starEach [e,d] X.env=[(false,eval e X.env),(false,eval d X.env)]
abbrev _root_.AS(X:Cx)(e:Expr)(f:Str):Prop:=attributeBase e f X.env QgD=eval e X.env
def Wn{x:Str}(I:QE)(Z:Qbs)(hi:X.N[i]? = some x)(g:Qdo)(r:QcM)
  (h:∀s',Inv X pins QeR H s'->(∃a,Heap.SameBut a s.heap s'.heap/\(a=X.env.locals\/X.env.cells.lookup x=some a))->Q () s') (hf:Qdp:=by first|exact .inl rfl|exact .inr rfl|assumption):wpAny M A Qtw Q E s:=by
 obtain⟨m,hn,hl⟩:=id I.loc;have W:(X.env.scope.kind == .class || (X.env.scope.kind == .module&&X.env.locals != X.env.globals))=false:=by rw[I.ok.kind];rfl
 have t:i<Y.length:=by rw[I.len];exact(lr.1 hi).1
 have sL:=I.sL;have tracked:∀{a:Addr} {h':Heap},(∃o,s.heap.get? a=some o/\H a=none)->Heap.SameBut a s.heap h'->tE X.prog X.w H h':=λ{a h'} ha hs b ob e=>by
  obtain⟨_,_,MT⟩:=ha;refine(I.cR b ob e).yz (λc J f q=>(hs.2 c ?_).trans q) QcE λ_ _ q=>q;rintro rfl;obtain rfl|f:=f
  .rw[MT]at e;cases e
  .rw[MT]at f;cases f
 obtain l|l:=g
 .refine wpAny_storeName_local l hn (λh' T hs=>?_) W;obtain⟨oL,_,_,S,_⟩:=id hn;refine h _ ⟨I.ok,I.os,I.bare,⟨λb o e n D g=>?_,λb o e n D g=>?_,I.base.free,λb o e g=>?_,I.base.xg,I.base.cD,I.base.xh⟩,⟨_,T,λj y v' e1 e2 U=>?_⟩,λy c e=>?_,I.free,I.lB,λp R=>?_,tracked ⟨oL,S,I.free⟩ hs,by simpa using I.len⟩ ⟨_,hs,.inl rfl⟩
  .exact(hs.2 b QoJ).trans Qsh
  .obtain⟨sl,e1⟩:=I.base.slot b o e n D g;exact⟨sl,(hs.2 b QoJ).trans e1⟩
  .obtain⟨o',e1⟩:=I.base.there b o e g;exact⟨o',(hs.2 b QoJ).trans e1⟩
  .by_cases B:j=i
   .subst B;rw[hi]at e1;cases e1;rw[za t]at e2;cases e2;exact⟨u,r,.inl ⟨l,Wp⟩⟩
   .rw[List.getElem?_set_ne (ml B)]at e2;obtain⟨L,O,q⟩:=hl j y v' e1 e2 U;refine⟨L,O,?_⟩;obtain⟨k,e⟩|⟨k,c,e,z⟩:=q
    .refine .inl ⟨k,?_⟩;have:y≠x:=λe=>B (MS Z e1 (e▸hi));simp[this,e]
    .exact .inr ⟨k,c,e,z.sameBut hs (sL y c e)⟩
  .obtain⟨J,z⟩:=I.cell y c e;exact⟨J,z.sameBut hs (sL y c e)⟩
  .obtain⟨e,n,ne,P,d⟩:=I.pin p R;exact⟨(hs.2 p.1 ne).trans e,n,ne,P,d⟩
 .have C:X.fn x=true:=by
   obtain z|z:=hf
   .exact z
   .rw[z]at l;cases l
  obtain⟨c,f⟩:=I.ok.has x (.inl l);obtain⟨J,z⟩:=I.cell x c f;refine wpAny_storeName_cell I.ok.kind l f z (λh' Up hs=>?_);obtain⟨oc,F,V⟩:=id z;refine h {s with heap:=h'} ⟨I.ok,I.os,I.bare,⟨λb o e n D g=>?_,λb o e n D g=>?_,I.base.free,λb o e g=>?_,I.base.xg,I.base.cD,I.base.xh⟩,⟨m,hn.sameBut hs (Ne.symm (sL x c f)),λj y v' e1 e2 U=>?_⟩,λy K e=>?_,I.free,I.lB,λp R=>?_,tracked ⟨oc,F,I.lB x c f⟩ hs,by simpa using I.len⟩ ⟨c,hs,.inr f⟩
  .exact(hs.2 b Qlc).trans Qsh
  .obtain⟨sl,e1⟩:=I.base.slot b o e n D g;exact⟨sl,(hs.2 b Qlc).trans e1⟩
  .obtain⟨o',e1⟩:=I.base.there b o e g;exact⟨o',(hs.2 b Qlc).trans e1⟩
  .by_cases B:j=i
   .subst B;rw[hi]at e1;cases e1;rw[za t]at e2;cases e2;exact⟨u,r,.inr ⟨.inl l,c,f,Up⟩⟩
   .rw[List.getElem?_set_ne (ml B)]at e2;obtain⟨L,O,q⟩:=hl j y v' e1 e2 U;refine⟨L,O,?_⟩;obtain q|⟨k,K,e,z'⟩:=q
    .exact .inl q
    .refine .inr ⟨k,K,e,z'.sameBut hs ?_⟩;rintro rfl;exact B (MS Z e1 (I.ok.inj _ _ _ e f▸hi))
  .by_cases G:K=c
   .subst G;exact⟨_,Up⟩
   .obtain⟨w2,z2⟩:=I.cell y K e;exact⟨w2,z2.sameBut hs G⟩
  .obtain⟨e,n,ne,P,d⟩:=I.pin p R;refine⟨(hs.2 p.1 ?_).trans e,n,ne,P,d⟩;intro q;rw[q,F]at e;have q':oc=p.2:=l5 e;exact d J (by rw[<- q'];exact V)
def Df{x:Str}(I:QE)(b:Qbs)(hi:X.N[i]? = some x)(a:Qdo)(r:QcM)
  (h:∀s',Inv X pins QeR H s'->Q () s') (hf:Qdp:=by first|exact .inl rfl|exact .inr rfl|assumption):wpAny M A Qtw Q E s:=
 Wn I b hi a r (λs' c _=>h s' c) hf
theorem Inv.OR{s':Qb}{ch:BY}(I:QE)(a:s'.os=s.os)(u:Un Qby ch H H' s.heap s'.heap)(cR:tE X.prog X.w H' s'.heap)(d:AllBare s'.gens)
  (f:∀b∈ch,Qh0/\b≠X.env.locals/\(∀x c,X.env.cells.lookup x=some c->c≠b)/\∀p∈X.pn++pins,p.1≠b):Inv X pins Y H' s':=by
 obtain⟨h',g,d',t',o'⟩:=s';have e:=a;subst e;exact I.call u cR d f
abbrev _root_.Do:=Option Addr
abbrev XK:=Value->Do->Hp->Prop
abbrev St:=List (Option V)
abbrev VK:=V->Hp->Prop
abbrev TE:=St->Hp->VK->Prop
abbrev _root_.EM:=Bool->Hp->Prop
abbrev TT:=St->Hp->EM->Prop
abbrev _root_.EN:=B0->Hp->Prop
abbrev TA:=St->Hp->EN->Prop
structure Ends where
 nx:St->Hp->Prop
 rt:VK
 bk:St->Hp->Prop:=λ_ _=>False
 ct:St->Hp->Prop:=λ_ _=>False
abbrev TS:=Ends->St->Hp->Prop
def EP(X:Cx)(pins:BC)(Y:St)(Q:VK)(u:Value)(s':Qb):Prop:=∃v H',Inv X pins Y H' s'/\RelV v u/\Q v H'
def TP(X:Cx)(pins:BC)(Y:St)(Q:EM)(b:Bool)(s':Qb):Prop:=∃H',Inv X pins Y H' s'/\Q b H'
def AP(X:Cx)(pins:BC)(Y:St)(Q:EN)(us:B2)(s':Qb):Prop:=∃vs H',Inv X pins Y H' s'/\Vals vs us/\Q vs H'
def SP(X:Cx)(pins:BC)(D:Ends)(f:Flow)(s':Qb):Prop:=
 match f with
 | .next=>∃Y' H',Inv X pins Y' H' s'/\D.nx Y' H'
 | .brk=>∃Y' H',Inv X pins Y' H' s'/\D.bk Y' H'
 | .cont=>∃Y' H',Inv X pins Y' H' s'/\D.ct Y' H'
 | .ret u=>∃v Y' H',Inv X pins Y' H' s'/\RelV v u/\D.rt v H'
def PE(X:Cx)(e:Expr)(t:TE):Prop:=
 ∀(pins:BC) (s:Qb) (Y:St) (H:Hp) (Q:VK),Inv X pins Y H s->t Y H Q->wpAny Qe X.A QgD Qa9 X.xe s
def PT(X:Cx)(e:Expr)(t:TT):Prop:=
 ∀(pins:BC) (s:Qb) (Y:St) (H:Hp) (Q:EM),Inv X pins Y H s->t Y H Q->wpAny Qe X.A QsW QeV X.xe s
def PW(X:Cx)(e:Expr)(t:TT):Prop:=
 ∀(whole:Sem Value) (pins:BC) (s:Qb) (Y:St) (H:Hp) (Q:EM),Inv X pins Y H s->t Y H Q->wpAny Qe X.A Qtc QeV X.xe s
def PA(X:Cx)(es:Ch)(t:TA):Prop:=
 ∀(pos:Pos) (pins:BC) (s:Qb) (Y:St) (H:Hp) (Q:EN),Inv X pins Y H s->t Y H Q->wpAny Qe X.A Qqr QnQ X.xe s
def PS(X:Cx)(st:Stmt)(t:TS):Prop:=
 ∀(pins:BC) (s:Qb) (Y:St) (H:Hp) (D:Ends),Inv X pins Y H s->t D Y H->wpAny Qe X.A (exec st X.env) QjB X.xe s
abbrev _root_.CI:=List Stmt
def Ql(X:Cx)(st:CI)(t:TS):Prop:=
 ∀(pins:BC) (s:Qb) (Y:St) (H:Hp) (D:Ends),Inv X pins Y H s->t D Y H->wpAny Qe X.A Qnu QjB X.xe s
noncomputable def dP{α:Type}{t:Sem α}{Q b:α->Shared->Prop}(h:wpAny M A t Q E s)(hQ:∀a s,Q a s->b a s):wpAny M A t b E s:=la h hQ λ_ _ x=>x
section
noncomputable def aqK(i:Nat):TE:=λY H Q=>∃v,Y[i]? = some QaQ/\Q v H
noncomputable def tC(v:V):TE:=λ_ H Q=>Q v H
def jq{x:Str}{pos:Pos}(f:X.N[i]? = some x)(hv:QnR)(hd:AD x:=by decide)(iV:AE x:=by decide):PE X QaE (aqK i):=by
 intro pins s Y H Q I h;obtain⟨v,e,h⟩:=h;obtain⟨m,hn,hl⟩:=I.loc;obtain⟨u,r,l⟩:=hl i x v f e hv;have fin:EP X pins Y Q u s:=⟨v,H,I,r,h⟩;obtain⟨a,hm⟩|⟨a,c,d,b⟩:=l
 .exact wpAny_Name (wpAny_loadName_local I.ok.kind a hn hm fin) hd
 .obtain a|a:=a
  .exact wpAny_Name (wpAny_loadName_cell I.ok.kind a d b fin) hd
  .exact wpAny_Name (wpAny_loadName_free I.ok.kind a d b fin iV) hd
noncomputable def aiU{i j pos}:PE X Ql4 (tC Qba):=λ_ _ _ H _ I h=>wpAny_Constant_int ⟨.int i,H,I.tok _,⟨_,rfl⟩,h⟩
noncomputable def OP{b j pos}:PE X (.Constant (.bool b) j pos) (tC Qd5):=λ_ _ _ H _ I h=>Constant_bool ⟨.bl b,H,I,rfl,h⟩
noncomputable def aiV{j pos}:PE X QsX (tC .non):=λ_ _ _ H _ I h=>Constant_none ⟨.non,H,I,rfl,h⟩
noncomputable def aiW{x j pos}:PE X QlR (tC Qbk):=λ_ _ _ H _ I h=>Calls.Constant_str ⟨.str x,H,I.tok _,⟨_,rfl⟩,h⟩
def Gl(X:Cx)(x:Str):Prop:=X.env.kindOf x=some .globalImplicit
def qH{Y:St}{x:Str}{pos:Pos}{Q:BN}(I:QE)(a:QaA)(hm:X.mg x=some u)(h:Q u s)
  (hd:AD x:=by decide):wpAny Qe X.A QuQ Q E s:=
 Calls.Name_function_global I.ok.kind a (Calls.loadGlobal_global (I.ok.glob▸I.mod.glob.keeps I.bk) hm h) hd
def ni{Y:St}{x:Str}{pos:Pos}{Q:BN}(I:QE)(a:QaA)(hm:Qkm)(hv:bootBuiltins x=some u)(h:Q u s)
  (hn:Qi4:=by decide) (hd:AD x:=by decide):wpAny Qe X.A QuQ Q E s:=by
 obtain⟨mb,h1,h2⟩:=I.mod.blt;exact Calls.Name_function_global I.ok.kind a (Calls.loadGlobal_builtin (I.ok.glob▸I.mod.glob.keeps I.bk) hm (I.ok.blt▸h1.keeps I.bk) ((h2 x hn).trans hv) h) hd
def ad5{x:Str}{pos:Pos}(a:QaA)(hm:X.mg x=some u)(r:QcM)(hd:AD x:=by decide):PE X QaE (tC v):=
 λ_ _ _ H _ I h=>qH I a hm ⟨v,H,I,r,h⟩ hd
def Uq{x:Str}{pos:Pos}(a:QaA)(hm:Qkm)(hv:bootBuiltins x=some u)(r:QcM)(hn:Qi4:=by decide)(hd:AD x:=by decide):PE X QaE (tC v):=
 λ_ _ _ H _ I h=>ni I a hm hv ⟨v,H,I,r,h⟩ hn hd
variable{a b:Expr}{ta tb:TE}{pos:Pos}
def PC(X:Cx)(op:CmpOp)(a b:Expr)(t:TE):Prop:=
 ∀(pins:BC) (s:Qb) (Y:St) (H:Hp) (Q:VK),Inv X pins Y H s->t Y H Q →
  wpAny Qe X.A (eval a X.env) (λv d=>wpAny Qe X.A (eval b X.env) (λu c=>wpAny Qe X.A (compareOp op v u) Qa9 X.xe c) X.xe d) X.xe s
theorem MV(b:Expr){op:CmpOp}(h:op ≠ .In)(h2:op ≠ .NotIn):behindInMarks op b=false:=by
 have e1:(op==CmpOp.In)=false:=by grind
 have e2:Qvg=false:=by grind
 cases b<;>simp[behindInMarks,e1,e2]
noncomputable def aqL(ta:TE):TE:=λY H Q=>ta Y H λx H1=>Q (.bl (decide (x=.non))) H1
theorem RelV.Zd{x:V}{v:Value}(r:Qhz):(v==Value.none)=decide (x=.non):=by
 cases x with
 | non=>cases r;rfl
 | bl _=>cases r;rfl
 | int _=>obtain⟨t,rfl⟩:=r;rfl
 | str _=>obtain⟨t,rfl⟩:=r;rfl
 | Qj _=>obtain⟨t,rfl⟩:=r;rfl
 | flt _=>obtain⟨t,rfl⟩:=r;rfl
 | ref _=>cases r;rfl
 | ty _=>cases r;rfl
def Je{j pos'}(c:QbP):PC X .Is a (.Constant .none j pos') (aqL ta):=by
 intro pins s Y H Q I h;refine dP QtZ λv s1 zz=>?_;obtain⟨x,H1,d,b,q1⟩:=zz;exact Constant_none (is_none_gen ⟨.bl _,H1,d,by rw[b.Zd];rfl,q1⟩)
noncomputable def tB(t:TE):TT:=λY H Q=>t Y H λx H1=>∃c,x=.bl c/\Q c H1
def aiX{op:CmpOp}{t:TE}(h:PC X op a b t)(h1:Qit:=by first|exact MV _ Wm Wm|rfl):PE X Qio t:=λpins s Y H Q I hw=>wpAny_Compare1 Qtx h1
def Ak{op:CmpOp}{t:TE}(h:PC X op a b t)(h1:Qit:=by first|exact MV _ Wm Wm|rfl):PT X Qio (tB t):=by
 intro pins s Y H Q I hw;refine wpAny_isTrue_Compare1 (dP Qmm λv s1 h1=>dP h1 λu s2 h2=>dP h2 λc s3 zz=>?_) h1;obtain⟨x,H1,f,e,q1⟩:=zz;obtain⟨d,rfl,q⟩:=q1;cases e;exact ro ⟨H1,f,q⟩
def aiY{e:Expr}{t:TE}(h:PE X e t)(he:∀whole,isTrue e X.env whole=(do let v ← whole;standAt e.pos;holding [v] Qhg):=by intro _;rfl):PT X e (tB t):=by
 intro pins s Y H Q I hw;refine isTrue_plain (dP Qmm λv s1 zz=>?_) (he _);obtain⟨x,H1,b,a,q1⟩:=zz;obtain⟨d,rfl,q⟩:=q1;cases a;exact ro ⟨H1,b,q⟩
variable{tA tB':TT}{rest:Ch}
noncomputable def aqM(t u:TT):TT:=λY H Q=>t Y H λc H1=>if c=true then u Y H1 Q else Q false H1
noncomputable def TZ(t u:TT):TT:=λY H Q=>t Y H λc H1=>if c=true then Q true H1 else u Y H1 Q
noncomputable def aqN(t:TT):TT:=λY H Q=>t Y H λc H1=>Q (!c) H1
theorem ad6(b:QhA):PW X (.BoolOp .And [a] pos) tA:=by
 intro d pins s Y H Q I h;refine isTrue_and (dP Qt0 λc s1 e=>?_);cases c with
 | true=>exact isTrue_and_nil e
 | false=>exact e
theorem aiZ(b:QhA):PW X (.BoolOp .Or [a] pos) tA:=by
 intro d pins s Y H Q I h;refine isTrue_or (dP Qt0 λc s1 e=>?_);cases c with
 | false=>exact isTrue_or_nil e
 | true=>exact e
theorem ai0(g:QhA)(f:PW X QrN tB'):PW X QvK (aqM tA tB'):=by
 intro e pins s Y H Q I h;refine isTrue_and (dP Qgm λc s1 zz=>?_);obtain⟨H1,d,q1⟩:=zz;cases c with
 | true=>exact f e pins s1 Y H1 Q d q1
 | false=>exact⟨H1,d,q1⟩
theorem anz(g:QhA)(f:PW X QrZ tB'):PW X QvN (TZ tA tB'):=by
 intro e pins s Y H Q I h;refine isTrue_or (dP Qgm λc s1 zz=>?_);obtain⟨H1,d,q1⟩:=zz;cases c with
 | true=>exact⟨H1,d,q1⟩
 | false=>exact f e pins s1 Y H1 Q d q1
noncomputable def ai1(b:QhA):PT X Qty (aqN tA):=λpins s Y H Q I h=>isTrue_not (b pins s Y H _ I h)
noncomputable def anA(ta tb:TE):TE:=λY H Q=>ta Y H λx H1=>∃c,x=.bl c/\if c=true then tb Y H1 Q else Q (.bl false) H1
noncomputable def aqO(ta tb:TE):TE:=λY H Q=>ta Y H λx H1=>∃c,x=.bl c/\if c=true then Q QbA H1 else tb Y H1 Q
noncomputable def anB(ta:TE):TE:=λY H Q=>ta Y H λx H1=>∃c,x=.bl c/\Q (.bl (!c)) H1
noncomputable def ai2{op}{t:TE}(h:PE X a t):PE X (.BoolOp op [a] pos) t:=λpins s Y H Q I hw=>BoolOp_one Qtx
theorem ai3(g:QbP)(f:PE X QrN tb):PE X QvK (anA ta tb):=by
 intro pins s Y H Q I h;refine BoolOp_and (dP Qgm λv s1 zz=>?_);obtain⟨x,H1,d,e,q1⟩:=zz;obtain⟨c,rfl,q1⟩:=q1;cases e;refine ro ?_;cases c with
 | true=>exact f pins s1 Y H1 Q d q1
 | false=>exact⟨.bl _,H1,d,rfl,q1⟩
theorem anC(g:QbP)(f:PE X QrZ tb):PE X QvN (aqO ta tb):=by
 intro pins s Y H Q I h;refine BoolOp_or (dP Qgm λv s1 zz=>?_);obtain⟨x,H1,d,e,q1⟩:=zz;obtain⟨c,rfl,q1⟩:=q1;cases e;refine ro ?_;cases c with
 | false=>exact f pins s1 Y H1 Q d q1
 | true=>exact⟨.bl true,H1,d,rfl,q1⟩
def ai4(d:QbP):PE X Qty (anB ta):=by
 intro pins s Y H Q I h;refine UnaryOp_ (dP Qt1 λv s1 zz=>?_);obtain⟨x,H1,e,b,q1⟩:=zz;obtain⟨c,rfl,q1⟩:=q1;cases b;exact not_of (ro ⟨.bl (!c),H1,e,rfl,q1⟩)
noncomputable def T2(t:TT)(ta tb:TE):TE:=λY H Q=>t Y H λc H1=>if c=true then ta Y H1 Q else tb Y H1 Q
theorem Ze{c:Expr}(f:PT X c tA)(i:QbP)(g:Qfz):PE X (.IfExp c a b pos) (T2 tA ta tb):=by
 intro pins s Y H Q I h;refine wpAny_IfExp (dP Qgn λd s1 zz=>?_);obtain⟨H1,e,q1⟩:=zz;cases d with
 | true=>exact i pins s1 Y H1 Q e q1
 | false=>exact g pins s1 Y H1 Q e q1
end
def mJ(K:Frag)(H:Hp)(a:Addr)(xs:B0):Prop:=
 Rd H a Qbo ∨
  ∃(o:Obj) (its:Cl) (n:Nat),K.lookup a=some o/\o.cls=.type "list" /\ o.dict=none/\o.data=.seq its n/\its.size<=sizeLine/\Vals xs its.toList
def tL(K:Frag)(H:Hp)(a:Addr)(xs:B0):Prop:=
 Rd H a Qbc ∨
  ∃(o:Obj) (its:Cl) (n:Nat),K.lookup a=some o/\o.cls=.type "tuple" /\ o.data=.seq its n/\its.size<=sizeLine/\Vals xs its.toList
noncomputable def aqP:Value->Option V
 | .none=>some .non
 | .bool b=>some Qd5
 | .int i _=>some Qba
 | .str x _ => some Qbk
 | .bytes b _=>some (.Qj b)
 | .float b _=>some (.flt b)
 | .ref a=>some Q3
 | .type n=>some (.ty n)
 | _=>none
theorem RelV.abs{x:V}(r:RelV x u):aqP u=some x:=by
 cases x with
 | non=>cases r;rfl
 | bl _=>cases r;rfl
 | int _=>obtain⟨t,rfl⟩:=r;rfl
 | str _=>obtain⟨t,rfl⟩:=r;rfl
 | Qj _=>obtain⟨t,rfl⟩:=r;rfl
 | flt _=>obtain⟨t,rfl⟩:=r;rfl
 | ref _=>cases r;rfl
 | ty _=>cases r;rfl
theorem RelV.inj{x y:V}(r:RelV x u)(q:QbQ):x=y:=l5 (r.abs.symm.trans q.abs)
theorem Vals.inj{ys:B0}(h:QcL)(q:Vals ys us):xs=ys:=by
 induction h generalizing ys with
 | nil=>cases q;rfl
 | cons r _ i=>cases q with
  | cons a t'=>rw[r.inj a,i t']
variable{Y:St}{ys:B0}{K:Frag}
theorem mJ.of(h:H a=some Qbo):mJ K H a xs:=.inl Qfj
theorem tL.of(h:H a=some Qbc):tL K H a xs:=.inl Qfj
theorem Inv.list(I:QE)(h:mJ X.K H a xs):∃its:B2,Vals xs its/\PlainL s.heap a its.toArray/\xs.length<=sizeLine:=by
 obtain h|⟨o,its,n,b,c,hd,hs,hz,r⟩:=h
 .obtain⟨z,its,n,r,e⟩:=h.ok I.cR;exact⟨its,r,⟨_,n,e,rfl,rfl,rfl⟩,z⟩
 .refine⟨ _,r,⟨o,n,I.Ah a o b,c,hd,‹_› ⟩,?_⟩;have e:=r.length;grind
theorem Inv.tuple(I:QE)(h:tL X.K H a xs):∃its:B2,Vals xs its/\IsTup s.heap a its.toArray/\xs.length<=sizeLine:=by
 obtain h|⟨o,its,n,b,c,hs,hz,r⟩:=h
 .obtain⟨z,its,r,p⟩:=h.ok I.cR;exact⟨its,r,p,z⟩
 .refine⟨ _,r,⟨o,I.Ah a o b,c,n,‹_› ⟩,?_⟩;have e:=r.length;grind
theorem Inv.Dg(I:QE)(h:mJ X.K H a xs)(h':mJ X.K H a ys):xs=ys:=by
 obtain⟨its,r,⟨o,n,e,_,_,d⟩,_⟩:=I.list h;obtain⟨f,c,⟨o',g,b,_,_,d'⟩,_⟩:=I.list h';rw[e]at b;cases b;rw[d]at d';injection d' with d1 _;have:its=f:=by simp_all
 subst this;exact r.inj c
theorem Inv.Ht(I:QE)(h:tL X.K H a xs)(h':tL X.K H a ys):xs=ys:=by
 obtain⟨its,r,⟨o,e,_,n,d⟩,_⟩:=I.tuple h;obtain⟨f,c,⟨o',b,_,g,d'⟩,_⟩:=I.tuple h';rw[e]at b;cases b;rw[d]at d';injection d' with d1 _;have:its=f:=by simp_all
 subst this;exact r.inj c
noncomputable abbrev Cx.gS(X:Cx)(E:BN):Cx:={X with xe:=E}
abbrev Cx.Qe(X:Cx):Cx:=X.gS λ_ _=>False
theorem Cx.Ok.gS(ok:X.Ok)(E:BN):(X.gS E).Ok:=
 ⟨ok.mod,ok.kind,ok.glob,ok.blt,ok.above,ok.inj,ok.has,ok.sT,ok.hd,ok.frames,ok.uk,ok.yY,ok.bs,ok.YV,ok.Qk,ok.Wj,ok.xj,ok.oy⟩
theorem Cx.Ok.jr(ok:(X.gS E).Ok):X.Ok:=
 ⟨ok.mod,ok.kind,ok.glob,ok.blt,ok.above,ok.inj,ok.has,ok.sT,ok.hd,ok.frames,ok.uk,ok.yY,ok.bs,ok.YV,ok.Qk,ok.Wj,ok.xj,ok.oy⟩
theorem Inv.gS(I:QE)(E:BN):Inv Qkx pins Y H s:=⟨I.ok.gS E,I.os,I.bare,I.base,I.loc,I.cell,I.free,I.lB,I.pin,I.cR,I.len⟩
theorem Inv.jr(I:Inv Qkx pins Y H s):Inv X pins Y H s:=⟨I.ok.jr,I.os,I.bare,I.base,I.loc,I.cell,I.free,I.lB,I.pin,I.cR,I.len⟩
theorem SP.jr{D:Ends}{f:Flow}{s':Qb}(h:SP Qkx pins D f s'):SP X pins D f s':=by
 cases f with
 | next=>obtain⟨Y',H',I,q⟩:=h;exact⟨Y',H',I.jr,q⟩
 | brk=>obtain⟨Y',H',I,q⟩:=h;exact⟨Y',H',I.jr,q⟩
 | cont=>obtain⟨Y',H',I,q⟩:=h;exact⟨Y',H',I.jr,q⟩
 | ret u=>obtain⟨v,Y',H',I,r,q⟩:=h;exact⟨v,Y',H',I.jr,r,q⟩
variable{t:TE}
theorem PE.Qe{e:Expr}(h:PE X.Qe e t):PE X e t:=λpins s Y H Q I hw=>
 la QrH (λ_ _ ⟨v,H',a,r,q⟩=>⟨v,H',a.jr,r,q⟩) λ_ _ z=>False.elim z
theorem PT.Qe{e:Expr}{t:TT}(h:PT X.Qe e t):PT X e t:=λpins s Y H Q I hw=>
 la QrH (λ_ _ ⟨H',a,q⟩=>⟨H',a.jr,q⟩) λ_ _ z=>False.elim z
theorem Ql.Qe{st:CI}{t:TS}(h:Ql X.Qe st t):Ql X st t:=λpins s Y H D I hw=>
 la (h pins s Y H D (I.gS _) hw) (λ_ _ q=>q.jr) λ_ _ z=>False.elim z
section
variable{st:Stmt}{rest:CI}{t u:TS}{e:Expr}{te:TE}{pos:Pos}
noncomputable def anD:TS:=λD Y H=>D.nx Y H
noncomputable def Z0(t u:TS):TS:=λD Y H=>t {D with nx:=u D} Y H
noncomputable def ad7:Ql X [] anD:=λ_ _ Y H _ I h=>wpAny_execs_nil ⟨Y,H,I,h⟩
theorem Dh(h1:PS X st t)(h2:Ql X rest u):Ql X (st::rest) (Z0 t u):=by
 intro pins s Y H D I h;refine wpAny_execs_cons (dP (h1 pins s Y H _ I h) λf s1 q=>?_);cases f with
 | next=>
  obtain⟨Y',H',a,q⟩:=q;exact h2 pins s1 Y' H' D a q
 | ret v=>exact q
 | brk=>exact q
 | cont=>exact q
noncomputable def ai5:TS:=λD Y H=>D.bk Y H
noncomputable def anE:TS:=λD Y H=>D.ct Y H
noncomputable def Zf:PS X (.Break pos) ai5:=λ_ _ Y H _ I h=>wpAny_Break ⟨Y,H,I,h⟩
noncomputable def MX:PS X (.Continue pos) anE:=λ_ _ Y H _ I h=>wpAny_Continue ⟨Y,H,I,h⟩
theorem Inv.quiet(I:QE):interactive X.env=false:=by simp[interactive,I.ok.kind]
noncomputable def anF(te:TE):TS:=λD Y H=>te Y H λ_ H1=>D.nx Y H1
def vt(he:Qb6)(hs:QhW:=by rfl):PS X (.Expr e pos) (anF te):=λpins s Y H D I h=>wpAny_Expr_any (dP Qcd λv s1 ⟨x,H1,a,b,q1⟩=>⟨Y,H1,a,q1⟩) I.quiet hs
noncomputable def ZU(te:TE):TS:=λD Y H=>te Y H D.rt
def ai6(he:Qb6):PS X QvS (ZU te):=λpins s Y H D I h=>wpAny_Return_some (dP Qcd λv s1 ⟨x,H1,b,a,q1⟩=>⟨x,Y,H1,b,a,q1⟩)
noncomputable def ZR(c:TT)(t u:TS):TS:=λD Y H=>c Y H λb H1=>if b=true then t D Y H1 else u D Y H1
theorem anG{c:Expr}{a b:CI}{e:TT}(g:PT X c e)(j:Ql X a t)(i:Ql X b u):PS X (.If c a b pos) (ZR e t u):=by
 intro pins s Y H D I h;refine wpAny_If (dP Qgm λd s1 zz=>?_);obtain⟨H1,f,q1⟩:=zz;cases d with
 | true=>exact j pins s1 Y H1 D f q1
 | false=>exact i pins s1 Y H1 D f q1
end
abbrev TG:=V->St->Hp->(St->Hp->Prop)->Prop
abbrev t5:=B0->St->Hp->(St->Hp->Prop)->Prop
def PG(X:Cx)(target:Expr)(t:TG):Prop:=
 ∀(pins:BC) (s:Qb) (Y:St) (H:Hp) (v:V) (u:Value) (Q:St->Hp->Prop),Inv X pins Y H s->RelV v u->t v Y H Q →
  wpAny Qe X.A (assign target X.env u) (λ_ s'=>∃Y' H',Inv X pins Y' H' s'/\Q Y' H') X.xe s
def G2(X:Cx)(ts:Ch)(t:t5):Prop:=
 ∀(pins:BC) (s:Qb) (Y:St) (H:Hp) (vs:B0) (us:B2) (Q:St->Hp->Prop),Inv X pins Y H s->Vals vs us->t vs Y H Q →
  wpAny Qe X.A (assignInOrder ((assignEach ts X.env).map (·.2)) us) (λ_ s'=>∃Y' H',Inv X pins Y' H' s'/\Q Y' H') X.xe s
abbrev Kb:=V->V->V->Hp->(Hp->Prop)->Prop
def NI(X:Cx)(t:Kb):Prop:=
 ∀(pins:BC) (s:Qb) (Y:St) (H:Hp) (o i v:V) (a b u:Value) (Q:Qkh),Inv X pins Y H s->RelV o a->RelV i b->RelV v u->t o i v H Q →
  wpAny Qe X.A (setItem a b u) (λ_ s'=>∃H',Inv X pins Y H' s'/\Q H') X.xe s
abbrev G1:=V->V->Hp->VK->Prop
def Ta(X:Cx)(op:QfA)(t:G1):Prop:=
 ∀(pins:BC) (s:Qb) (Y:St) (H:Hp) (x y:V) (v u:Value) (Q:VK),Inv X pins Y H s->RelV x v->RelV y u->t x y H Q →
  wpAny Qe X.A (inplaceOp op v u) Qa9 X.xe s
variable{pos:Pos}
noncomputable def MY(i:Nat):TG:=λv Y H Q=>Q QeR H
def vv{x:Str}(b:Qbs)(hi:X.N[i]? = some x)(a:Qdo)(hf:Qdp:=by first|exact .inl rfl|exact .inr rfl|assumption):PG X QaE (MY i):=λpins s Y H v u Q I r h=>wpAny_assign_Name (Df I b hi a r (λs' c=>⟨_,H,c,h⟩) hf)
noncomputable def NH:t5:=λvs Y H Q=>vs=[]/\Q Y H
noncomputable def Zg(t:TG)(u:t5):t5:=λvs Y H Q=>∃v r,vs=v::r/\t v Y H λY' H'=>u r Y' H' Q
def ad8:G2 X [] NH:=by
 intro pins s Y H vs us Q I r h;obtain⟨e,h⟩:=h;exact assignInOrder_nil ⟨Y,H,I,h⟩
variable{es:Ch}
def MZ{e:Expr}{t:TG}{u:t5}(h1:PG X e t)(h2:G2 X es u)
  (hs:(assignEach Qau X.env).map (·.2)=assign e X.env::(assignEach es X.env).map (·.2):=by rfl):G2 X Qau (Zg t u):=by
 intro pins s Y H vs us Q I r h;obtain⟨v,d,e1,h⟩:=h;subst e1;cases r with
 | cons r a=>
  rw[hs];refine assignInOrder_cons (dP (h1 pins s Y H _ _ _ I r h) λ_ s1 zz=>?_);obtain⟨b,H1,c,q1⟩:=zz;exact h2 pins s1 b H1 _ _ Q c a q1
noncomputable def NG(K:Frag)(n:Nat)(t:t5):TG:=λv Y H Q=>∃a xs,v=.ref a/\tL K H a xs/\xs.length=n/\t xs Y H Q
variable{k:Nat}
def ai9{t:t5}{n:Nat}(j:Qa6)(h:G2 X es t)
  (hn:(assignEach es X.env).length=n:=by rfl) (d:(assignEach es X.env).findIdx? (·.1)=none:=by rfl):PG X (.Tuple es k pos) (NG X.K n t):=by
 intro pins s Y H v u Q I r hw;obtain⟨a,xs,e1,i,hl,hw⟩:=hw;subst e1;cases r;obtain⟨its,c,g,hz⟩:=I.tuple i;refine assign_Tuple_tuple (I.ok.hd j) g (by simp[hn,<- hl,c.length]) d λh' f=>?_;have l:=I.kept (t':=s.toks) λb o e=>f b o Qg8 e;exact h pins _ Y H xs _ Q l (‹_›) hw
noncomputable def ZO(to a:TE)(t:Kb):TG:=λv Y H Q=>to Y H λo H1=>a Y H1 λi H2=>t o i v H2 λb=>Q Y b
def aja{o i:Expr}{to a:TE}{t:Kb}(f:PE X o to)(hi:PE X i a)(hs:NI X t)
  (m:∀v,assign QiE X.env v=(do
   let ov ← holding [v] (eval o X.env)
   let iv ← holding [v,ov] (eval i X.env)
   standAt pos
   holding [v,ov,iv] (setItem ov iv v)
   release [v,ov,iv] []):=by intro _;rfl):PG X QiE (ZO to a t):=by
 intro pins s Y H v u Q I r h;refine ec (tG (dP Qgn λov s1 zz=>?_));obtain⟨x,H1,k,c,q1⟩:=zz;refine ec (tG (dP (hi pins s1 Y H1 _ k q1) λiv s2 zz=>?_));obtain⟨y,H2,j,b,e⟩:=zz;refine ec (wpAny_standAt (ec (tG (dP (hs pins s2 Y H2 x y v ov iv u _ j c b r e) λ_ s3 zz=>?_))));obtain⟨l,g,d⟩:=zz;exact wpAny_release ⟨Y,l,g,d⟩
noncomputable def ND(te:TE)(g:TG):TS:=λD Y H=>te Y H λx H1=>g x Y H1 D.nx
variable{tg:Expr}{te:TE}
def ajb{e:Expr}{g:TG}(he:Qb6)(b:PG X tg g)(hs:swapsWithSole [tg] e pos.line X.env=pure false:=by rfl)(hw:swappedStores [tg] e X.env=pure none:=by rfl)
  (h1:(assignEach [tg] X.env).map (·.2)=[assign tg X.env]:=by rfl):PS X (.Assign [tg] e pos) (ND te g):=by
 intro pins s Y H D I h;refine wpAny_Assign_stores (dP Qcd λv s1 zz=>?_) hs hw;obtain⟨x,H1,c,a,q1⟩:=zz;rw[h1];exact dP (b pins s1 Y H1 x v _ c a q1) λ_ s2 q=>q
def Qm{x:Str}{e:Expr}{pos':Pos}(c:Qbs)(hi:X.N[i]? = some x)(b:Qdo)(he:Qb6)(hs:Qdy:=by rfl)(hf:Qdp:=by first|exact .inl rfl|exact .inr rfl|assumption) :
  PS X Qlv (ND te (MY i)):=by
 intro pins s Y H D I h;refine wpAny_Assign_Name (dP Qcd λv s1 zz=>?_) hs;obtain⟨y,H1,f,a,q1⟩:=zz;exact Df f c hi b a (λs2 d=>⟨_,H1,d,q1⟩) hf
noncomputable def ZA(i:Nat)(te:TE)(a:G1):TS:=λD Y H=>∃x,Y[i]? = some (some x)/\te Y H λy H1=>a x y H1 λz H2=>D.nx (Y.set i (some z)) H2
theorem ajc{x:Str}{e:Expr}{op:QfA}{j:G1}{pos':Pos}(C:Qbs)(hi:X.N[i]? = some x)(g:Qdo)(he:Qb6)(t:Ta X op j)(hf:Qdp:=by first|exact .inl rfl|exact .inr rfl|assumption) :
  PS X (.AugAssign Qep op e pos) (ZA i te j):=by
 intro pins s Y H D I h;obtain⟨v,e1,h⟩:=h;obtain⟨m,hn,hl⟩:=I.loc;have f:r0 X.env.scope x:=by obtain k|k:=g;exact .inl k;exact .inr (.inl k)
 obtain⟨u,r,l⟩:=hl i x v hi e1 f;refine wpAny_AugAssign_Name ?_;have go:wpAny Qe X.A QgD (λw d=>wpAny Qe X.A (inplaceOp op u w) (λr b=>wpAny Qe X.A (storeName X.env x r) (λ_=>SP X pins D .next) X.xe b) X.xe d) X.xe s:=by
  refine dP Qcd λw s1 zz=>?_;obtain⟨y,H1,G,p,q1⟩:=zz;refine dP (t pins s1 Y H1 v y u w _ G r p q1) λz s2 zz=>?_;obtain⟨J,H2,F,o,q⟩:=zz;exact Df F C hi g o (λs3 E=>⟨_,H2,E,q⟩) hf
 obtain⟨a,hm⟩|⟨a,c,B,n⟩:=l
 .exact wpAny_loadName_local I.ok.kind a hn hm go
 .obtain a|a:=a
  .exact wpAny_loadName_cell I.ok.kind a B n go
  .obtain k|k:=g
   .have:X.env.scope.names.lookup x=some _:=a;simp_all
   .have:X.env.scope.names.lookup x=some _:=a;simp_all
noncomputable def Xt(f:QnI):G1:=λx y H Q=>∃i j,x=.int i/\y=.int j/\Q (.int (f i j)) H
def ajd:Ta X .Add (Xt λi j=>i+j):=by
 intro pins s Y H x y v u Q I b a h;obtain⟨i,j,e1,e2,q⟩:=h;subst e1;subst e2;obtain⟨t,rfl⟩:=b;obtain⟨t',rfl⟩:=a;exact iadd_int ⟨.int _,H,I.tok _,⟨_,rfl⟩,q⟩
noncomputable def aje(c:TT)(tb:TS):TS:=λD Y H=>∃W:Nat->St->Hp->Prop,(∃m,W m Y H)/\∀m Y H,W m Y H →
 c Y H λb H1=>if b=true then ∃N:St->Hp->Prop,(∀Y' H',N Y' H'->∃a,a<m/\W a Y' H')/\tb {D with nx:=N,ct:=N,bk:=D.nx} Y H1 else D.nx Y H1
variable{c:Expr}
theorem Zh{body:CI}{o:TT}{tb:TS}(p:Qii)(u:PT X c o)(x:Ql X body tb):PS X (.While c body [] pos) (aje o tb):=by
 intro pins s Y H D I h;obtain⟨W,⟨m0,w0⟩,turn⟩:=h;refine wpAny_While (codeAny_whileLoop (λn s'=>∃Y' H',Inv X pins Y' H' s'/\W n Y' H') ?_ m0 ⟨Y,H,I,w0⟩);rintro n s1 ⟨i,H1,y,t⟩;refine tq p (dP (u pins s1 i H1 _ y (turn n i H1 t)) λb s2 zz=>?_);obtain⟨H2,r,g⟩:=zz;cases b with
 | true=>
  obtain⟨N,q,g⟩:=g;refine tq p (dP (x pins s2 i H2 _ r g) λf s3 e=>?_);cases f with
  | next=>
   obtain⟨a,d,m,k⟩:=e;obtain⟨l,hm,j⟩:=q a d k;exact⟨l,hm,a,d,m,j⟩
  | cont=>
   obtain⟨a,d,m,k⟩:=e;obtain⟨l,hm,j⟩:=q a d k;exact⟨l,hm,a,d,m,j⟩
  | brk=>exact e
  | ret v=>exact e
 | false=>
  exact wpAny_execs_nil ⟨i,H2,r,g⟩
structure It where
 go:Nat->Hp->Prop
 oe:Nat->Hp->V->Hp->Prop
 stop:Nat->Hp->Prop
def lR(X:Cx)(pins:BC)(H:Hp)(b:Addr):Prop:=
 H b=none/\b≠X.env.locals/\b∉X.fs/\Qh0/\(∀x c,X.env.cells.lookup x=some c->c≠b)/\∀p∈X.pn++pins,p.1≠b
theorem Inv.Di(I:QE)(a:s.heap.objs.size<=b)(hn:H' b=none):lR X pins H' b:=by
 refine⟨hn,Nat.ne_of_gt (mm I.lt a),I.aqI a,.inr (ky I.sz a),λx c e z=>?_,λp d z=>?_⟩
 .obtain⟨v,q⟩:=I.cell x c e;exact absurd (mm q.lt (z▸a)) (tI _)
 .exact absurd (mm (j0 (I.pin p d).1) (z▸a)) (tI _)
structure Turn(P:Qag)(w:World)(K:Frag)(tg:Expr)(J:It)(fp:BY)(it:Addr)(tn:QiY):Prop where
 mem:it∈fp
 obj:∀i h,tn i h->∀b∈fp,∃o,h.get? b=some o/\∀v,o.data ≠ .cell v
 keep:∀i h h',tn i h->(∀b∈fp,∀o,h.get? b=some o->h'.get? b=some o)->tn i h'
 item:∀(X:Cx),X.prog=P->X.w=w->X.K=K->X.calm=true->∀(i:Nat) (pins:BC) (s:Qb) (Y:St) (H:Hp) (E:BN),Inv X pins Y H s->(∀b∈fp,lR X pins H b)->tn i s.heap->J.go i H →
  wpAny Qcq X.A QnJ (λr s1=>∃u,r=some u ∧
   wpAny Qcq X.A QrB (λ_ s2=>∃x H',Inv X pins Y H' s2/\RelV x u/\J.oe i H x H'/\tn Qbe s2.heap/\∀b∈fp,H' b=none) E s1) E s
 done:∀(X:Cx),X.prog=P->X.w=w->X.K=K->X.calm=true->∀(i:Nat) (pins:BC) (s:Qb) (Y:St) (H:Hp) (E:BN),Inv X pins Y H s->(∀b∈fp,lR X pins H b)->tn i s.heap->J.stop i H →
  wpAny Qcq X.A QnJ (λr s1=>r=none/\Inv X pins Y H s1) E s
 self:∀(A:Qas) (i:Nat) (s:Qb) (Q:BN) (E:BN),tn i s.heap->Q QbJ s->wpAny Qcq A (pyIter QbJ) Q E s
abbrev TI:=St->Hp->(It->Hp->Prop)->Prop
def LO(X:Cx)(pins:BC)(Y:St)(tg:Expr)(R:QgP)(a:Value)(s2:Qb):Prop:=
 ∃(it:Addr) (fp:BY) (tn:QiY) (J:It) (H':Hp),a=.ref it/\Inv X pins Y H' s2/\Turn X.prog X.w X.K tg J fp it tn/\tn 0 s2.heap/\(∀b∈fp,lR X pins H' b)/\R J H'
def PI(X:Cx)(tg iter:Expr)(a:TI):Prop:=
 ∀(pins:BC) (s:Qb) (Y:St) (H:Hp) (R:QgP),Inv X pins Y H s->a Y H R →
  wpAny Qe X.A Qvh (λv s1=>wpAny Qe X.A (pyIter v) Qm4 X.xe s1) X.xe s
def M0{it:Addr}{o:Obj}{n:Qbf}{vs:Cl}(a:s.heap.get? it=some o)(b:o.cls=.type n)(hd:o.data=.fields vs)
  (hn:["enumerate","zip","dict_itemiterator","dict_reverseitemiterator","odict_iterator","itertools.zip_longest","itertools.pairwise"].contains n=false) (hQ:Q () s):wpAny M A QrB Q E s:=by
 cases tg<;>first
  | exact i2 hQ
  | (cases u<;>first
    | exact i2 hQ
    | (refine ec (wpAny_load a ?_)
       rw[b,hd];show wpAny M A (if (["enumerate","zip","dict_itemiterator","dict_reverseitemiterator","odict_iterator","itertools.zip_longest","itertools.pairwise"].contains n&&vs[0]? == some _)=true then _ else _) Q E s;rw[bX (by intro h;rw[hn]at h;cases h)];exact i2 hQ))
noncomputable def Tn(K:Frag)(a:Addr):It:=
 ⟨λi H=>∃xs x,mJ K H a xs/\xs[i]? = some x,λi H x H'=>H'=H/\∀xs,mJ K H a xs->xs[i]? = some x,λi H=>∃xs,mJ K H a xs/\xs.length<=i⟩
noncomputable def Th(K:Frag)(a:Addr):It:=
 ⟨λi H=>∃xs x,tL K H a xs/\xs[i]? = some x,λi H x H'=>H'=H/\∀xs,tL K H a xs->xs[i]? = some x,λi H=>∃xs,tL K H a xs/\xs.length<=i⟩
noncomputable def He(lo:Int)(n:Nat):It:=⟨λi _=>i<n,λi H x H'=>H'=H/\x=.int (lo+i),λi _=>n<=i⟩
theorem Wo(a it:Addr):Turn P w K tg (Tn K a) [it] it (λi h=>h.IsListIter it a i) where
 mem:=by simp
 obj:=λi h st b f=>by
  have e:b=it:=by simpa using f
  subst e;obtain⟨o,e,c,d⟩:=st;simp_all
 keep:=λi h h' st k=>st.at λo e=>k it Wp o e
 item:=by
  intro X n hw q v i pins s Y H E I hf st m;subst n hw q;obtain⟨xs,x,g,l⟩:=m;obtain⟨its,j,p,hz⟩:=I.list g;obtain⟨u,C,A⟩:=j.get l;obtain⟨f0,f1,f2,t,f4,r⟩:=hf it Wp;refine wpAny_pyNext_list_item st p.isList (x:=u) (by simpa using C) λh' y z=>?_;have F:=I.turned (t':=s.toks) Qrf f0 f1 t f4 r;obtain⟨o,e,c,d⟩:=id y;exact⟨u,rfl,M0 (s:={s with heap:=h'}) e c d Wm ⟨x,H,F,A,⟨rfl,λys B=>by rw[I.Dg B g];exact l⟩,y,λb f=>(hf b f).1⟩⟩
 done:=by
  intro X n hw q v i pins s Y H E I hf st m;subst n hw q;obtain⟨xs,g,l⟩:=m;obtain⟨its,j,p,hz⟩:=I.list g;obtain⟨f0,f1,f2,t,f4,r⟩:=hf it Wp;have hl:=j.length;exact wpAny_pyNext_list_end (I.ok.hd v) st p.isList WE λh' D=>⟨rfl,I.turned (t':=s.toks) Qsi f0 f1 t f4 r⟩
 self:=λ_ _ _ _ _ st h=>wpAny_pyIter_listiter st h
theorem Qn(a it:Addr):Turn P w K tg (Th K a) [it] it (λi h=>h.IsTupleIter it a i) where
 mem:=by simp
 obj:=λi h st b f=>by
  have e:b=it:=by simpa using f
  subst e;obtain⟨o,e,c,d⟩:=st;simp_all
 keep:=λi h h' st k=>st.at λo e=>k it Wp o e
 item:=by
  intro X n hw q v i pins s Y H E I hf st m;subst n hw q;obtain⟨xs,x,g,l⟩:=m;obtain⟨its,j,p,hz⟩:=I.tuple g;obtain⟨u,C,A⟩:=j.get l;obtain⟨f0,f1,f2,t,f4,r⟩:=hf it Wp;refine wpAny_pyNext_tuple_item st (p) (x:=u) (by simpa using C) λh' y z=>?_;have F:=I.turned (t':=s.toks) Qrf f0 f1 t f4 r;obtain⟨o,e,c,d⟩:=id y;exact⟨u,rfl,M0 (s:={s with heap:=h'}) e c d Wm ⟨x,H,F,A,⟨rfl,λys B=>by rw[I.Ht B g];exact l⟩,y,λb f=>(hf b f).1⟩⟩
 done:=by
  intro X n hw q v i pins s Y H E I hf st m;subst n hw q;obtain⟨xs,g,l⟩:=m;obtain⟨its,j,p,hz⟩:=I.tuple g;obtain⟨f0,f1,f2,t,f4,r⟩:=hf it Wp;have hl:=j.length;exact wpAny_pyNext_tuple_end (I.ok.hd v) st (p) WE λh' D=>⟨rfl,I.turned (t':=s.toks) Qsi f0 f1 t f4 r⟩
 self:=λ_ _ _ _ _ st h=>wpAny_pyIter_tupleiter st h
theorem Qo(it:Addr)(lo:Int)(n:Nat):Turn P w K tg (He lo n) [it] it (λi h=>IsRangeIter h it (lo+(i:Nat)*1) ((n:Int)-(i:Nat)) 1) where
 mem:=by simp
 obj:=λi h st b a=>by simp_all
 keep:=λi h h' st k=>k it Wp _ st
 item:=by
  intro X j hw l d i pins s Y H E I hf st c;subst j hw l;obtain⟨f0,f1,f2,g,f4,f⟩:=hf it Wp;have W:=Walks.range (prog:=X.prog) (w:=X.w) (I.ok.hd d) it lo 1 n;refine W.item i s _ _ c st λv h' tk hv m kk=>?_;obtain⟨t,rfl⟩:=hv;have q:Inv X pins Y H {s with heap:=h',toks:=tk}:=I.turned (λb o a e=>kk b o (by simpa using a) e) f0 f1 g f4 f;refine⟨_,rfl,M0 m rfl rfl Wm ⟨.int (lo+i),H,q,⟨t,?_⟩,⟨rfl,rfl⟩,m,λb a=>(hf b a).1⟩⟩;rw[Int.mul_one]
 done:=by
  intro X j hw l d i pins s Y H E I hf st c;obtain⟨f0,f1,f2,g,f4,f⟩:=hf it Wp;exact wpAny_pyNext_range_end (I.ok.hd d) st (by have:n<=i:=c;lia) λh' p=>⟨rfl,I.turned (p) f0 f1 g f4 f⟩
 self:=λ_ _ _ _ _ st h=>wpAny_pyIter_rangeiter st h
def anM(K:Frag)(tl:TE):TI:=λY H R=>tl Y H λx H1=>∃a,x=.ref a/\(∃xs,mJ K H1 a xs)/\R (Tn K a) H1
def Zs(K:Frag)(tl:TE):TI:=λY H R=>tl Y H λx H1=>∃a,x=.ref a/\(∃xs,tL K H1 a xs)/\R (Th K a) H1
def Ur{l:Expr}{tl:TE}(hl:PE X l tl):PI X tg l (anM X.K tl):=by
 intro pins s Y H R I h;refine dP Qtz λv s1 zz=>?_;obtain⟨x,H1,c,d,q1⟩:=zz;obtain⟨a,e,⟨xs,f⟩,q⟩:=q1;subst e;cases d;obtain⟨its,i,p,hz⟩:=c.list f;refine wpAny_pyIter_list p.isList ?_;refine⟨ _,_,_,_,H1,rfl,c.kept λb o e=>ka _ e,Wo a _,⟨_,l6 _ rfl,rfl,rfl⟩,λb g=>?_,q⟩;have e:=by simpa using g
 subst e;exact c.Di (ik _) QiK
def ajf{l:Expr}{tl:TE}(hl:PE X l tl):PI X tg l (Zs X.K tl):=by
 intro pins s Y H R I h;refine dP Qtz λv s1 zz=>?_;obtain⟨x,H1,c,d,q1⟩:=zz;obtain⟨a,e,⟨xs,f⟩,q⟩:=q1;subst e;cases d;obtain⟨its,i,p,hz⟩:=c.tuple f;refine wpAny_pyIter_tuple (p) ?_;refine⟨ _,_,_,_,H1,rfl,c.kept λb o e=>ka _ e,Qn a _,⟨_,l6 _ rfl,rfl,rfl⟩,λb g=>?_,q⟩;have e:=by simpa using g
 subst e;exact c.Di (ik _) QiK
theorem M3{R:QgP}{lo hi:Int}{t u v:Tok}{tk:Nat}(I:QE)(h1:-(2 ^ 62)<=lo)(h2:lo<2 ^ 62)(d:-(2 ^ 62)<=hi)(c:hi<2 ^ 62)
  (q:R (He lo (hi-lo).toNat) H):wpAny Qe X.A (pyIter QcX) Qm4 E {s with heap:=s.heap.push {cls:=.type "range",data:=.fields #[.int lo t,.int hi u,.int 1 v]},toks:=tk}:=by
 refine wpAny_pyIter_range (IsRange.new ..) (small_one h1 h2 d c) ?_;have a:Inv X pins Y H {s with heap:=s.heap.push {cls:=.type "range",data:=.fields #[.int lo t,.int hi u,.int 1 v]},toks:=tk}:=I.kept λb o e=>ka _ e;refine⟨ _,_,_,_,H,rfl,
  a.kept λb o e=>ka _ e,Qo _ lo _,?_,λb f=>?_,q⟩
 .have e1:lo+((0:Nat))*1=lo:=by simp
  have e2:(((hi-lo).toNat))-((0:Nat))=Builtin.Range.rangeSize lo hi 1:=by rw[rangeSize_one];grind
  rw[e1,e2];exact l6 _ rfl
 .have e:b=(s.heap.push {cls:=.type "range",data:=.fields #[.int lo t,.int hi u,.int 1 v]}).objs.size:=by simp_all
  subst e;exact a.Di (ik _) (a.cR.fresh (ik _))
def anN(ta:TA):TI:=λY H R=>ta Y H λvs H1=>∃j:Int,vs=[.int j] /\ -(2 ^ 62)<=j/\j<2 ^ 62/\R (He 0 j.toNat) H1
def anO(ta:TA):TI:=λY H R=>ta Y H λvs H1=>∃i j:Int,vs=[.int i,.int j]/\(-(2 ^ 62)<=i/\i<2 ^ 62 /\ -(2 ^ 62)<=j/\j<2 ^ 62)/\R (He i (j-i).toNat) H1
variable{p:Pos}
theorem Wr{a:Expr}{ta:TA}(f:QjU)(hm:Qi7)(g:PA X [a] ta)(hs:starEach [a] X.env=[(false,eval a X.env)]:=by rfl):PI X tg (.Call QuR [a] [] pos) (anN ta):=by
 intro pins s Y H R I h;refine Call_ (ni I f hm boot_range (tR (dP (g pos pins s Y H _ I h) λus s1 zz=>?_) hs rfl));obtain⟨vs,H1,i,c,q1⟩:=zz;obtain⟨j,e,q1,d,q⟩:=q1;subst e;cases c with
 | cons r b=>
  cases b;obtain⟨t,rfl⟩:=r;exact call_range_1 (M3 i We We q1 d WA)
theorem Ws{a b:Expr}{ta:TA}(m:QjU)(hm:Qi7)(n:PA X [a,b] ta)(hs:AR X a b:=by rfl)(o:starEach [b] X.env=[(false,eval b X.env)]:=by rfl) :
  PI X tg (.Call QuR [a,b] [] pos) (anO ta):=by
 intro pins s Y H R I h;refine Call_ (ni I m hm boot_range (tR (dP (n pos pins s Y H _ I h) λus s1 zz=>?_) WA (by rw[o];rfl)));obtain⟨vs,H1,u,d,q1⟩:=zz;obtain⟨i,j,e,⟨q1,l,k,g⟩,q⟩:=q1;subst e;cases d with
 | cons r c=>
  cases c with
  | cons f c=>
   cases c;obtain⟨t,rfl⟩:=r;obtain⟨t',rfl⟩:=f;exact call_range_2 (M3 u q1 l k g q)
noncomputable def Zp(b:TI)(g:TG)(tb:TS):TS:=λD Y H=>b Y H λJ H1=>∃W:Nat->Nat->St->Hp->Prop,(∃m,W 0 m Y H1)/\∀i m Y H,W i m Y H →
 (J.stop i H/\D.nx Y H)\/(J.go i H/\∃N:St->Hp->Prop,(∀Y' H',N Y' H'->∃a,a<m/\W Qbe a Y' H')/\∀x H',J.oe i H x H'->g x Y H' λc H2=>tb {D with nx:=N,ct:=N,bk:=D.nx} c H2)
noncomputable def Dj(fp:BY)(h:Heap):BC:=fp.filterMap λb=>(h.get? b).map λo=>(b,o)
def kg{fp:BY}{o:Obj}(a:b∈fp)(e:h.get? b=some o):(b,o)∈Dj fp h:=List.mem_filterMap.2 ⟨b,a,by rw[e];rfl⟩
theorem Wt{fp:BY}{p:Addr×Obj}(a:p∈Dj fp h):p.1∈fp/\h.get? p.1=some p.2:=by
 obtain⟨b,c,e⟩:=List.mem_filterMap.1 a;cases q:h.get? b with
 | none=>rw[q]at e;cases e
 | some o=>
  rw[q]at e;have d:=l5 e;subst d;exact⟨c,q⟩
theorem Inv.pinned{fp:BY}(I:QE)(hf:∀b∈fp,lR X pins H b)(g:∀b∈fp,∃o,s.heap.get? b=some o/\∀v,o.data ≠ .cell v):Inv X (pins++Dj fp s.heap) Y H s:=
 I.Cy λp f=>(iw.1 f).elim (λz=>I.pin p (iF _ z)) λz=>by
  obtain⟨a,e⟩:=Wt z;obtain⟨f0,f1,f2,_⟩:=hf p.1 a;obtain⟨o,c,d⟩:=g p.1 a;rw[e]at c;cases c;exact⟨e,f0,f1,f2,d⟩
theorem Inv.tM{pl:BC}(I:Inv X (pins++pl) Y H s):Inv X pins Y H s:=I.Cy λp a=>I.pin p (iF _ QkC)
def Qp{iter:Expr}{body:CI}{P:TI}{g:TG}{tb:TS}(B:Qii)(R:Qa6)(hi:PI X tg iter P)(hg:PG X tg g)(k:Ql X body tb)
  (hs:Qcv:=by intro _;rfl):PS X (.For tg iter body [] pos) (Zp P g tb):=by
 intro pins s Y H D I h;refine wpAny_For (dP Qiy λv s1 h1=>dP h1 λaa s2 h2=>?_) hs;obtain⟨it,fp,tn,J,H2,e,I2,T,G,f2,W,⟨m0,w0⟩,turn⟩:=h2;subst e;have j:∀{H':Hp},(∀b∈fp,H' b=none)->∀b∈fp,lR X pins H' b:=λhn b k=>⟨hn b k,(f2 b k).2⟩;refine codeAny_forLoop_any (λn s'=>∃i Y' H',Inv X pins Y' H' s'/\tn i s'.heap/\(∀b∈fp,H' b=none)/\W i n Y' H') ?_ m0 ⟨0,Y,H2,I2,G,λb k=>(f2 b k).1,w0⟩;rintro n s3 ⟨i,c,E,S,y,C,w3⟩;obtain⟨stop,qn⟩|⟨go,N,hN,step⟩:=turn i n c E w3
 .refine tq B (dP (T.done X rfl rfl rfl R i pins s3 c E X.xe S (j C) y stop) λr s4 zz=>?_);obtain⟨L,I4⟩:=zz;subst L;exact wpAny_execs_nil ⟨c,E,I4,qn⟩
 .refine tq B (dP (T.item X rfl rfl rfl R i pins s3 c E X.xe S (j C) y go) λr s4 zz=>?_);obtain⟨u,L,h4⟩:=zz;subst L;refine tq B (dP h4 λ_ s5 zz=>?_);obtain⟨x,U,I5,r5,V,t,M⟩:=zz;have O:=I5.pinned (j M) (T.obj _ _ t);refine tq B (dP (hg _ s5 c U x u _ O r5 (step x U V)) λ_ s6 zz=>?_);obtain⟨F,H6,I6,q6⟩:=zz;refine tq B (dP (k _ s6 F H6 _ I6 q6) λf K q=>?_);have again:∀{a:St} {p:Hp},Inv X (pins++Dj fp s5.heap) a p K->N a p->∃m,m<n/\∃i Y' H',Inv X pins Y' H' K/\tn i K.heap/\(∀b∈fp,H' b=none)/\W i m Y' H':=λ{a p} l z=>by
   obtain⟨m',hm,w7⟩:=hN a p z;refine⟨m',hm,i+1,a,p,l.tM,T.keep _ _ _ t λb k o e=>(l.pin (b,o) Qt2).1,λb k=>?_,w7⟩;obtain⟨o,e,d⟩:=T.obj _ _ t b k;exact(l.pin (b,o) Qt2).2.1
  cases f with
  | next=>obtain⟨a,p,l,z⟩:=q;exact again l z
  | cont=>obtain⟨a,p,l,z⟩:=q;exact again l z
  | brk=>obtain⟨a,p,l,q⟩:=q;exact⟨a,p,l.tM,q⟩
  | ret v=>obtain⟨Z,a,p,l,r7,q⟩:=q;exact⟨Z,a,p,l.tM,r7,q⟩
abbrev R2:=V->V->Hp->VK->Prop
def BD(X:Cx)(f:QsH)(r:R2):Prop:=
 ∀(pins:BC) (s:Qb) (Y:St) (H:Hp) (x y:V) (v u:Value) (Q:VK),Inv X pins Y H s->RelV x v->RelV y u->r x y H Q →
  wpAny Qe X.A (f v u) Qa9 X.xe s
def LL(X:Cx)(f:Value->Sem Value)(r:QmX):Prop:=
 ∀(pins:BC) (s:Qb) (Y:St) (H:Hp) (x:V) (v:Value) (Q:VK),Inv X pins Y H s->RelV x v->r x H Q →
  wpAny Qe X.A (f v) Qa9 X.xe s
def nj(X:Cx)(f:Value)(r:QmC):Prop:=
 ∀(pins:BC) (s:Qb) (Y:St) (H:Hp) (xs:B0) (us:B2) (Q:VK),Inv X pins Y H s->Vals xs us->r xs H Q →
  wpAny Qe X.A (call f us) Qa9 X.xe s
def aq0(X:Cx)(r:V->Hp->EM->Prop):Prop:=
 ∀(pins:BC) (s:Qb) (Y:St) (H:Hp) (x:V) (v:Value) (Q:EM),Inv X pins Y H s->RelV x v->r x H Q →
  wpAny Qe X.A Qhg QeV X.xe s
noncomputable def uj(r:R2)(ta tb:TE):TE:=λY H Q=>ta Y H λx H1=>tb Y H1 λy H2=>r x y H2 Q
noncomputable def TK(r:QmX)(ta:TE):TE:=λY H Q=>ta Y H λx H1=>r x H1 Q
noncomputable def rI(C:Qvi)(g:Int->Int->V):R2:=λx y H Q=>∃i j,x=.int i/\y=.int j/\C i j/\Q Qd4 H
noncomputable def u3(g:Int->Int->V):R2:=λx y H Q=>∃i j,x=.int i/\y=.int j/\Q Qd4 H
def rU(g:Int->V):V->Hp->VK->Prop:=λx H Q=>∃i,x=.int i/\Q (g i) H
variable{a b:Expr}{ta tb:TE}{f:QsH}
def JU(k:QbP)(j:Qfz){R:V->V->Hp->Prop}(I:QE)
  (h:ta Y H λx H1=>tb Y H1 λy H2=>R x y H2) {Q:BN}
  (hf:∀v u s2 x y H2,Inv X pins Y H2 s2->RelV x v->RelV y u->R x y H2->wpAny Qe X.A (f v u) Q X.xe s2) :
  wpAny Qe X.A (eval a X.env) (λv d=>wpAny Qe X.A (eval b X.env) (λu c=>wpAny Qe X.A (f v u) Q X.xe c) X.xe d) X.xe s:=by
 refine dP (k pins s Y H _ I h) λv s1 zz=>?_;obtain⟨x,H1,m,g,q1⟩:=zz;refine dP Ql5 λu s2 zz=>?_;obtain⟨y,H2,l,e,i⟩:=zz;exact hf v u s2 x y H2 l g e i
noncomputable def M4{op:QfA}{r:R2}(e:QuS)(g:QbP)(f:Qfz):PE X (.BinOp a op b pos) QjR:=λpins s Y H Q I h=>wpAny_BinOp QpF
def anQ{op:UnaryOp}{r:QmX}(c:LL X (unaryOp op) r)(d:QbP):PE X (.UnaryOp op a pos) (TK r ta):=λpins s Y H Q I h=>UnaryOp_ (dP Qt1 λv s1 ⟨x,H1,e,b,q1⟩=>c pins s1 Y H1 x v Q e b q1)
def x7{C:Qvi}{g:QnI}
  (rule:∀(i j:Int) (t u:Tok) (s:Qb) (Q:BN) (E:BN),C i j->Q QvW {s with toks:=s.toks+1}->wpAny Qe X.A Qmr Q E s) :
  BD X f (rI C λi j=>.int Qd4):=by
 intro pins s Y H x y v u Q I b a h;obtain⟨i,j,rfl,rfl,c,q⟩:=h;obtain⟨t,rfl⟩:=b;obtain⟨t',rfl⟩:=a;exact rule i j t t' s _ _ c ⟨.int _,H,I.tok _,⟨_,rfl⟩,q⟩
def NA{g:QnI}
  (rule:∀(i j:Int) (t u:Tok) (s:Qb) (Q:BN) (E:BN),Q QvW {s with toks:=s.toks+1}->wpAny Qe X.A Qmr Q E s) :
  BD X f (u3 λi j=>.int Qd4):=by
 intro pins s Y H x y v u Q I b a h;obtain⟨i,j,rfl,rfl,q⟩:=h;obtain⟨t,rfl⟩:=b;obtain⟨t',rfl⟩:=a;exact rule i j t t' s _ _ ⟨.int _,H,I.tok _,⟨_,rfl⟩,q⟩
def Nw{g:QgF}
  (rule:∀(i j:Int) (t u:Tok) (s:Qb) (Q:BN) (E:BN),Q (.bool Qd4) s->wpAny Qe X.A Qmr Q E s) :
  BD X f (u3 λi j=>.bl Qd4):=by
 intro pins s Y H x y v u Q I b a h;obtain⟨i,j,rfl,rfl,q⟩:=h;obtain⟨t,rfl⟩:=b;obtain⟨t',rfl⟩:=a;exact rule i j t t' s _ _ ⟨.bl _,H,I,rfl,q⟩
def Nt(i j:Int):Prop:=0<j/\j<1073741824
def Nl(i j:Int):Prop:=0<=j/\j<=1000000/\i.natAbs<2 ^ 64
def FO(i j:Int):Prop:=(-(2 ^ 64)<i/\i<2 ^ 64)\/(-(2 ^ 64)<j/\j<2 ^ 64)
theorem FO.ok{i j:Int}(h:FO i j):IntMulOk i j:=by
 obtain⟨h1,h2⟩|⟨h1,h2⟩:=h
 .exact .of_left QtA
 .exact .of_right QtA
def ajh:BD X QgK (u3 λi j=>.int (i+j)):=NA λ_ _ _ _ _ _ _ q=>add_int q
def aji:BD X (binaryOp .Sub) (u3 λi j=>.int (i-j)):=NA λ_ _ _ _ _ _ _ q=>sub_int q
def ajj:BD X Qvj (rI FO λi j=>.int (i*j)):=x7 λ_ _ _ _ _ _ _ a q=>mul_int q a.ok
theorem aea:BD X (binaryOp .FloorDiv) (rI Nt λi j=>.int (i / j)):=x7 λi j _ _ _ _ _ a q=>by
 have h1:=a.1;have h2:=a.2;exact floordiv_int We (by rw[Int.fdiv_eq_ediv_of_nonneg i We];exact q) (.inl (PyProof.noPylong_small We))
theorem ajk:BD X (binaryOp .Mod) (rI (λ_ j=>0<j) λi j=>.int (i % j)):=x7 λi j _ _ _ _ _ a q=>mod_int' We (by rw[Int.fmod_eq_emod_of_nonneg i We];exact q)
def ajl:BD X (binaryOp .Pow) (rI Nl λi j=>.int (i ^ j.toNat)):=x7 λ_ _ _ _ _ _ _ a q=>pow_int_small a.1 a.2.1 a.2.2 q
def TC{f:Value->Sem Value}{g:QhB}
  (rule:∀(i:Int) (t:Tok) (s:Qb) (Q:BN) (E:BN),Q (.int (g i) s.toks) {s with toks:=s.toks+1}->wpAny Qe X.A (f QgS) Q E s) :
  LL X f (rU λi=>.int (g i)):=by
 intro pins s Y H x v Q I a h;obtain⟨i,rfl,q⟩:=h;obtain⟨t,rfl⟩:=a;exact rule i t s _ _ ⟨.int _,H,I.tok _,⟨_,rfl⟩,q⟩
def ajm:LL X (unaryOp .USub) (rU λi=>.int (-i)):=TC λ_ _ _ _ _ q=>neg_int q
noncomputable def Nd:V->V->Bool
 | .non,.non=>true | .non,.int _=>true | .int _,.non=>true | .non,.bl _=>true | .bl _,.non=>true | .non,.str _=>true | .str _,.non=>true
 | .int _,.int _=>true | .bl _,.bl _=>true | .str _,.str _=>true | .Qj _,.Qj _=>true
 | .int _,.str _=>true | .str _,.int _=>true | .bl _,.str _=>true | .str _,.bl _=>true
 | _,_=>false
def UP:R2:=λx y H Q=>Nd x y=true/\Q (.bl (decide (x=y))) H
def UN:R2:=λx y H Q=>Nd x y=true/\Q (.bl (!decide (x=y))) H
def Us{i j:Int}:decide (V.int i=V.int j)=(i==j):=by
 rw[wA];simp
def Zi{i j:Bool}:decide (V.bl i=V.bl j)=(i==j):=by
 rw[wA];simp
def Ut{i j:Str}:decide (V.str i=V.str j)=(i==j):=by
 rw[wA];simp
theorem Uu{i j:Array UInt8}:decide (V.Qj i=V.Qj j)=(i.toList==j.toList):=by
 rw[wA];simp_all
def dh{Q:VK}{k a:Bool}(I:QE)(q:Q (.bl k) H)(e:k=a):EP X pins Y Q (.bool a) s:=by
 subst e;exact⟨.bl k,H,I,rfl,q⟩
theorem ON:BD X (compareOp .Eq) UP:=by
 intro pins s Y H x y v u Q I b a h;obtain⟨hs,q⟩:=h;cases x with
 | non=>
  cases b;cases y with
  | non=>cases a;exact PySem.EqNone.eq_none_none QaG
  | bl j=>cases a;exact PySem.EqNone.eq_none_bool QaG
  | int j=>obtain⟨t',rfl⟩:=a;exact PySem.EqNone.eq_none_int QaG
  | str j=>obtain⟨t',rfl⟩:=a;exact PySem.EqNone.eq_none_str QaG
  | _=>exact absurd (show false=true from hs) l9
 | bl i=>
  cases b;cases y with
  | non=>cases a;exact PySem.EqNone.eq_bool_none QaG
  | bl j=>cases a;exact eq_bool (dh I q Zi)
  | str j=>obtain⟨t',rfl⟩:=a;exact PySem.EqMixed.eq_bool_str QaG
  | _=>exact absurd (show false=true from hs) l9
 | int i=>
  obtain⟨t,rfl⟩:=b;cases y with
  | non=>cases a;exact PySem.EqNone.eq_int_none QaG
  | int j=>obtain⟨t',rfl⟩:=a;exact eq_int (dh I q Us)
  | str j=>obtain⟨t',rfl⟩:=a;exact PySem.EqMixed.eq_int_str QaG
  | _=>exact absurd (show false=true from hs) l9
 | str i=>
  obtain⟨t,rfl⟩:=b;cases y with
  | non=>cases a;exact PySem.EqNone.eq_str_none QaG
  | bl j=>cases a;exact PySem.EqMixed.eq_str_bool QaG
  | int j=>obtain⟨t',rfl⟩:=a;exact PySem.EqMixed.eq_str_int QaG
  | str j=>obtain⟨t',rfl⟩:=a;exact eq_str (dh I q Ut)
  | _=>exact absurd (show false=true from hs) l9
 | Qj i=>
  obtain⟨t,rfl⟩:=b;cases y with
  | Qj j=>obtain⟨t',rfl⟩:=a;exact PySem.W.eq_bytes (dh I q Uu)
  | _=>exact absurd (show false=true from hs) l9
 | _=>cases y<;>exact absurd (show false=true from hs) l9
theorem Zj:BD X (compareOp .NotEq) UN:=by
 intro pins s Y H x y v u Q I b a h;obtain⟨hs,q⟩:=h;cases x with
 | non=>
  cases b;cases y with
  | non=>cases a;exact PySem.EqNone.ne_none_none QaG
  | bl j=>cases a;exact PySem.EqNone.ne_none_bool QaG
  | int j=>obtain⟨t',rfl⟩:=a;exact PySem.EqNone.ne_none_int QaG
  | str j=>obtain⟨t',rfl⟩:=a;exact PySem.EqNone.ne_none_str QaG
  | _=>exact absurd (show false=true from hs) l9
 | bl i=>
  cases b;cases y with
  | non=>cases a;exact PySem.EqNone.ne_bool_none QaG
  | bl j=>cases a;exact ne_bool (dh I q (congrArg not Zi))
  | str j=>obtain⟨t',rfl⟩:=a;exact PySem.EqMixed.ne_bool_str QaG
  | _=>exact absurd (show false=true from hs) l9
 | int i=>
  obtain⟨t,rfl⟩:=b;cases y with
  | non=>cases a;exact PySem.EqNone.ne_int_none QaG
  | int j=>obtain⟨t',rfl⟩:=a;exact ne_int (dh I q (congrArg not Us))
  | str j=>obtain⟨t',rfl⟩:=a;exact PySem.EqMixed.ne_int_str QaG
  | _=>exact absurd (show false=true from hs) l9
 | str i=>
  obtain⟨t,rfl⟩:=b;cases y with
  | non=>cases a;exact PySem.EqNone.ne_str_none QaG
  | bl j=>cases a;exact PySem.EqMixed.ne_str_bool QaG
  | int j=>obtain⟨t',rfl⟩:=a;exact PySem.EqMixed.ne_str_int QaG
  | str j=>obtain⟨t',rfl⟩:=a;exact ne_str (dh I q (congrArg not Ut))
  | _=>exact absurd (show false=true from hs) l9
 | Qj i=>
  obtain⟨t,rfl⟩:=b;cases y with
  | Qj j=>obtain⟨t',rfl⟩:=a;exact PySem.W.ne_bytes (dh I q (congrArg not Uu))
  | _=>exact absurd (show false=true from hs) l9
 | _=>cases y<;>exact absurd (show false=true from hs) l9
def anW:BD X (compareOp .Lt) (u3 λi j=>.bl Qn4):=Nw λ_ _ _ _ _ _ _ q=>lt_int q
def anY:BD X (compareOp .Gt) (u3 λi j=>.bl Qn5):=Nw λ_ _ _ _ _ _ _ q=>gt_int q
variable{op:CmpOp}
theorem xo(b:Expr)(h:op ≠ .In:=by decide)(h2:op ≠ .NotIn:=by decide):behindInMarks op b=false:=by
 have e1:(op==CmpOp.In)=false:=by grind
 have e2:Qvg=false:=by grind
 cases b<;>simp[behindInMarks,e1,e2]
noncomputable def Cz{r:R2}(e:Qmt)(g:QbP)(f:Qfz)(hm:Qit):PE X Qio QjR:=λpins s Y H Q I h=>wpAny_Compare1 QpF hm
noncomputable def anZ(t:TE):TT:=λY H Q=>t Y H λx H'=>∃k,x=.bl k/\Q k H'
def yC{r:R2}(l:Qmt)(n:QbP)(m:Qfz)(hm:Qit):PT X Qio (anZ QjR):=by
 intro pins s Y H Q I h;refine wpAny_isTrue_Compare1 (dP Qt3 λv s1 ⟨x,H1,q,g,q1⟩=>dP (m pins s1 Y H1 _ q q1) λu s2 ⟨y,H2,p,f,j⟩=>
  dP (l pins s2 Y H2 x y v u _ p g f j) λc s3 ⟨z,t,o,d,k,e,i⟩=>?_) hm
 subst e;cases d;exact ro ⟨t,o,i⟩
def NM(K:Frag)(x:V)(H:Hp)(k:Bool):Prop:=
 match x with
 | .non=>k=false
 | .bl b=>k=b
 | .int i=>k=(i != 0)
 | .str y => y.length <= sizeLine /\ k = ((y.length : Int) != 0)
 | .Qj y=>y.size<=sizeLine/\k=((y.size:Int) != 0)
 | .ref p=>(∃xs,mJ K H p xs/\k=!xs.isEmpty)\/(∃xs,tL K H p xs/\k=!xs.isEmpty)\/∃kvs,H p=some Qbp/\k=!kvs.isEmpty
 | _=>False
def Qq{κ:Type}{kvs:QbD}{vs:Qd9}(r:Qdq):(!vs.isEmpty)=!kvs.isEmpty:=by
 cases r<;>rfl
def Dl{its:B2}(r:Vals xs its):(!its.toArray.isEmpty)=!xs.isEmpty:=by
 cases r<;>simp
def Al:(sizeLine:Nat)<2 ^ 63:=by decide
theorem ajn:aq0 X (λx H Q=>∃k,NM X.K x H k/\Q k H):=by
 intro pins s Y H x v Q I c h;obtain⟨k,e,q⟩:=h;have hl:=Al;have hs:sizeLine=16777216:=ko;cases x with
 | non=>
  cases c;have a:k=false:=e;subst a;exact truthy_none ⟨H,I,q⟩
 | bl b=>
  cases c;have a:k=b:=e;subst a;exact ro ⟨H,I,q⟩
 | int i=>
  obtain⟨t,rfl⟩:=c;have a:k=(i != 0):=e;subst a;exact PySem.P.truthy_int ⟨H,I,q⟩
 | str y=>
  obtain⟨t,rfl⟩:=c;obtain⟨f,a⟩:y.length<=sizeLine/\k=((y.length:Int) != 0):=e;subst a;exact PySem.P.truthy_str We ⟨H,I.tok _,q⟩
 | Qj y=>
  obtain⟨t,rfl⟩:=c;obtain⟨f,a⟩:y.size<=sizeLine/\k=((y.size:Int) != 0):=e;subst a;exact PySem.W.truthy_bytes We ⟨H,I.tok _,q⟩
 | ref p=>
  cases c;have a:(∃xs,mJ X.K H p xs/\k=!xs.isEmpty)\/(∃xs,tL X.K H p xs/\k=!xs.isEmpty)\/∃kvs,H p=some Qbp/\k=!kvs.isEmpty:=e;obtain⟨xs,d,a⟩|⟨xs,d,a⟩|⟨kvs,d,a⟩:=a
  .subst a;obtain⟨its,r,pl,hz⟩:=I.list d;have hlen:=r.length;exact wpAny_truthy_list pl.isList (by simp only[m3];lia) ⟨H,I.tok _,by rw[Dl r];exact q⟩
  .subst a;obtain⟨its,r,pl,hz⟩:=I.tuple d;have hlen:=r.length;exact truthy_tuple pl (by simp only[m3];lia) ⟨H,I.tok _,by rw[Dl r];exact q⟩
  .subst a;obtain⟨hz,g,vs,r,m⟩:kvs.length<=sizeLine/\(p==sysModules)=false/\∃vs,KV kvs vs/\s.heap.DictOf (fL X.prog X.w) p vs:=I.cR p _ d;have hlen:kvs.length=vs.length:=vx r;exact wpAny_truthy_dict g m We ⟨H,I.tok _,by rw[Qq r];exact q⟩
 | _=>exact(show False from e).elim
def Zk(c:QbP)(he:∀whole,isTrue a X.env whole=(do let v ← whole;standAt a.pos;holding [v] Qhg)) :
  PT X a (λY H Q=>ta Y H λx H'=>∃k,NM X.K x H' k/\Q k H'):=λpins s Y H Q I h=>isTrue_plain (dP QtZ λv s1 ⟨x,H1,d,b,q1⟩=>ajn pins s1 Y H1 x v Q d b q1) (he _)
def Qs:BD X QgK (λx y H Q=>∃i j,x=.str i/\y=.str j/\i.length+j.length<=sizeLine/\Q (.str (i++j)) H):=by
 intro pins s Y H x y v u Q I b a h;obtain⟨i,j,rfl,rfl,hz,q⟩:=h;obtain⟨t,rfl⟩:=b;obtain⟨t',rfl⟩:=a;exact add_str (λt' tk=>⟨.str _,H,I.tok _,⟨_,rfl⟩,q⟩) hz
theorem vals1{x:V}(r:Vals [x] us):∃u,us=[u]/\RelV x u:=by
 cases r with
 | cons b a=>cases a;exact⟨_,rfl,b⟩
theorem vals2{x y:V}(r:Vals [x,y] us):∃u a,us=[u,a]/\RelV x u/\RelV y a:=by
 cases r with
 | cons e d=>
  cases d with
  | cons c b=>cases b;exact⟨_,_,rfl,e,c⟩
def Wu(b:Qa6):nj X QuT (λxs H Q=>∃i j,xs=[.int i,.int j]/\Q Qqv H):=by
 intro pins s Y H xs us Q I r h;obtain⟨i,j,rfl,q⟩:=h;obtain⟨u,c,rfl,⟨t,rfl⟩,⟨t',rfl⟩⟩:=vals2 r;refine max_two_ints (I.ok.hd b) λh' tk k=>⟨_,H,I.kept k,?_,q⟩;by_cases a:j > i
 .rw[cq a,cq a];exact⟨_,rfl⟩
 .rw[bX a,bX a];exact⟨_,rfl⟩
def Wv:nj X (.type "int") (λxs H Q=>(∃i,xs=[.int i]/\Q Qba H)\/∃k,xs=[.bl k]/\Q (.int (if k then 1 else 0)) H):=by
 intro pins s Y H xs us Q I r h;obtain⟨i,rfl,q⟩|⟨k,rfl,q⟩:=h
 .obtain⟨u,rfl,t,rfl⟩:=vals1 r;exact call_int_int ⟨.int i,H,I,⟨_,rfl⟩,q⟩
 .obtain⟨u,rfl,a⟩:=vals1 r;cases a;exact call_int_bool ⟨.int _,H,I.tok _,⟨_,rfl⟩,q⟩
def Jf:nj X Qn6 (λxs H Q=>∃i,xs=[.int i]/\i.natAbs.log2<1920/\Q Qt4 H):=by
 intro pins s Y H xs us Q I r h;obtain⟨i,rfl,hz,q⟩:=h;obtain⟨u,rfl,t,rfl⟩:=vals1 r;exact PySem.P.str_of_int hz ⟨.str _,H,I.tok _,⟨_,rfl⟩,q⟩
structure Qt(h:Heap)(x dx C:Addr)(mA:Bi):Prop where
 obj:h.get? x=some Qn3
 ns:h.Ns1 dx mA
 ne:dx≠x
variable{dx:Addr}
theorem Ww{mA:Bi}(n:h.Ns1 dx mA):∃od,h.get? dx=some od/\∀name,lookIn name od=some (mA name):=by
 obtain⟨o,es,ep,d,hd,f,_,hm⟩:=n;refine⟨o,d,λname=>?_⟩;have e:=hm name;unfold nsFind findBy at e;rw[<- Array.find?_toList]at e;unfold lookIn;rw[hd];dsimp;split
 .simp_all
 .have a:es.toList.any (·.refKey)=false:=by
   rw[List.any_eq_false];intro y c;obtain⟨z,t,b⟩:=f y (Array.mem_toList_iff.1 c);simp[DictEntry.refKey,b]
  have g:¬ es.toList.any (·.refKey)=true:=by rw[a];simp_all
  rw[bX g];simp_all
variable{C:Addr}
theorem Qt.look{mA:Bi}(I:Qt h x dx C mA):∃od,PySem.W.InstAt h x Qn3 C (some od)/\∀name,lookIn name od=some (mA name):=
 let ⟨od,a,hl⟩:=Ww I.ns
 ⟨od,⟨I.obj,rfl,rfl,a⟩,hl⟩
variable{prog:Qag}{f:Addr}{mA:Bi}{name:Str}{v:Value}
def get_map{expr:Bool}{Q:BN}(X:Qkc)(I:Qm5)(c:Qvk)(b:hasDictIn K C=true)
  (d:findIn K Qai name=some none) (hv:mA name=some v) (a:handedIn v=true) (h:Q v {s with toks:=s.toks+1}) :
  wpAny Qah A (getAttr Qdi name expr) Q E s:=by
 obtain⟨od,J,hl⟩:=I.look;exact PySem.W.get_value X J (plainGet_of c).1 (PySem.W.findObj_own b d rfl (by rw[hl,hv])) a h
variable{pl:QhC}
theorem Zm{Q:QrP}(X:Qkc)(I:Qm5)(a:Qvk)
  (hf:findIn K Qai name=some Qc9) (b:isFn K Qad=true) (hv:mA name=none) (h:Q (.ref f,[.ref x]) s) :
  wpAny Qah A (getMethod Qdi name pl) Q E s:=by
 obtain⟨od,J,hl⟩:=I.look;exact PySem.W.method_fn X J (plainGet_of a).1 (plainGet_of a).2 hf (rq.1 b) (by show(lookIn name od).map _=some _;simp_all) h
theorem aeb{ns:At}(X:Qkc)(I:Qm5)
  (hs:findIn K Qai "__setattr__" = some Qqw) (j:plainOver K C=true) (i:takerIn K C name=some none) (k:hasDictIn K C=true)
  (hw:PySem.Within mA ns) (hsz:ns.length<=sizeLine)
  (h:∀h',Qt h' x dx C (λy=>if y=name then some v else mA y)->Heap.SameBut dx s.heap h'->Q () {s with heap:=h',toks:=s.toks+2}) :
  wpAny Qah A (setAttr Qdi name v) Q E s:=by
 obtain⟨od,J,hl⟩:=I.look;refine PySem.W.set_plain X J hs (PySem.W.osa_open X J j i λb=>?_);obtain⟨cd,l,o⟩:=any_some k;have g:=I.obj;refine ec (i2 (ec (ec (wpAny_loadPart g (ec (PySem.W.Looks.here (PySem.W.looks_clsIn X l) ?_))))));rw[o];refine i2 (ec (i2 (ec ?_)));refine wpAny_nsSet1 I.ns λh' a f=>?_;obtain⟨p,m,n,c,d,e⟩:=a.count (PySem.Within.cons name v hw);refine ec (wpAny_lookBehind c (d▸pastItsLine_dict (ky e WB)) ?_);exact i2 (h _ ⟨(f.2 _ (ml I.ne)).trans I.obj,a,I.ne⟩ f)
abbrev _root_.DO:=List (Str×Value)
noncomputable def Zn{R:QsY}{vs:B2}{kw:DO}(X:Qkc)(hm:makesIn K C=true)
  (hi:findIn K Qai "__init__" = some Qc9) (hf:PySem.W.typeIn K Qad=some (.type "function"))
  (h:codeAny Qah (A.under (.builtin "type.__call__" ⟨.ref C::vs,kw⟩)) (.call Qad ⟨.ref Qbm::vs,kw⟩) (PySem.W.InitBack Qbm R)
   {s with heap:=(s.heap.push emptyDict).push QrI}) :
  codeAny Qah A (.call Qai ⟨vs,kw⟩) R s:=PySem.W.make_core (PySem.W.makes_of X hm) (PySem.W.looks_findIn X hi) (λself=>PySem.W.bind_fn X self hf) Qae h
noncomputable def oV(f:Str)(v:V):Bz->Bz
 | []=>[(f,v)]
 | (g,x)::r=>if g=f then(g,v)::r else(g,x)::oV f v r
theorem BE(f g:Str)(v:V):∀fs:Bz,(oV f v fs).lookup g=if g=f then some v else fs.lookup g
 | []=>by
  show List.lookup g [(f,v)]=_;by_cases h:g=f
  .have a:=rq.2 h;simp[List.lookup,a,cq h]
  .have a:=n4.2 h;simp[List.lookup,a,bX h]
 | (k,x)::r=>by
  have c:=BE f g v r;rw[show oV f v _=(if k=f then(k,v)::r else(k,x)::oV f v r) from rfl];by_cases b:k=f
  .rw[cq b];by_cases h:g=k
   .have a:=rq.2 h;simp[List.lookup,a,cq (h.trans b)]
   .have a:=n4.2 h;simp[List.lookup,a,bX (λe:g=f=>h (e.trans b.symm))]
  .rw[bX b];by_cases h:g=k
   .simp_all
   .have a:=n4.2 h;simp[List.lookup,a];exact c
theorem Am(f:Str)(v:V):∀fs:Bz,f∈(oV f v fs).map (·.1)/\∀g,g∈fs.map (·.1)->g∈(oV f v fs).map (·.1)
 | []=>⟨by simp[oV],λg h=>by simp at h⟩
 | (k,x)::r=>by
  obtain⟨i1,a⟩:=Am f v r;rw[show oV f v _=(if k=f then(k,v)::r else(k,x)::oV f v r) from rfl];grind
theorem BF(f:Str)(v:V):∀fs:Bz,(oV f v fs).length<=fs.length+1
 | []=>by simp[oV]
 | (k,x)::r=>by
  have a:=BF f v r;rw[show oV f v _=(if k=f then(k,v)::r else(k,x)::oV f v r) from rfl];grind
theorem tK.some_of{v:V}{o:Qg5}(r:tK QaQ o):∃u,o=some u/\RelV v u:=by
 cases o with
 | none=>exact(r).elim
 | some u=>exact⟨u,rfl,r⟩
theorem tK.none_of{o:Qg5}(r:tK none o):o=none:=by
 cases o with
 | none=>rfl
 | some u=>exact(r).elim
theorem Wx{v:V}(r:QcM):handedIn u=true:=by
 cases v with
 | non=>cases (r);rfl
 | bl b=>cases (r);rfl
 | int i=>obtain⟨t,e⟩:=(r);cases e;rfl
 | str x=>obtain⟨t,e⟩:=(r);cases e;rfl
 | Qj b=>obtain⟨t,e⟩:=(r);cases e;rfl
 | flt b=>obtain⟨t,e⟩:=(r);cases e;rfl
 | ref a=>cases (r);rfl
 | ty n=>cases (r);rfl
variable{a:Addr}{fs:Bz}
def Jg(cR:QbC)(e:QjC):∃mA,Qt h a dx C mA/\(∀f,tK Qob (mA f))/\PySem.Within mA (fs.map (·.1))/\fs.length<=1000/\H dx=some Qhn:=by
 obtain⟨d,z,ne,b,mA,n,r,q⟩:=(cR a _ e);exact⟨mA,⟨b,n,ne⟩,r,q,z,d⟩
structure yE(K:Frag)(C:Addr):Prop where
 pg:plainGet K C Str.empty=true
 hd:hasDictIn K C=true
 po:plainOver K C=true
 sa:findIn K Qai "__setattr__" = some Qqw
theorem yE.get(c:yE K C)(f:Str):plainGet K C f=true:=c.pg
def bC(K:Frag)(C:Addr)(f:Str):Prop:=findIn K Qai f=some none
theorem bC.an1{f:Str}(n:bC K C f):takerIn K C f=some none:=by
 unfold takerIn;rw[n];rfl
structure Meth(K:Frag)(C:Addr)(m:Str)(f:Addr):Prop where
 at_:findIn K Qai m=some Qc9
 fn:isFn K Qad=true
 kp:keepIn K Qad=true
variable{f:Str}{v:V}
def Dm{b:Bool}{Q:BN}(I:QE)(e:QjC)(c:yE X.K C)(n:bC X.K C f)(l:fs.lookup f=some v)
  (h:∀u s',Inv X pins Y H s'->RelV v u->Q u s'):wpAny Qe A (getAttr Q3 f b) Q E s:=by
 obtain⟨mA,O,r,_,_,_⟩:=Jg I.cR e;obtain⟨u,g,d⟩:=tK.some_of (l▸r f);exact get_map I.Ah O (c.get f) c.hd n g (Wx d) (h u _ QdY d)
def Dn{m:Str}{g:Addr}{Q:QrP}(I:QE)(e:QjC)(c:yE X.K C)(k:Meth X.K C m g)(l:QgL)
  (h:Q (.ref g,[.ref a]) s):wpAny Qe A (getMethod Q3 m pl) Q E s:=by
 obtain⟨mA,O,r,_,_,_⟩:=Jg I.cR e;have hn:=tK.none_of (l▸r m);exact Zm I.Ah O (c.get m) k.at_ k.fn hn h
theorem Dp{y:V}(I:QE)(e:QjC)(c:yE X.K C)(n:bC X.K C f)(hl:fs.length<1000)(l:QbQ)
  (h:∀s',Inv X pins Y (upd H a Qtd) s'->Q () s'):wpAny Qe A (setAttr Q3 f u) Q E s:=by
 obtain⟨mA,O,r,i,_,j⟩:=Jg I.cR e;have hz:(fs.map (·.1)).length<=sizeLine:=by rw[cK,ko];lia
 refine aeb I.Ah O c.sa c.po n.an1 c.hd i hz λh' d k=>h _ ?_;have hd:∃o,h'.get? dx=some o:=let ⟨o,_,_,t,_⟩:=d.ns;⟨o,t⟩;refine I.write (e▸True.intro) (.inr j) (λb q p z=>(k.2 b p).trans z) hd ?_;refine⟨ au O.ne▸j,?_,O.ne,d.obj,_,d.ns,λg=>?_,λg m=>?_⟩
 .have:=BF f y fs;lia
 .rw[BE];by_cases q:g=f
  .rw[cq q,cq q];exact l
  simp_all
 .by_cases q:g=f
  .rw[q];exact(Am f y fs).1
  .refine(Am f y fs).2 g (i g λz=>m ?_);grind
theorem Inv.made(I:QE):Inv X pins Y (upd (upd H s.heap.objs.size (.own Qbm)) Qbm (.ins C s.heap.objs.size []))
  {s with heap:=(s.heap.push emptyDict).push QrI}:=by
 have e1:(s.heap.push _).get? _=some emptyDict:=l6 _ rfl;have e2:=by
  have:=l6 (s.heap.push emptyDict) (o:=instObj C s.heap.objs.size) rfl
  rwa [Heap.size_push]at this
 have c:(s.heap.push _).Ns _ _:=⟨ _,#[],_,e1,rfl,(λe he=>absurd he Wp),λ_=>rfl⟩;have d:=I.laid (o:=.own Qbm) (t':=s.toks) QtB (ik _) ⟨_,e1⟩;refine d.laid QtB (Nat.le_of_eq (Heap.size_push _ _)) ?_;have ne:s.heap.objs.size≠s.heap.objs.size+1:=kr QtC;refine⟨by rw[au ne,aC],i8 _,ne,e2,_,(Heap.Ns1.of_empty c).at λo q=>ka _ q,λ_=>True.intro,λy a=>absurd rfl a⟩
noncomputable def aec{env:Env}{e:Expr}{Q:BN}(b:attributeBase e f env (eval e env)=eval e env)
  (h:wpAny Qah A (eval e env) (λo a=>wpAny Qah A (getAttr o f true) Q E a) E s):wpAny Qah A (eval Qgo env) Q E s:=
 Attribute_any_ h (by rw[arm_eval_Attribute,b])
def aq2(K:Frag)(ta:TE)(f:Str):TE:=λY H Q=>ta Y H λx H1=>∃a C dx fs v,x=.ref a/\H1 a=some QeH/\yE K C/\bC K C f/\fs.lookup f=some v/\Q v H1
def aq3(K:Frag)(ta tv:TE)(f:Str):TS:=λD Y H=>tv Y H λy H1=>ta Y H1 λx H2=>∃a C dx fs,x=.ref a/\H2 a=some QeH/\yE K C/\bC K C f/\fs.length<1000 ∧
 D.nx Y (upd H2 a Qtd)
def NL(X:Cx)(op:QfA)(rd:Qma):Prop:=
 ∀(pins:BC) (s:Qb) (Y:St) (H:Hp) (x y:V) (u v:Value) (Q:VK),Inv X pins Y H s->RelV x u->RelV y v->rd x y H Q->wpAny Qe X.A (inplaceOp op u v) Qa9 X.xe s
def aed(K:Frag)(ta tv:TE)(rd:Qma)(f:Str):TS:=λD Y H=>ta Y H λx H1=>∃a C dx fs v,x=.ref a/\H1 a=some QeH/\yE K C/\bC K C f/\fs.lookup f=some v ∧
 tv Y H1 λy H2=>rd v y H2 λz c=>∃b fs',c a=some (.ins C b fs')/\fs'.length<1000/\D.nx Y (upd c a (.ins C b (oV f z fs')))
variable{o e value:Expr}{pos' aq4:Pos}{tv:TE}
def Qu(he:PE X e ta)(g:AS X e f):PE X Qgo (aq2 X.K ta f):=by
 intro pins s Y H Q I h;refine aec g (dP Qcd λu s1 zz=>?_);obtain⟨x,H1,k,b,a,C,dx,fs,v,ex,i,c,n,l,q⟩:=zz;subst ex;obtain rfl:u=Value.ref a:=b;exact Dm k i c n l λm s2 j d=>⟨v,H1,j,d,q⟩
def ajo(i:PE X o ta)(hv:QjO)(hs:swapsWith value (some (.Attribute o f pos')) pos.line X.env=pure false):PS X (.Assign [.Attribute o f pos'] value pos) (aq3 X.K ta tv f):=by
 intro pins s Y H D I h;refine plainObj_wpAny_Assign_Attribute (dP Qmn λu s1 ⟨y,H1,p,b,q⟩=>dP (i pins s1 Y H1 _ p q) λg s2 zz=>?_) hs;obtain⟨x,H2,m,d,a,C,dx,fs,ex,j,c,n,l,e⟩:=zz;subst ex;obtain rfl:g=Value.ref a:=d;exact Dp m j c n l b λs3 k=>⟨Y,_,k,e⟩
def Wy{op:QfA}{rd:Qma}(w:PE X o ta)(hv:QjO)(b:NL X op rd):PS X (.AugAssign (.Attribute o f aq4) op value pos) (aed X.K ta tv rd f):=by
 intro pins s Y H D I h;refine wpAny_AugAssign_AttributeAny (dP (w pins s Y H _ I h) λr s1 zz=>?_);obtain⟨x,H1,L,j,a,C,dx,fs,v,ex,A,c,n,l,q⟩:=zz;subst ex;obtain rfl:r=Value.ref a:=j;refine Dm L A c n l λu s2 J k=>dP (hv pins s2 Y H1 _ J q) λe s3 ⟨y,H2,G,i,p⟩=>dP (b pins s3 Y H2 v y u e _ G k i p) λM s4 zz=>?_;obtain⟨z,N,F,g,B,fs',d,t,m⟩:=zz;exact Dp F d c n t g λs5 E=>⟨Y,_,E,m⟩
def aq5:V->V->Hp->VK->Prop:=λx y H Q=>∃i j,x=.int i/\y=.int j/\Q (.int (i-j)) H
def ajp:NL X .Sub aq5:=by
 rintro pins s Y H x y u v Q I b a ⟨i,j,rfl,rfl,q⟩;obtain⟨t,rfl⟩:=(b);obtain⟨t',rfl⟩:=(a);exact PyProof.Rows.isub_int ⟨.int _,H,I.tok _,⟨_,rfl⟩,q⟩
def ah0{m:Str}{apos:Pos}{args:Ch}{Q:BN}(he:Qb6)(I:QE)
  (h:te Y H λx H1=>∃a C dx fs g,x=.ref a/\H1 a=some QeH/\yE X.K C/\Meth X.K C m g/\fs.lookup m=none ∧
   ∀s1,Inv X pins Y H1 s1->wpAny Qe X.A (callWith pos (.ref g) [.ref a] (backTo pos QtD) QdA) Q X.xe s1)
  (i:eval Qqx X.env=(do
   let ov ← eval e X.env
   standAt apos.atName
   let (f,first) ← holding [ov] Qut
   callWith pos f first (backTo pos QtD) QdA)) :
  wpAny Qe X.A (eval Qqx X.env) Q X.xe s:=by
 refine methodCall_KW (dP Qcd λu s1 zz=>?_) i;obtain⟨x,H1,b,d,a,C,dx,fs,g,ex,j,c,k,l,q⟩:=zz;subst ex;obtain rfl:u=Value.ref a:=d;exact Dn b j c k l (q s1 b)
structure fj(k:Nat)(A:Qas):Prop where
 hd:A.handled=none
 dp:A.depth+3*k+5<recursionLimit
 un:A.units+16*k+200<cLine
theorem fj.mono{j:Nat}(r:fj k A)(h:j<=k):fj j A:=⟨r.hd,by have:=r.dp;lia,by have:=r.un;lia⟩
theorem fj.deeper(r:fj QaM A)(env:Env):fj k (A.deeper env):=
 ⟨r.hd,by have:=r.dp;show A.depth+1+3*k+5<_;lia,by have:=r.un;show A.units+3+16*k+200<_;lia⟩
def Qv{kw:DO}:(A.under QkO).depth=A.depth+1:=rfl
def Qw{kw:DO}:(A.under QkO).units=A.units+1:=rfl
theorem fj.make(r:fj QaM A)(C:Addr)(us:B2)(kw:DO):fj k Qvl:=
 ⟨r.hd,by have:=r.dp;rw[Qv];lia,by have:=r.un;rw[Qw];lia⟩
theorem fj.depth(r:fj k A):A.depth<recursionLimit:=by have:=r.dp;lia
theorem fj.units(r:fj k A):A.units+64<cLine:=by have:=r.un;lia
noncomputable def Zo:TA:=λ_ H Q=>Q [] H
noncomputable def Uv(ta:TE)(tr:TA):TA:=λY H Q=>ta Y H λx H1=>tr Y H1 λxs H2=>Q (x::xs) H2
variable{t:TA}
noncomputable def di:PA X [] Zo:=λ_ _ _ _ H Q I h=>Calls.spliced_nil ⟨[],H,I,.nil,h⟩
def bP(f:Qb6)(d:PA X es t)(hs:Qav:=by rfl):PA X Qau (Uv te t):=by
 intro pos pins s Y H Q I h;rw[hs];show wpAny _ _ (spliced ((false,eval e _)::backTo pos _)) _ _ s;refine Calls.spliced_cons (dP Qgn λu s1 zz=>?_);obtain⟨x,H1,i,b,q1⟩:=zz;exact dP QrQ λus s2 ⟨xs,H2,g,a,c⟩=>⟨ _,H2,g,.cons b a,c⟩
def aq6(t:TA):TE:=λY H Q=>t Y H λxs H1=>xs.length<=sizeLine/\∀p,H1 p=none->Q QbM (upd H1 p Qbc)
def aq7(t:TA):TE:=λY H Q=>t Y H λxs H1=>xs.length<=sizeLine/\∀p,H1 p=none->Q QbM (upd H1 p Qbo)
def Zq{x1}(h:PA X es t):PE X (.Tuple es x1 pos) (aq6 t):=by
 intro pins s Y H Q I c;refine wpAny_Tuple_spliced (dP QsI λus s1 ⟨xs,H1,a,r,z,q⟩=>⟨ r.length▸z,?_⟩);have hf:=a.cR.fresh (ik _);refine⟨.ref _,_,a.laid Qmu (ik _) ?_,rfl,q _ hf⟩;exact⟨z,us,r,⟨_,l6 _ rfl,rfl,_,rfl⟩⟩
def ajq(h:PA X es t):PE X Qn7 (aq7 t):=by
 intro pins s Y H Q I c;refine wpAny_List_spliced (dP QsI λus s1 ⟨xs,H1,a,r,z,q⟩=>⟨ r.length▸z,?_⟩);have hf:=a.cR.fresh (ik _);refine⟨.ref _,_,a.laid Qmu (ik _) ?_,rfl,q _ hf⟩;exact⟨z,us,0,r,l6 _ rfl⟩
abbrev Sp:=B0->Hp->VK->XK->Prop
abbrev YW:=D1->Hp->Shared->XK->Value->Shared->Prop
structure Qx(P:Qag)(w:World)(K:Frag)(mg:Bi)(base:Heap)(A:Qas)(outer:D1)(s:Qb)(H:Hp):Prop where
 frames:A.frames=some outer
 mod:Mod K mg base
 bs:∀b o,base.get? b=some o->s.heap.get? b=some o/\H b=none
 YV:base.objs.size<=s.heap.objs.size
 xj:s.heap.FunFrames base outer
 oy:∀b∈sY outer,H b=none
 cR:tE P w H s.heap
 bare:AllBare s.gens
def CE(outer:D1)(P:Qag)(w:World)(H:Hp)(s:Qb)(Q:VK)(u:Value)(s':Qb):Prop:=
 ∃v H',s'.os=s.os/\AllBare s'.gens/\Un (sY outer) [] H H' s.heap s'.heap/\tE P w H' s'.heap/\RelV v u/\Q v H'
def CR(CX:YW)(outer:D1)(P:Qag)(w:World)(H:Hp)(s:Qb)(Q:VK)(E:XK)(r:Result)(s':Qb):Prop:=
 match r with
 | .ok (.ret u)=>CE outer P w H s Q u s'
 | .ok _=>False
 | .error e=>CX outer H s E e s'
structure dz(P:Qag)(w:World)(K:Frag)(mg:Bi)(base:Heap)(CX:YW)(k:Nat)(f:Addr)(fd:QaT)(ps:At)(sp:Sp):Prop where
 len:∀vs H Q E,sp vs H Q E->vs.length=ps.length
 run:∀(A:Qas) (outer:D1) (s:Qb) (H:Hp) (args:Args) (us:B2) (vs:B0) (Q:VK) (E:XK),fj k A->Qx P w K mg base A outer s H->BindsTo s fd args QcG->Vals vs us->sp vs H Q E →
  codeAny Qcq A (.call Qad args) (CR CX outer P w H s Q E) s
variable{mg:Bi}{base:Heap}{CX:YW}{fd:QaT}{ps:At}{sp:Sp}
theorem dz.mono{j:Nat}{f:Addr}(F:dz P w K mg base CX j f fd ps sp)(h:j<=k) :
  dz P w K mg base CX k f fd ps sp:=⟨F.len,λA outer s H args us vs Q E a=>F.run A _ s H args us vs Q E (a.mono h)⟩
theorem dz.imp{f:Addr}{a:Sp}(F:dz P w K mg base CX k f fd ps sp)
  (h:∀vs H Q E,a vs H Q E->sp vs H Q E):dz P w K mg base CX k f fd ps a:=
 ⟨λvs H Q E q=>F.len vs H Q E (h _ _ _ _ q),λA outer s H args us vs Q E b he c hv hs=>F.run A _ s H args us vs Q E b he c hv (h _ _ _ _ hs)⟩
theorem Qx.make{outer:D1}(e:Qr0)(C:Addr)(us:B2)(kw:DO) :
  Qx P w K mg base Qvl outer s H:=⟨by first|exact e.frames|(simpa using e.frames),e.mod,e.bs,e.YV,e.xj,e.oy,e.cR,e.bare⟩
variable{s':Qb}
theorem Inv.JP(I:QE):Qx X.prog X.w X.K X.mg X.base X.A X.stack s H:=
 ⟨I.ok.frames,I.ok.mod,I.bs,ky I.ok.YV I.sz,I.stack,I.Cw,I.cR,I.bare⟩
theorem Inv.after{Q:VK}(I:QE)(h:CE X.stack X.prog X.w H s Q u s'):EP X pins Y Q u s':=by
 obtain⟨v,H',os,bare,un,cR,r,q⟩:=h;obtain⟨c,g,d,t,a⟩:=s';obtain rfl:a=s.os:=os;exact⟨v,H',I.call un cR bare (λb z=>absurd z Wp),r,q⟩
noncomputable def O3(sp:Sp)(Jh:B0)(E:XK)(t:TA):TE:=λY H Q=>t Y H λvs H1=>sp Qfr H1 Q E
def an3(C:Addr)(m:Str)(sp:Sp)(Jh:B0)(E:XK)(ta:TE)(t:TA):TE:=λY H Q=>ta Y H λx H1=>∃a dx fs,x=.ref a/\H1 a=some QeH/\fs.lookup m=none ∧
 t Y H1 λvs H2=>sp (x::Qfr) H2 Q E
def an4(C:Addr)(sp:Sp)(Jh:B0)(E:XK)(t:TA):TE:=λY H Q=>t Y H λvs H1=>∀x dx,H1 x=none->H1 dx=none->dx≠x →
 sp (.ref x::Qfr) (upd (upd H1 dx Qhc) x (.ins C dx [])) Qrg E
def Binds(K:Frag)(fd:QaT)(ps:At)(ds:B2):Prop:=
 ∀(s:Qb) (us:B2),K.In s.heap->(us++ds).length=ps.length->BindsTo s fd ⟨us,[]⟩ (ps.zip (us++ds))
theorem Binds.all(h:∀us:B2,us.length=ps.length->bindArgs fd ⟨us,[]⟩=pure QcG):Binds K fd ps []:=λs us _ hl=>by
 rw[js]at hl ⊢;exact .of_eq (h us hl)
def Passes(CX:YW)(X:Cx)(E:XK):Prop:=∀(pins:BC) (Y:St) (H:Hp) (s:Qb) (e:Value) (s':Qb),Inv X pins Y H s->CX X.stack H s E e s'->X.xe e s'
section
variable{f:Addr}{Jh:B0}{ds:B2}{E:XK}{x m:Str}{apos:Pos}
def Qy{Q:VK}{vs:B0}(F:Qeo)(d:Qea)(g:QfB)(hd:QfC)(c:QfD)
  (I:QE) (r:Vals vs us) (h:sp Qfr H Q E):wpAny Qe X.A (call Qad us) Qa9 X.xe s:=by
 have b:=r.append hd;have hl:=b.length▸F.len _ _ _ _ h;refine wpAny_call (codeAny_mono (F.run X.A _ s H _ _ _ Q E d I.JP (g s us I.Ah hl) b h) λr s' a=>?_);cases r with
 | error e=>exact c pins Y H s e s' I a
 | ok fl=>
  cases fl with
  | ret u=>exact I.after a
  | next=>exact False.elim a
  | brk=>exact False.elim a
  | cont=>exact False.elim a
def Ji(F:Qeo)(d:Qea)(i:QaA)(hm:Qje)(g:QiL)(j:QfB)(hd:QfC)(c:QfD)
  (l:QfE) (b:AD x:=by decide) (he:Qav:=by rfl) (hpl:QaN:=by rfl) :
  PE X Qh9 (O3 sp Jh E t):=by
 intro pins s Y H Q I h;refine pv (qH I i hm ?_ b);refine zp I.ok.mod.u6 g (dP (l pos pins s Y H _ I h) λus s1 ⟨vs,H1,a,r,q⟩=>⟨a.Ah,?_⟩) he hpl;exact Qy F d j hd c a r q
def Zr(F:Qeo)(c:Qea)(e:QaA)(hm:Qje)(d:QiL)(g:QfB)(hd:QfC)(b:QfD)
  (a:AD x:=by decide):PE X (.Call (.Name x p) [] [] pos) (O3 sp Jh E Zo):=by
 intro pins s Y H Q I h;refine pv (qH I e hm ?_ a);exact PySem.W.callWith_K0 I.Ah d (Qy F c g hd b I .nil h)
def Jj(he:PE X o ta)(c:yE X.K C)(hm:Meth X.K C m f)(F:Qeo)(v:Qea)(y:QfB)(hd:QfC)(n:QfD)(z:QfE)
  (j:Qav:=by rfl) (hpl:QaN:=by rfl)
  (p:eval QhT X.env=(do
   let ov ← eval o X.env
   standAt apos.atName
   let (f,first) ← holding [ov] Qut
   callWith pos f first (backTo pos QeD) QdA):=by rfl) :
  PE X QhT (an3 C m sp Jh E ta t):=by
 intro pins s Y H Q I h;refine methodCall_KW (dP Qcd λu s1 zz=>?_) p;obtain⟨x,H1,d,g,a,dx,fs,ex,B,l,q⟩:=zz;subst ex;obtain rfl:u=Value.ref a:=g;refine Dn d B c hm l ?_;refine zp I.ok.mod.u6 hm.kp (dP (z pos pins s1 Y H1 _ d q) λus s2 ⟨vs,H2,b,r,i⟩=>⟨b.Ah,?_⟩) j hpl;exact Qy (vs:=.ref a::vs) F v y hd n b (.cons rfl r) i
structure Mk(K:Frag)(C f:Addr):Prop where
 makes:makesIn K C=true
 init:findIn K Qai "__init__" = some Qc9
 fn:isFn K Qad=true
 kp:keepIn K Qai=true
def Zt{Q:VK}{vs:B0}(M:Mk X.K C f)(F:Qeo)(l:QgY)(m:QfB)(hd:QfC)
  (j:QfD) (I:QE) (r:Vals vs us)
  (h:∀x dx,H x=none->H dx=none->dx≠x->sp (.ref x::Qfr) (upd (upd H dx Qhc) x (.ins C dx [])) Qrg E) :
  wpAny Qe X.A (call Qai us) Qa9 X.xe s:=by
 have d:=h _ _ QmD Qc1 (kr QtC);have b:=Inv.made (C:=C) I;have c:Vals (V.ref Qbm::Qfr) _:=.cons rfl (r.append hd);have hl:=by
  have e:=c.length;rw[F.len _ _ _ _ d]at e;exact e.symm
 refine wpAny_call (Zn I.Ah M.makes M.init (rq.1 M.fn) (codeAny_mono (F.run _ _ _ _ _ _ _ _ E (l.make C us [])
  (b.JP.make C us []) (m _ _ b.Ah hl) c d) λr s' a=>?_))
 cases r with
 | error e=>exact j pins Y _ _ e s' b a
 | ok fl=>
  cases fl with
  | ret u=>
   obtain⟨v,H',n,g,ev,i⟩:=b.after a;subst ev;exact⟨g,⟨V.ref _,H',n,rfl,i⟩⟩
  | next=>exact False.elim a
  | brk=>exact False.elim a
  | cont=>exact False.elim a
def Jk(M:Mk X.K C f)(F:Qeo)(d:QgY)(g:QaA)(hm:X.mg x=some Qai)(i:QfB)(hd:QfC)(c:QfD)
  (j:QfE) (b:AD x:=by decide) (he:Qav:=by rfl) (hpl:QaN:=by rfl) :
  PE X Qh9 (an4 C sp Jh E t):=by
 intro pins s Y H Q I h;refine pv (qH I g hm ?_ b);refine zp I.ok.mod.u6 M.kp (dP (j pos pins s Y H _ I h) λus s1 ⟨vs,H1,a,r,q⟩=>⟨a.Ah,?_⟩) he hpl;exact Zt M F d i hd c a r q
end
def PK(X:Cx)(kws:Ev)(t:TA):Prop:=
 ∀(pos:Pos) (pins:BC) (s:Qb) (Y:St) (H:Hp) (Q:EN),Inv X pins Y H s->t Y H Q->wpAny Qe X.A (evalAll ((backToKw pos (keywordEach kws X.env)).map (·.2))) QnQ X.xe s
variable{x:Str}{aq8:Pos}{kws:Ev}{nm:Option Str}
noncomputable def Zu:PK X [] Zo:=λ_ _ _ _ H Q I h=>wpAny_evalAll_nil ⟨[],H,I,.nil,h⟩
def Uw(f:Qb6)(d:PK X kws t):PK X (⟨nm,e,aq8⟩::kws) (Uv te t):=by
 intro pos pins s Y H Q I h;refine wpAny_evalAll_cons (ec (dP Qgn λu s1 ⟨x,H1,i,b,q1⟩=>ec (wpAny_standAt (i2 ?_))));exact dP QrQ λus s2 ⟨xs,H2,g,a,c⟩=>⟨ _,H2,g,.cons b a,c⟩
structure dB(N P:At)(sc:Scope):Prop where
 kind:sc.kind=.function
 co:sc.isCoroutine=false
 gen:sc.isGenerator=false
 nd:N.Nodup
 pre:N.take P.length=P
 par:∀x∈P,sc.names.lookup x=some .local\/sc.names.lookup x=some .cell
 ajs:∀y∈sc.names,y.2 ≠ .free
theorem Hv{kindOf:QiB}{x:Str}:∀{binds:DO} {m:Bi},(∀v,(x,v)∉binds)->bindL kindOf binds m x=m x
 | [],_,_=>rfl
 | (n,v)::r,m,h=>by
  unfold bindL;rw[Hv λw hw=>h w (ij _ hw)];split
  .have:x≠n:=by rintro rfl;exact h v gk
   simp[this]
  .rfl
theorem Hw{kindOf:QiB}{x:Str}:∀{binds:DO} {m:Bi},(∀v,(x,v)∉binds)->bindC kindOf binds m x=m x
 | [],_,_=>rfl
 | (n,v)::r,m,h=>by
  unfold bindC;rw[Hw λw hw=>h w (ij _ hw)];split
  .rfl
  .have:x≠n:=by rintro rfl;exact h v gk
   simp[this]
theorem Hx{kindOf:QiB}{x:Str}{v:Value}:∀{P:At} {vs:B2} {i:Nat} {m:Bi},P.Nodup->P[i]? = some x->vs[i]? = some v->kindOf x=some .local →
  bindL kindOf (P.zip vs) m x=some v
 | [],_,_,_,_,h,_,_=>by simp at h
 | _::_,[],_,_,_,_,h,_=>by simp at h
 | p::P,w::vs,0,m,nd,h1,h2,a=>by
  simp at h1 h2;subst h1;subst h2;show bindL _ ((p,w)::P.zip vs) m p=_;unfold bindL;rw[Hv λv hv=>(l4.1 nd).1 (List.of_mem_zip hv).1,cq a];simp
 | p::P,w::vs,i+1,m,nd,h1,h2,a=>by
  unfold bindL;exact Hx (l4.1 nd).2 (‹_›) (‹_›) a
theorem Hy{kindOf:QiB}{x:Str}{v:Value}:∀{P:At} {vs:B2} {i:Nat} {m:Bi},P.Nodup->P[i]? = some x->vs[i]? = some v->kindOf x≠some .local →
  bindC kindOf (P.zip vs) m x=some v
 | [],_,_,_,_,h,_,_=>by simp at h
 | _::_,[],_,_,_,_,h,_=>by simp at h
 | p::P,w::vs,0,m,nd,h1,h2,a=>by
  simp at h1 h2;subst h1;subst h2;show bindC _ ((p,w)::P.zip vs) m p=_;unfold bindC;rw[Hw λv hv=>(l4.1 nd).1 (List.of_mem_zip hv).1,bX a];simp
 | p::P,w::vs,i+1,m,nd,h1,h2,a=>by
  unfold bindC;exact Hy (l4.1 nd).2 (‹_›) (‹_›) a
noncomputable def start(N:At)(vs:B0):St:=vs.map some++List.replicate (N.length-vs.length) none
noncomputable def tN(CX:YW)(P:Qag)(w:World)(K:Frag)(mg:Bi)(base:Heap)(N:At)(qual:Str)(scope:Scope)(f:Addr)(cd:Value)(A:Qas)(outer:D1)(s:Qb)(H:Hp)(E:XK):Cx where
 prog:=P
 w:=w
 K:=K
 mg:=mg
 base:=base
 A:=A.deeper Qk2
 N:=N
 iE:=s
 kc:=H
 env:=envOfC qual scope s.heap.objs.size f cd
 outer:=outer
 stack:=envOfC qual scope s.heap.objs.size f cd::outer
 ex:=[]
 calm:=true
 fn:=λ_=>true
 pn:=[]
 xe:=λe s'=>wpAny Qcq (A.deeper Qk2) (leaving Qk2 e) (λ_ a=>CX outer H s E e a) (λb a=>CX outer H s E b a) s'
def M5{sc:Scope}{n:Nat}(h:sc.names.lookup x=some .cell):∃c,(cellsFrom n sc.names []).lookup x=some c:=by
 have q:=cellsFrom_some _ n [] Qfj;exact Option.isSome_iff_exists.1 q
theorem Wz{N:At}{qual:Str}{scope:Scope}{f:Addr}{cd:Value}{outer:D1}{s1:Qb}{E:XK}{vs:B0}
  (S:dB N ps scope) (hd:Qeb) (e0:Qr0) (hl:vs.length=ps.length) (r:Vals vs us)
  (x:InCallC s s.heap.objs.size (bindL (envOfC qual scope s.heap.objs.size f cd).kindOf QcG λ_=>none) (cellsFrom Qbm scope.names []) (bindC (envOfC qual scope s.heap.objs.size f cd).kindOf QcG λ_=>none) s1) :
  Inv (tN CX P w K mg base N qual scope f cd A outer s H E) [] Qoz H s1:=by
 have hpl:ps.length<=N.length:=by have:=congrArg List.length S.pre;rw[o4]at this;lia
 obtain⟨h1,tk,rfl,m⟩:=x.done;have a:∀b:Addr,b∉(tN CX P w K mg base N qual scope f cd A outer s H E).ex:=λb z=>absurd (show b∈([]:BY) from z) Wp;refine⟨⟨e0.mod,S.kind,rfl,rfl,ik _,λy z c h1 h2=>?_,λy g=>?_,λy c _ h=>?_,λ_=>hd,Around.frames_deeper e0.frames,.inr ⟨rfl,rfl⟩,λb z=>absurd z (a b),e0.bs,e0.YV,λb _ _=>a b,λb z=>absurd z (a b),e0.xj,e0.oy⟩,
  rfl,e0.bare,Un.kept m,⟨_,x.toInCall.ns,λi y v h1 h2 B=>?_⟩,λy c h=>⟨_,x.cell y c h⟩,e0.cR.fresh (ik _),λy c h=>?_,λp j=>absurd (show p∈([]:BC) from j) Wp,e0.cR.kept m,?_⟩
 .exact name_of_addr x.apart (pw h1) (pw h2)
 .obtain g|g:=g
  .exact M5 g
  .exact absurd rfl (S.ajs _ (pw g))
 .exact lx Qt5
 .have hi:i<vs.length:=by
   unfold start at h2;by_cases hi:i<vs.length
   .exact hi
   .rw[List.getElem?_append_right (by simpa using hi)]at h2;rw[LH]at h2;split at h2<;>cases h2
  have t:vs[i]? = some v:=by
   unfold start at h2;rw[List.getElem?_append_left (by simpa using hi),List.getElem?_map]at h2;simp_all
  obtain⟨u,l,o⟩:=r.get t;have j:ps[i]? = some y:=by
   rw[<- S.pre,List.getElem?_take_of_lt We];exact h1
  have d:ps.Nodup:=by rw[<- S.pre];exact S.nd.sublist (List.take_sublist _ _)
  refine⟨u,o,?_⟩;obtain k|k:=S.par y (kA j)
  .exact .inl ⟨k,Hx d j l k⟩
  .obtain⟨c,e⟩:=M5 (n:=s.heap.objs.size+1) k;refine .inr ⟨.inl k,c,e,?_⟩;have q:=x.cell y c e;rw[Hy d j l (by show scope.names.lookup y≠_;rw[k];decide)]at q;exact q
 .exact e0.cR.fresh (lx Qt5)
 .unfold start;show _=N.length;grind
abbrev _root_.D2:=Array (Option Value)
theorem Ux{f:Addr}{qual:Str}{params:Qkp}{body:CI}{scope:Scope}{dV kV doc pm eB ct oc:Value}{an od:Do}
  {F3:D2} {N:At} (lk:K.lookup f=some ⟨oc,od,.func QpQ,F3⟩) (iV:QmY) (S:dB N ps scope)
  (len:∀vs H Q E,sp vs H Q E->vs.length=ps.length)
  (p:∀(A:Qas) (outer:D1) (s:Qb) (H:Hp) (vs:B0) (Q:VK) (E:XK),fj k (A.deeper (envOfC qual scope s.heap.objs.size f eB))->sp vs H Q E →
   ∃t,Ql (tN CX P w K mg base N qual scope f eB A outer s H E) body t/\t {nx:=λ_ H'=>Q .non H',rt:=Q} (start N vs) H) :
  dz P w K mg base CX QaM f QpQ ps sp:=by
 refine⟨len,λA outer s H args us vs Q E c e0 m r g=>?_⟩;have hl:=len _ _ _ _ g;have d:=e0.mod.u6.keeps λb o e=>(e0.bs b o e).1;have lim:=e0.mod.nolimit.keeps λb o e=>(e0.bs b o e).1;have h:∀y∈ps.zip us,scope.names.lookup y.1=some _\/(scope.names.lookup y.1=some _/\((cellsFrom Qbm _ []).lookup y.1).isSome=true):=λ⟨n,v⟩ i=>by
  obtain q|q:=S.par n (List.of_mem_zip i).1
  .exact .inl q
  .exact .inr ⟨q,cellsFrom_some _ _ _ (.inl q)⟩
 refine codeAny_call_function c.depth (d _ _ lk) rfl S.co S.gen rfl (PySem.W.codeRec_of d iV) (m _ _ _ _ ?_);refine wpAny_newFunctionEnv_cells S.kind h λenv he s1 x=>?_;subst he;refine⟨lim.keeps x.toInCall.keep,codeAny_func ?_⟩;obtain⟨t,j,l⟩:=p A _ s H vs Q E (c.deeper _) g;have I:Inv (tN CX P w K mg base N qual _ f eB A _ s H E) [] _ H s1:=Wz S c.hd e0 hl r x;refine la (j [] s1 _ H _ I l) (λfl s' hs=>?_) λe s' hs=>hs;have fin:∀{Y':St} {H':Hp} {v:V} {u:Value},Inv (tN CX P w K mg base N qual scope f eB A _ s H E) [] Y' H' s'->RelV v u->Q v H'->CE outer P w H s Q u s':=
  λ{Y' H' v u} J a q=>⟨v,H',J.os,J.bare,J.base,J.cR,a,q⟩
 cases fl with
 | ret u=>
  obtain⟨v,Y',H',J,a,q⟩:=hs;exact fin J a q
 | next=>
  obtain⟨Y',H',J,q⟩:=hs;exact fin (v:=V.non) J rfl q
 | brk=>
  obtain⟨_,_,_,q⟩:=hs;simp_all
 | cont=>
  obtain⟨_,_,_,q⟩:=hs;exact False.elim q
section
variable{id T:Qbf}{r:QmC}
noncomputable def L9(r:QmC)(t:TA):TE:=λY H Q=>t Y H λvs H1=>r vs H1 Q
def lC(d:nj X QeN r)(c:QaA)(hm:Qkm)(hv:bootBuiltins x=some QeN)(f:QfE)(hn:Qi4:=by decide)(a:AD x:=by decide)
  (he:Qav:=by rfl) (hpl:QaN:=by rfl):PE X Qh9 (L9 r t):=by
 intro pins s Y H Q I h;refine pv (ni I c hm hv ?_ hn a);exact PyProof.Rows.callWith_builtin1 (dP QsJ λus s1 ⟨vs,H1,g,b,q1⟩=>d pins s1 Y H1 vs us Q g b q1) he hpl
def jz(d:nj X Qkq r)(c:QaA)(hm:Qkm)(hv:bootBuiltins x=some Qkq)(f:QfE)(hn:Qi4:=by decide)(a:AD x:=by decide)
  (he:Qav:=by rfl) (hpl:QaN:=by rfl):PE X Qh9 (L9 r t):=by
 intro pins s Y H Q I h;refine pv (ni I c hm hv ?_ hn a);exact tR (dP QsJ λus s1 ⟨vs,H1,g,b,q1⟩=>d pins s1 Y H1 vs us Q g b q1) he hpl
end
end L2
namespace HT
open PySem PyProof.Rows
variable{prog:Qag}{w:World}{A:Qas}{E:BN}{s:Qb}
theorem aee{t b:Addr}{vs ws:B2}{Q:BN}(h:IsTup s.heap t vs.toArray)(j:IsTup s.heap b ws.toArray)(hv:vs≠[])
  (h1:ws=[]->Q (.ref t) s) (h2:ws≠[]->Q QcX {s with heap:=s.heap.push {cls:=.type "tuple",data:=.seq (vs++ws).toArray}})
  (hsz:vs.length+ws.length<=sizeLine):wpAny Qah A (binaryOp .Add (.ref t) Qho) Q E s:=by
 obtain⟨⟨cls,dd,data,sl⟩,f,i,n,hd⟩:=id h;obtain⟨⟨k,d,data2,c⟩,a,l,g,hd2⟩:=id j;subst i hd l hd2;have e:vs.toArray++ws.toArray=(vs++ws).toArray:=by simp
 by_cases hw:ws=[]
 .exact concat_meets ⟨_,f,rfl⟩ ⟨_,a,rfl⟩ noFill_tuple_add seq_tuple_add PySem.F.slot_tuple_add PySem.F.entry_tuple_add Qrs
   (tuple_addW1 t b _ _ n g dd d sl c WA (by simp[hw])) ⟨f,a,h1 hw⟩
 .refine concat_meets ⟨_,f,rfl⟩ ⟨_,a,rfl⟩ noFill_tuple_add seq_tuple_add PySem.F.slot_tuple_add PySem.F.entry_tuple_add Qrs
   (tuple_addW2 t b _ _ n g dd d sl c WA WA (‹_›)) ⟨f,a,?_⟩
  rw[e];exact h2 hw
abbrev _root_.Co:=Option Int
noncomputable def F9(n d:Nat):Co->Nat
 | none=>d
 | some v=>if v<0 then(v+(n:Int)).toNat else min v.toNat n
end HT
namespace L2
open PySem PySem.Spec PyProof.Rows
abbrev TO:=St->Hp->(Co->Hp->Prop)->Prop
def PO(X:Cx)(e:Qhe)(t:TO):Prop:=
 ∀(pins:BC) (s:Qb) (Y:St) (H:Hp) (Q:Co->Hp->Prop),Inv X pins Y H s->t Y H Q →
  wpAny Qe X.A (evalPart e X.env) (λu s'=>∃o H',Inv X pins Y H' s'/\IsPart u o/\Q o H') X.xe s
noncomputable def aeg:TO:=λ_ H Q=>Q none H
noncomputable def an5(t:TE):TO:=λY H Q=>t Y H λx H1=>∃i,x=.int i/\Q (some i) H1
abbrev _root_.AT:=List Int
theorem intsAre_of{ns:AT}:∀{us:B2},Vals QcC us->IntsAre us ns:=by
 induction ns with
 | nil=>intro us r;cases r;exact .nil
 | cons n ns c=>
  intro us r;cases r with
  | cons b a=>
   obtain⟨t,e⟩:=b;subst e;exact .cons n t (c a)
variable{X:Cx}{e:Expr}{te:TE}{lo hi:Qhe}{tl th:TO}{pos p2:Pos}
noncomputable def aeh:PO X none aeg:=λpins s Y H Q I h=>i2 ⟨none,H,I,.none,h⟩
def aei(h:Qb6):PO X Qkg (an5 te):=by
 intro pins s Y H Q I hw;refine dP Qmm λu s1 zz=>?_;obtain⟨x,H1,b,a,q1⟩:=zz;obtain⟨i,rfl,q⟩:=q1;obtain⟨t,rfl⟩:=a;exact⟨ _,H1,b,.int i t,q⟩
def S8(X:Cx)(r:Qlr):Prop:=
 ∀(pins:BC) (s:Qb) (Y:St) (H:Hp) (x:V) (v b a:Value) (lo hi:Co) (sl:Addr) (Q:VK),Inv X pins Y H s->RelV x v->s.heap.IsSliceOf sl b a .none->IsPart b lo->IsPart a hi->r x lo hi H Q →
  ∃T id,typeLookup Qkq "__getitem__" = pure (some QeN)/\s.TypeIs v T/\wpAny Qe X.A (getItem v (.ref sl)) Qa9 X.xe s
noncomputable def TM(r:Qlr)(te:TE)(tl th:TO):TE:=λY H Q=>te Y H λx H1=>tl Y H1 λl H2=>th Y H2 λu a=>r x l u a Q
def Zv{r:Qlr}(m:S8 X r)(he:Qb6)(hl:PO X lo tl)(j:PO X hi th):PE X Qqy (TM r te tl th):=by
 intro pins s Y H Q I h;refine Subscript_ (dP Qcd λv s1 zz=>?_);obtain⟨x,H1,y,f,q1⟩:=zz;refine wpAny_Slice (dP (hl pins s1 Y H1 _ y q1) λc s2 ⟨l,H2,w,pl,i⟩=>dP (j pins s2 Y H2 _ w i) λa s3 zz=>?_);obtain⟨u,d,t,pu,g⟩:=zz;refine i2 ?_;have p:Inv X pins Y d {s3 with heap:=s3.heap.push {cls:=.type "slice",data:=.fields #[c,a,.none]}}:=t.kept λb z q=>ka _ q;obtain⟨T,id,o,k,n⟩:=m pins _ Y d x v c a l u _ Q p f (Heap.IsSliceOf.new ..) pl pu g;exact tail_any k o n (rfl)
def Zw(xs:B0)(lo hi:Co):B0:=(xs.drop Qte).take Qp1
theorem M7(xs:B0)(lo hi:Co):(Zw xs lo hi).length<=xs.length:=by
 unfold Zw;rw[o4,vh];lia
def an6(K:Frag):R2:=λx y H Q=>∃a b xs ys,x=.ref a/\y=.ref b/\tL K H a xs/\tL K H b ys/\xs≠[]/\xs.length+ys.length<=sizeLine ∧
 (ys=[]->Q Q3 H)/\(ys≠[]->∀p,H p=none->Q QbM (upd H p (.tup (xs++ys))))
variable{xs:B0}{us:B2}
theorem Vals.CB(r:QcL):us=[]↔xs=[]:=by
 cases r with
 | nil=>simp
 | cons _ _=>simp
theorem aej:BD X QgK (an6 X.K):=by
 intro pins s Y H x y v u Q I f e h;obtain⟨a,b,xs,ys,rfl,rfl,k,j,i,hz,q1,g⟩:=h;cases f;cases e;obtain⟨its,d,p1,_⟩:=I.tuple k;obtain⟨m,c,p2,_⟩:=I.tuple j;refine HT.aee p1 p2 (λz=>i (d.CB.1 z)) (λz=>⟨.ref a,H,I,rfl,q1 (c.CB.1 z)⟩) (λz=>?_) (by rw[<- d.length,<- c.length];exact hz);refine⟨.ref _,_,I.laid (λb l q=>ka _ q) (ik _) ?_,rfl,g (λw=>z (c.CB.2 w)) _ Qc1⟩;exact⟨ by simp_all,_,d.append c,IsTup.new _ _⟩
noncomputable def Zx(n:Nat)(i:Int):Option Nat:=if 0<=i then(if i<n then some i.toNat else none) else if -(n:Int)<=i then some (i+n).toNat else none
variable{α:Type}
def xq(xs:Qaa)(i:Int):Option α:=(Zx xs.length i).bind λj=>xs[j]?
variable{n:Nat}
theorem Jl{i:Int}{j:Nat}(h:Zx n i=some j):seqIndex? i n=some j/\j<n /\ -(n:Int)<=i/\i<n:=by
 unfold Zx at h;by_cases h0:0<=i
 .rw[cq h0]at h;by_cases h1:i<n
  .rw[cq h1]at h;have e:=l5 h;exact⟨by rw[seqIndex_of h0 h1,e],We,We,h1⟩
  simp_all
 .rw[bX h0]at h;by_cases h1:-n<=i
  .rw[cq h1]at h;have e:=l5 h;exact⟨by rw[seqIndex_neg We h1,e],We,h1,We⟩
  simp_all
theorem Jm{xs:Qaa}{i:Int}{v:α}(h:xq xs i=some v):∃j,seqIndex? i xs.length=some j/\xs[j]? = some v/\j<xs.length /\ -(xs.length:Int)<=i/\i<xs.length:=by
 unfold xq at h;cases e:Zx _ i with
 | none=>rw[e]at h;cases h
 | some j=>
  rw[e]at h;obtain⟨h1,h2,b,a⟩:=Jl e;exact⟨j,h1,h,h2,b,a⟩
theorem c9{xs:Qaa}{j:Nat}{v:α}(h:xs[j]? = some v):xq xs (j:Int)=some v:=by
 have a:=(lr.1 h).1;have e:Zx xs.length j=some j:=by
  unfold Zx;simp_all
 unfold xq;rw[e];exact h
def vz(b:Expr):Prop:=∀o i,subscripted b false o i=operate [o,i] (getItem o i)
def Hd(X:Cx)(r:R2):Prop:=
 ∀(value slice:Expr) (pins:BC) (s:Qb) (Y:St) (H:Hp) (x y:V) (v u:Value) (Q:VK),Inv X pins Y H s->RelV x v->RelV y u->r x y H Q →
  subscripted slice false v u=operate [v,u] (getItem v u)->wpAny Qe X.A (subscriptTail value slice v u) Qa9 X.xe s
abbrev _root_.Ee:=V->B0->Hp->VK->Prop
def Hc(X:Cx)(id:Qbf)(r:Ee):Prop:=
 ∀(pins:BC) (s:Qb) (Y:St) (H:Hp) (x:V) (xs:B0) (v:Value) (us:B2) (Q:VK),Inv X pins Y H s->RelV x v->Vals xs us->r x xs H Q →
  wpAny Qe X.A Qt6 Qa9 X.xe s
section
variable{a b:Expr}{ta tb:TE}
noncomputable def M8{r:R2}(e:Hd X r)(g:QbP)(f:Qfz)(hs:vz b):PE X (.Subscript a b pos) QjR:=λpins s Y H Q I h=>Subscript_ (JU g f I h λv u s2 x y H2 i d c q=>e a b pins s2 Y H2 x y v u Q i d c q (hs _ _))
def Y1(K:Frag):R2:=λx y H Q=>∃p xs i v,x=.ref p/\y=.int i/\mJ K H p xs/\xq xs i=some v/\Q v H
def Y0(K:Frag):R2:=λx y H Q=>∃p xs i v,x=.ref p/\y=.int i/\tL K H p xs/\xq xs i=some v/\Q v H
def YX:R2:=λx y H Q=>∃z i c,x=.str z/\y=.int i/\z.length<=sizeLine/\xq z.cps.toList i=some c/\Q (.str ⟨#[c]⟩) H
theorem Uy:Hd X (Y1 X.K):=by
 intro value slice pins s Y H x y v u Q I b a h hs;obtain⟨p,xs,i,z,rfl,rfl,c,he,q⟩:=h;cases b;obtain⟨t,rfl⟩:=a;obtain⟨its,r,pl,hz⟩:=I.list c;obtain⟨j,h1,h2,k,f,e⟩:=Jm he;obtain⟨w,l,g⟩:=r.get h2;have hl:=r.length;have hn:=Al;have fin:EP X pins Y Q w s:=⟨z,H,I,g,q⟩;by_cases h0:0<=i
 .have d:i.toNat=j:=by
   rw[seqIndex_of h0 e]at h1;grind
  exact item_listR pl.isList h0 We WA fin hs
 .have d:(i+its.toArray.size).toNat=j:=by
   rw[seqIndex_neg We f]at h1;simp_all
  exact subscriptTail_builtinR pl.isList.typeIs slot_list_getitem.lookup
   (wpAny_getItem_list_neg pl.isList We WA We WA ⟨rfl,fin⟩) hs
theorem Zy:Hd X (Y0 X.K):=by
 intro value slice pins s Y H x y v u Q I b a h hs;obtain⟨p,xs,i,z,rfl,rfl,c,he,q⟩:=h;cases b;obtain⟨t,rfl⟩:=a;obtain⟨its,r,pl,hz⟩:=I.tuple c;obtain⟨j,h1,h2,g,f,e⟩:=Jm he;obtain⟨w,k,d⟩:=r.get h2;have hl:=r.length;have hn:=Al;have fin:EP X pins Y Q w s:=⟨z,H,I,d,q⟩;exact subscriptTail_builtinR pl.typeIs slot_tuple_getitem.lookup
  (getItem_tuple (j:=j) pl We We WA WA ⟨rfl,fin⟩) hs
theorem ajt:Hd X YX:=by
 intro value slice pins s Y H x y v u Q I b a h hs;obtain⟨z,i,c,rfl,rfl,hz,he,q⟩:=h;obtain⟨t,rfl⟩:=b;obtain⟨t',rfl⟩:=a;obtain⟨j,h1,h2,f,e,d⟩:=Jm he;have hl:z.cps.toList.length=z.length:=rfl;rw[hl]at h1 e d;have hn:=Al;exact tail_any (typeIs_str s z t) slot_str_getitem.lookup (getItem_str (c:=c) WB WA ⟨.str ⟨#[c]⟩,H,I.tok _,⟨_,rfl⟩,q⟩) hs
noncomputable def Qz(its:B2)(n j:Nat)(u:Value):Obj.mapSeq (·.setIfInBounds j u) {cls:=.type "list",data:=.seq its.toArray n}={cls:=.type "list",data:=.seq (its.set j u).toArray n}:=by
 simp[Obj.mapSeq]
theorem Inv.lst{pins:BC}{Y:St}{H:Hp}{s:Qb}{p:Addr}(I:QE)(h:H p=some Qbo) :
  ∃(its:B2) (n:Nat),Vals xs its/\s.heap.get? p=some {cls:=.type "list",data:=.seq its.toArray n}/\xs.length<=sizeLine:=by
 obtain⟨z,its,n,r,e⟩:=I.cR p _ h;exact⟨its,n,r,e,z⟩
theorem Inv.aju{pins:BC}{Y:St}{H:Hp}{s:Qb}{p:Addr}{ys:B0}{its a:B2}{c:Nat}{f:Obj->Obj}(I:QE)(h:H p=some Qbo)
  (d:s.heap.get? p=some {cls:=.type "list",data:=.seq its.toArray n}) (hf:f {cls:=.type "list",data:=.seq its.toArray n}={cls:=.type "list",data:=.seq a.toArray c}) (r:Vals ys a) (hz:Qnd) (t:Nat) :
  Inv X pins Y (upd H p Qj0) {s with heap:=s.heap.update p f,toks:=t}:=by
 have e:(s.heap.update p f).get? p=some {cls:=.type "list",data:=.seq a.toArray c}:=by
  rw[vr f d (by rw[hf]<;>rfl),hf]
 refine I.write (by rw[h];trivial) Qae (λb u g q=>(vu _ _ (ml g)).trans q) ⟨_,e⟩ ?_;exact⟨hz,a,c,r,e⟩
def an7:V->V->V->Hp->Qkh->Prop:=λo i v H Q=>∃p xs k j,o=.ref p/\i=.int k/\H p=some Qbo/\Zx xs.length k=some j/\Q (upd H p (.lst (xs.set j v)))
theorem set_list:NI X an7:=by
 intro pins s Y H o i v x y u Q I f g e h;obtain⟨p,xs,k,j,rfl,rfl,c,l,q⟩:=h;cases f;obtain⟨t,rfl⟩:=g;obtain⟨its,n,r,a,hz⟩:=I.lst c;obtain⟨h1,h2,w,m⟩:=Jl l;have hl:=r.length;have hn:=Al;have d:=
  I.aju c a (Qz its n j u) (r.set e j) WA s.toks
 by_cases h0:0<=k
 .have b:k.toNat=j:=by
   rw[seqIndex_of h0 m]at h1;grind
  exact PySem.W.ki_setAt a h0 We WA (b▸⟨_,d,q⟩)
 .have b:(k+its.toArray.size).toNat=j:=by
   rw[seqIndex_neg We w]at h1;simp_all
  exact PySem.W.ki_setBack a We WA We (b▸⟨_,d,q⟩)
theorem Jo(lo hi:Co)(n:Nat):(sliceBounds lo hi none n).1=((HT.F9 n 0 lo:Nat):Int)/\(sliceBounds lo hi none n).2.1=((HT.F9 n n hi:Nat):Int)/\(sliceBounds lo hi none n).2.2=1:=by
 refine⟨?_,?_,rfl⟩
 .cases lo with
  | none=>simp[sliceBounds,HT.F9]
  | some i=>
   simp[sliceBounds,HT.F9,if_true];by_cases h:i<0
   .simp only[h,if_true]<;>lia
   .simp[h]<;>lia
 .cases hi with
  | none=>simp[sliceBounds,HT.F9]
  | some i=>
   simp[sliceBounds,HT.F9,if_true];by_cases h:i<0
   .simp only[h,if_true]<;>lia
   .simp[h]<;>lia
def Ga(its:B2)(lo hi:Co):slicePick its.toArray lo hi none=((its.drop (HT.F9 its.length 0 lo)).take (HT.F9 its.length its.length hi-HT.F9 its.length 0 lo)).toArray:=by
 obtain⟨h1,h2,a⟩:=Jo lo hi _;unfold slicePick;rw[h1,h2,a];simp only[sliceRange_one,pick_run]<;>rfl
def YU(K:Frag):V->Co->Co->Hp->VK->Prop:=λx lo hi H Q=>∃a xs,x=.ref a/\mJ K H a xs/\∀p,H p=none->Q QbM (upd H p (.lst (Zw xs lo hi)))
theorem aek:S8 X (YU X.K):=by
 intro pins s Y H x v g f lo hi sl Q I d hs pl pu h;obtain⟨a,xs,rfl,e,q⟩:=h;cases d;obtain⟨its,r,c,hz⟩:=I.list e;have hlen:=r.length;refine⟨ _,_,slot_list_getitem.lookup,c.isList.typeIs,?_⟩;refine wpAny_getItem_list_slice c.isList hs pl pu .none Wp ?_ WB;rw[Ga,<- hlen];refine⟨.ref _,_,I.laid (λb i q=>ka _ q) (ik _) ?_,rfl,q _ Qc1⟩;exact⟨ky (M7 xs lo hi) hz,_,0,(r.drop _).take _,l6 _ rfl⟩
noncomputable def wC:V->Bool
 | .non=>true
 | .bl _=>true
 | .int _=>true
 | .str _ => true
 | _=>false
noncomputable def Zz:V->V->Bool
 | .non,.non=>true
 | .bl a,.bl b=>a==b
 | .bl a,.int b=>(if a then 1 else 0)==b
 | .int a,.bl b=>a==(if b then 1 else 0)
 | .int a,.int b=>a==b
 | .str a, .str b => a == b
 | _,_=>false
theorem ajv{A:Qas}{s:Qb}{y x:V}{u v:Value}(d:QbQ)(c:Qhz)(e:wC y=true)(fx:wC x=true):SeqAt.EqAt A s u v (Zz y x):=by
 cases y with
 | non=>
  cases d;cases x with
  | non=>cases c;exact SeqAt.EqAt.same _
  | bl b=>cases c;exact SeqAt.EqAt.none_bool b
  | int b=>obtain⟨t,rfl⟩:=c;exact SeqAt.EqAt.none_int b t
  | str b=>obtain⟨t,rfl⟩:=c;exact SeqAt.EqAt.none_str b t
  | _=>exact absurd (show false=true from fx) l9
 | bl a=>
  cases d;cases x with
  | non=>cases c;exact SeqAt.EqAt.bool_none a
  | bl b=>cases c;exact SeqAt.EqAt.bool_bool a b
  | int b=>obtain⟨t,rfl⟩:=c;exact SeqAt.EqAt.bool_int a b t
  | str b=>obtain⟨t,rfl⟩:=c;exact SeqAt.EqAt.bool_str a b t
  | _=>exact absurd (show false=true from fx) l9
 | int a=>
  obtain⟨t',rfl⟩:=d;cases x with
  | non=>cases c;exact SeqAt.EqAt.int_none a t'
  | bl b=>cases c;exact SeqAt.EqAt.int_bool a t' b
  | int b=>obtain⟨t,rfl⟩:=c;exact SeqAt.EqAt.int_int a t' b t
  | str b=>obtain⟨t,rfl⟩:=c;exact SeqAt.EqAt.int_str a t' b t
  | _=>exact absurd (show false=true from fx) l9
 | str a=>
  obtain⟨t',rfl⟩:=d;cases x with
  | non=>cases c;exact SeqAt.EqAt.str_none a t'
  | bl b=>cases c;exact SeqAt.EqAt.str_bool a t' b
  | int b=>obtain⟨t,rfl⟩:=c;exact SeqAt.EqAt.str_int a t' b t
  | str b=>obtain⟨t,rfl⟩:=c;exact SeqAt.EqAt.str_str a t' b t
  | _=>exact absurd (show false=true from fx) l9
 | _=>exact absurd (show false=true from e) l9
def sx(x:V)(u:Value):Bool:=match u with
 | .none=>Zz .non x
 | .bool b=>Zz Qd5 x
 | .int i _=>Zz Qba x
 | .str z _ => Zz (.str z) x
 | _=>false
theorem ZC{x y:V}{u:Value}(r:QbQ)(f:wC y=true):sx x u=Zz y x:=by
 cases y with
 | non=>cases r;rfl
 | bl b=>cases r;rfl
 | int i=>obtain⟨t,rfl⟩:=r;rfl
 | str z=>obtain⟨t,rfl⟩:=r;rfl
 | _=>exact absurd (f) l9
theorem yF{x:V}:∀{xs:B0} {us:B2},Vals xs us->xs.all wC=true->us.any (sx x)=xs.any λy=>Zz y x
 | _,_,.nil,_=>rfl
 | y::xs,u::us,.cons r t,f=>by
  rw[List.all_cons,lj]at f;rw[pf,pf,ZC r f.1,yF t f.2]
theorem tO{A:Qas}{s:Qb}{x:V}{v:Value}(b:Qhz)(fx:wC x=true):∀{xs:B0} {us:B2},Vals xs us->xs.all wC=true->∀u∈us,SeqAt.EqAt A s u v (sx x u)
 | _,_,.nil,_=>λu a=>by cases a
 | y::xs,u::us,.cons r t,f=>λc a=>by
  rw[List.all_cons,lj]at f;obtain rfl|a:=fP.1 a
  .rw[ZC r f.1];exact ajv r b f.1 fx
  .exact tO b fx t f.2 c a
def sm(x:V)(xs:B0):Bool:=xs.any λy=>Zz y x
def Md(K:Frag)(neg:Bool):R2:=λx y H Q=>∃p xs,y=.ref p/\(mJ K H p xs\/tL K H p xs)/\wC x=true/\xs.all wC=true/\Q (.bl (if neg then !sm x xs else sm x xs)) H
theorem HC:BD X (compareOp .In) (Md X.K false):=by
 intro pins s Y H x y v u Q I b c h;obtain⟨p,xs,rfl,a,fx,fs,q⟩:=h;cases c;obtain a|a:=a
 .obtain⟨its,r,pl,hz⟩:=I.list a;refine SeqAt.in_listAt _ pl.isList Qih ⟨.bl _,H,I,rfl,?_⟩;rw[show its.toArray.any _=its.any (sx x) by simp,yF r fs];exact q
 .obtain⟨its,r,pl,hz⟩:=I.tuple a;refine SeqAt.in_tupleAt _ pl Qih ⟨.bl _,H,I,rfl,?_⟩;rw[show its.toArray.any _=its.any (sx x) by simp,yF r fs];exact q
theorem mK:BD X Quu (Md X.K true):=by
 intro pins s Y H x y v u Q I b c h;obtain⟨p,xs,rfl,a,fx,fs,q⟩:=h;cases c;obtain a|a:=a
 .obtain⟨its,r,pl,hz⟩:=I.list a;refine SeqAt.notIn_listAt _ pl.isList Qih ⟨.bl _,H,I,rfl,?_⟩;rw[show its.toArray.any _=its.any (sx x) by simp,yF r fs];exact q
 .obtain⟨its,r,pl,hz⟩:=I.tuple a;refine SeqAt.notIn_tupleAt _ pl Qih ⟨.bl _,H,I,rfl,?_⟩;rw[show its.toArray.any _=its.any (sx x) by simp,yF r fs];exact q
theorem yG:nj X QuU (λxs H Q=>∃p ys,xs=[.ref p]/\QrR/\Q (.int ys.length) H):=by
 intro pins s Y H xs us Q I r h;obtain⟨p,ys,rfl,a,q⟩:=h;obtain⟨u,rfl,c⟩:=vals1 r;cases c;have hn:=Al;obtain a|a:=a
 .obtain⟨its,b,pl,hz⟩:=I.list a;have hlen:=b.length;exact Calls.call_len_list pl.isList (by simp only[m3]<;>lia) ⟨.int _,H,I.tok _,⟨s.toks+1,by simp_all ⟩,q⟩
 .obtain⟨its,b,pl,hz⟩:=I.tuple a;have hlen:=b.length;exact len_tuple pl (by simp only[m3]<;>lia) ⟨.int _,H,I.tok _,⟨s.toks+1,by simp_all ⟩,q⟩
theorem yH:nj X QgA (λxs H Q=>∃p ys,xs=[.ref p]/\QrR/\∀l,H l=none->Q Qfk Qv1):=by
 intro pins s Y H xs us Q I r h;obtain⟨p,ys,rfl,c,q⟩:=h;obtain⟨u,rfl,i⟩:=vals1 r;cases i;have fin:∀(its:Qec),Vals ys its->ys.length<=sizeLine->∀(h':Heap) (g:Nat),(∀b o',s.heap.get? b=some o'->h'.get? b=some o') →
   h'.get? _=some _->EP X pins Y Q _ _:=λits a hz h' g kp e=>
  ⟨.ref _,_,I.laid (t':=s.toks) kp (ik _) (show dU _ X.w _ h' _ Qj0 from⟨hz,its,g,a,e⟩),rfl,q _ Qc1⟩
 obtain c|c:=c
 .obtain⟨its,a,pl,hz⟩:=I.list c;have hlen:=a.length;obtain⟨o,d,f,n,hd⟩:=pl.isList;exact call_list_seq p Qae d f hd (fin its a hz) WB
 .obtain⟨its,a,pl,hz⟩:=I.tuple c;have hlen:=a.length;obtain⟨o,d,f,n,hd⟩:=pl;exact call_list_seq p Qay d f hd (fin its a hz) WB
theorem wF:nj X Qvm (λxs H Q=>∃p ys,xs=[.ref p]/\((mJ X.K H p ys/\∀l,H l=none->Q Qfk (upd H l Qkr))\/(tL X.K H p ys/\Q QbM H))):=by
 intro pins s Y H xs us Q I r h;obtain⟨p,ys,rfl,h⟩:=h;obtain⟨u,rfl,f⟩:=vals1 r;cases f;obtain⟨c,q⟩|⟨c,q⟩:=h
 .obtain⟨its,a,pl,hz⟩:=I.list c;have hlen:=a.length;refine call_tuple_list pl.isList (λh' kp=>?_) WB;have d:=I.kept (t':=s.toks) kp;have g:=
   d.laid (t':=s.toks) (λb o e=>ka _ e) (ik _) (show dU _ X.w _ _ _ Qkr from⟨hz,its,a,IsTup.new _ _⟩)
  exact⟨.ref _,_,g,rfl,q _ (d.cR.fresh (ik _))⟩
 .obtain⟨its,a,pl,hz⟩:=I.tuple c;exact call_tuple_same pl ⟨.ref p,H,I,rfl,q⟩
def Hn(K:Frag)(T:Qbf)(x:V)(H:Hp):Prop:=match x with
 | .str _ => T = "str"
 | .int _=>T="int"
 | .ref p=>(T="list" /\ ∃xs,mJ K H p xs)\/(T="tuple" /\ ∃o,K.lookup p=some o/\o.cls=.type "tuple" /\ o.dict=none) ∨
   (T="dict" /\ ((∃kvs,H p=some Qbp)\/∃kvs,H p=some Qdf))\/(T="set" /\ ∃S n,H p=some (.set S n))
 | _=>False
theorem ZD{pins:BC}{Y:St}{H:Hp}{s:Qb}{T:Qbf}{x:V}{v:Value}(I:QE)(r:Qhz)(ty:Hn X.K T x H) :
  s.TypeIs v T/\∀a,v=.ref a->∃d,s.heap.get? a=some d/\d.dict=none:=by
 cases x with
 | str z=>
  obtain⟨t,rfl⟩:=r;cases (ty);exact⟨typeIs_str s z t,λ_ e=>nomatch e⟩
 | int i=>
  obtain⟨t,rfl⟩:=r;cases (ty);exact⟨typeIs_int s i t,λ_ e=>nomatch e⟩
 | ref p=>
  cases r;obtain⟨rfl,xs,f⟩|⟨rfl,o,b,g,hd⟩|⟨rfl,b⟩|⟨rfl,S,n,b⟩:=ty
  .obtain⟨its,_,pl,_⟩:=I.list f;refine⟨pl.isList.typeIs,λa e=>?_⟩;obtain⟨o,n,e,c,hd,_⟩:=pl;simp_all
  .refine⟨⟨o,I.Ah p o b,g⟩,λa e=>?_⟩;cases e;exact⟨o,I.Ah _ o b,hd⟩
  .have z:∃o,s.heap.get? p=some o/\o.ExactDict:=by
    obtain⟨kvs,b⟩|⟨kvs,b⟩:=b
    .obtain⟨_,_,_,_,o,_,_,e,ex,_⟩:=I.cR p _ b;simp_all
    .obtain⟨_,_,_,_,o,_,_,e,ex,_⟩:=I.cR p _ b;simp_all
   obtain⟨o,e,ex⟩:=z;refine⟨⟨o,e,ex.1⟩,λa e2=>?_⟩;cases e2;exact⟨o,e,ex.2.1⟩
  .obtain⟨o,_,_,_,e,ex,_⟩:=I.cR p _ b;refine⟨⟨o,e,ex.1⟩,λa e2=>?_⟩;cases e2;exact⟨o,e,ex.2.1⟩
 | _=>exact False.elim ty
noncomputable def YP(K:Frag)(T:Qbf)(r:Ee)(to:TE):TE:=λY H Q=>to Y H λx H1=>Hn K T x H1/\r x [] H1 Q
noncomputable def UH(K:Frag)(T:Qbf)(r:Ee)(to:TE)(t:TA):TE:=λY H Q=>to Y H λx H1=>Hn K T x H1/\t Y H1 λxs H2=>r x xs H2 Q
variable{o:Expr}{es:Ch}{to:TE}{t:TA}{name:Str}{apos Ce:Pos}{T id:Qbf}{r:Ee}
def ajy(pa:PlainAttrs T)(slot:Slot T name id)(b:Qqs)(hm:Hc X id r)(f:PE X o to)
  (e:AS X o name:=by rfl) (a:Qsj:=by rfl):PE X (.Call QsK [] [] Ce) (YP X.K T r to):=by
 intro pins s Y H Q I h;refine wpAny_Call_method0_late e a (dP Qgn λv s1 zz=>?_);obtain⟨x,H1,d,c,ty,q1⟩:=zz;obtain⟨h1,h2⟩:=ZD d c ty;exact⟨T,id,pa,slot,b,h1,h2,Calls.callWith_builtin rfl (PySem.evalArgs_none (hm pins s1 Y H1 x [] v [] Q d c .nil q1))⟩
def HD(pa:PlainAttrs T)(slot:Slot T name id)(b:Qqs)(hm:Hc X id r)(l:PE X o to)(m:QfE)
  (k:AS X o name:=by rfl)
  (g:((backTo Ce QeD).all Qjp&&(backToKw Ce QhJ).all QiA
   && decide ((e::es).length+([]:Ev).length+QhZ<30))=true:=by rfl)
  (a:Qsj:=by rfl) (hs:Qav:=by rfl) (p:AL X Ce es:=by rfl) :
  PE X (.Call QsK Qau [] Ce) (UH X.K T r to t):=by
 intro pins s Y H Q I h;refine wpAny_Call_method_late k g a rfl (dP (l pins s Y H _ I h) λv s1 zz=>?_);obtain⟨x,H1,f,c,ty,q1⟩:=zz;obtain⟨h1,h2⟩:=ZD f c ty;refine⟨T,id,pa,slot,b,h1,h2,?_⟩;have d:=m Ce pins s1 Y H1 _ f q1;rw[hs]at d ⊢;refine Calls.callWith_builtin (‹_›) (Calls.evalArgs_plain ?_);exact dP d λus s2 ⟨vs,H2,n,i,j⟩=>hm pins s2 Y H2 x vs v us Q n c i j
end
def xy(X:Cx)(id:Qbf)(r:Ee):Prop:=
 ∀(pins:BC) (s:Qb) (Y:St) (H:Hp) (x:V) (xs:B0) (v:Value) (us:B2) (Q:VK),Inv X pins Y H s->RelV x v->Vals xs us->r x xs H Q →
  wpAny Qe X.A Qt6 Qa9 X.xe s
variable{x:V}
theorem Vals.one(h:Vals [x] us):∃u,us=[u]/\RelV x u:=by
 cases h with
 | cons r h=>cases h;exact⟨_,rfl,r⟩
theorem Vals.two{y:V}(h:Vals [x,y] us):∃u v,us=[u,v]/\RelV x u/\RelV y v:=by
 cases h with
 | cons r h=>cases h with
  | cons q h=>cases h;exact⟨_,_,rfl,r,q⟩
theorem Vals.zero:∀{us:B2},Vals [] us->us=[]
 | _,.nil=>rfl
theorem Vals.dropLast(h:QcL):Vals xs.dropLast us.dropLast:=by
 induction h with
 | nil=>exact .nil
 | cons r t a=>
  cases t with
  | nil=>exact .nil
  | cons q t'=>exact .cons r a
theorem Vals.rep{xs:B0}{us:B2}(h:QcL):∀k:Nat,Vals (List.replicate k xs).flatten (List.replicate k us).flatten
 | 0=>.nil
 | k+1=>Vals.append h (Vals.rep h k)
theorem foldl_rep(its:B2):∀(k:Nat) (acc:B2),
  List.foldl (λb a=>b++a) acc.toArray (List.replicate k its.toArray)=(acc++(List.replicate k its).flatten).toArray
 | 0,acc=>by simp
 | k+1,acc=>by
  have e:acc.toArray++its.toArray=(acc++its).toArray:=by simp
  have e2:(acc++its)++(List.replicate k its).flatten=acc++(List.replicate QaM its).flatten:=by
   rw[List.replicate_succ,List.flatten_cons,i3]
  rw[<- e2,<- foldl_rep its k _,<- e,List.replicate_succ,List.foldl_cons]
variable{pins:BC}{Y:St}{H:Hp}{s:Qb}{l:Addr}{ys:B0}
theorem Inv.Fu{its a:B2}{f:Cl->Cl}{t':Nat}(I:QE)(d:H l=some Qbo)
  (e:s.heap.get? l=some {cls:=.type "list",data:=.seq its.toArray n}) (hf:f its.toArray=a.toArray) (hv:Vals ys a) (hz:Qnd) :
  Inv X pins Y Qv1 {s with heap:=s.heap.update l (Obj.mapSeq f),toks:=t'}:=by
 have q:=PySem.IsL.update e f;rw[hf]at q;refine I.write (d▸trivial) Qae (λg u c b=>(vu _ _ (ml c)).trans b) ⟨_,q⟩ ?_;exact⟨hz,a,_,hv,q⟩
theorem Inv.NJ{its:B2}{t':Nat}(I:QE)(hv:Vals ys its)(hz:Qnd) :
  Inv X pins Y (upd H s.heap.objs.size Qj0) {s with heap:=s.heap.push {cls:=.type "list",data:=.seq its.toArray},toks:=t'}:=
 I.laid QiF (ik _) ⟨hz,its,0,hv,l6 _ rfl⟩
theorem Inv.fresh(I:QE):H s.heap.objs.size=none:=I.cR.fresh (ik _)
theorem Inv.Fs(I:QE)(a:H l=some Qbo):xs.length<=sizeLine/\∃(its:B2) (n:Nat),Vals xs its/\xs.length=its.length/\s.heap.get? l=some {cls:=.type "list",data:=.seq its.toArray n}:=by
 obtain⟨z,its,n,r,e⟩:=I.cR l _ a;exact⟨z,its,n,r,r.length,e⟩
theorem Dr(h:n<=sizeLine):Builtin.List.listTooLong n=false:=kv We
def aen:V->B0->Hp->VK->Prop:=λx vs H Q=>∃l xs y,x=.ref l/\vs=[y]/\H l=some Qbo/\xs.length<sizeLine/\Q .non (upd H l (.lst (xs++[y])))
theorem vA:xy X "list.append" aen:=by
 intro pins s Y H x vs v us Q I b c h;obtain⟨l,xs,y,rfl,rfl,a,hz,q⟩:=h;cases b;obtain⟨u,rfl,d⟩:=c.one;obtain⟨z,its,n,r,hl,e⟩:=I.Fs a;refine rp F.slot_list_append ⟨_,e,rfl⟩ F.entry_list_append (F.args_list_append_2 _ _) (PySem.list_append l _ n u WB) ⟨e,?_⟩;refine⟨.non,_,I.Fu a e Wp (r.append (.cons d .nil)) ?_,rfl,q⟩;grind
def YO:V->B0->Hp->VK->Prop:=λx vs H Q=>∃l xs y,x=.ref l/\vs=[]/\H l=some Qbo/\xs[xs.length-1]? = some y/\Q y (upd H l (.lst xs.dropLast))
theorem ajz:xy X "list.pop" YO:=by
 intro pins s Y H x vs v us Q I d f h;obtain⟨l,xs,y,rfl,rfl,c,i,q⟩:=h;cases d;have b:=f.zero;subst b;obtain⟨z,its,n,r,hl,e⟩:=I.Fs c;obtain⟨u,j,g⟩:=r.get i;have a:its.toArray[its.toArray.size-1]? = some u:=by simp_all
 refine rp F.slot_list_pop ⟨_,e,rfl⟩ F.entry_list_pop (F.args_list_pop_1 _) (MeetsSeq.list_pop_last l _ n u a WA) ⟨e,?_⟩;refine⟨y,_,I.Fu c e ?_ r.dropLast ?_,g,q⟩
 .simp_all
 .rw[List.length_dropLast];lia
def len_rep(xs:Qaa)(k:Nat):(List.replicate k xs).flatten.length=k*xs.length:=by simp
end L2
namespace Att
open PySem PySem.W PySem.Calls PyProof.Rows
def Cg{P:Params}{h:Heap}:∀(ns:AT) (vs:B2),WellAll P h vs Quv->IntsAre vs ns:=by
 intro ns
 induction ns with
 | nil=>
  intro vs w;cases w;exact .nil
 | cons n ns c=>
  intro vs w;cases w with
  | cons a b=>
   cases a;exact .cons _ _ (c _ b)
theorem WC{l:OpenLaw}{n:Nat}(hn:QoW){P:Params}{h:Heap}{args:List WData}{vals:B2}
  (e:l.row.toRowW.claim.pre args=true) (m:WellAll P h vals args) :
  ∃a vs ns,vals=[Value.ref a]/\args=[WData.list Quv]/\h.get? a=some {cls:=.type "list",data:=.seq vs.toArray}/\IntsAre vs ns/\ns.length<=n:=by
 have xu:=(pre_splitW e).1;have j:=(pre_splitW e).2;obtain⟨d,r,rfl,h1,h2⟩:=hasAllW_cons xu;obtain rfl:=hasAllW_nil h2;obtain⟨xs,rfl,k⟩:=hasW_list h1;obtain⟨ns,rfl⟩:=items_int k;have hlen:ns.length<=n:=by
  have b:=by
   have b:=(holds_andW j).1;rw[hn]at b;exact b
  have o:=condW_of b (w_not (w_lt w_lit (w_len_list (w_arg rfl))));simp_all
 cases m with
 | cons g f=>
  cases f;cases g with
  | list i c=>exact⟨_,_,ns,rfl,rfl,i,Cg ns _ c,hlen⟩
def WD(l:OpenLaw)(args:List WData):l.row.toRowW.claim.post args QgE args=true:=
 postW_of
  (rfl)
  (w_eq_bool (w_res rfl) w_lit) rfl
def M9{l:OpenLaw}{n:Nat}{q:Qag}{loose:At}{k:Qnq}{j:QmE}{d:DefRec}
  (hn:QoW) (g:QmQ)
  (call:∀(w:World) (iE b:Qb) (mg mb:Bi) (c:Addr) (o:Obj) (pm cd doc:Value) (a:Addr) (vs:B2) (ns:AT),
   Ground q loose [] k w iE mg mb b.heap->j w b.heap →
   b.heap.get? c=some o->o.data=.func (docDef d.name d.params d.body d.scope pm cd doc)->b.heap.CodeRec cd d.name->mg d.name=some Qfl →
   b.heap.get? a=some {cls:=.type "list",data:=.seq vs.toArray}->IntsAre vs ns->ns.length<=n->b.gens=#[] →
   codeAny (model l.prog w) callerA (.call Qfl ⟨[.ref a],[]⟩) (λr s'=>r=.ok (.ret QgE)/\OldK b.heap s'.heap/\s'.os=b.os/\AllBare s'.gens) b) :
  WalkO q loose k j l.row.toRowW d [] Qls:=by
 intro w iE b mg mb G Y c o pm cd doc dV kV t hd iV hD e v args vals as m i p z u;obtain rfl:dV=.none:=Dflts.none hD g;obtain rfl:kV=.none:=Dflts.noKw hD;obtain⟨a,vs,ns,rfl,rfl,h,hints,hlen⟩:=WC hn m z;refine enter_call (codeAny_mono (call w iE b mg mb c o pm cd doc a vs ns G Y t (fd_plain hd) iV e h hints hlen v) λr s' s=>?_);obtain⟨rfl,h2,y,x⟩:=s;exact⟨.inl ⟨ _,_,[],rfl,λ_=>rfl,.bool true,WD l _,λ_=>⟨List.Pairwise.nil,λ_ hm=>(nomatch hm)⟩⟩,h2,y,x⟩
noncomputable def ledger(h:Heap)(L d:Addr):BC:=(List.range h.objs.size).filterMap λa=>if a=L\/a=d then none else(h.get? a).map λo=>(a,o)
end Att
namespace L2
open PySem PySem.Spec PyProof.Rows
theorem HF:∀{vs:B2} {ns:AT},IntsAre vs ns->Vals QcC vs
 | _,_,.nil=>.nil
 | _,_,.cons n t h=>.cons ⟨t,rfl⟩ (HF h)
noncomputable def inClass(s:Stmt)(j:Nat):Stmt:=match s with
 | .ClassDef _ _ _ body _ _ _ _ _ _ _=>body.getD j Qsk
 | _=>.Pass ⟨0,0,0,0⟩
noncomputable def gW(s:Stmt):Arguments:=match s with
 | .FunctionDef _ a _ _ _ _ _ _ _ _=>a
 | _=>{posonlyargs:=[],args:=[],vararg:=none,kwonlyargs:=[],kw_defaults:=[],kwarg:=none,defaults:=[]}
noncomputable def bN(s:Stmt):CI:=match s with
 | .FunctionDef _ _ b _ _ _ _ _ _ _=>b
 | _=>[]
noncomputable def ao(s:Stmt):Scope:=match s with
 | .FunctionDef _ _ _ _ _ _ sc _ _ _=>sc
 | _=>{kind:=.function,names:=[],isGenerator:=false,isCoroutine:=false}
noncomputable abbrev oj:YW:=λ_ _ _ _ _ _=>False
noncomputable abbrev E0:XK:=λ_ _ _=>False
variable{X:Cx}
noncomputable def Ds:Passes oj X E0:=λ_ _ _ _ _ _ _ h=>h.elim
structure Uz(K:Frag)(x qual:Str)(st:Stmt)(f:Addr)(fd:QaT):Prop where
 ex:∃(dV oc:Value) (od:Do) (kV doc pm:Value) (an:Do) (eB ct:Value) (F3:D2),
  fd=fnOf x qual (gW st) Qbr QaX dV kV doc pm an eB ct/\K.lookup f=some ⟨oc,od,.func fd,F3⟩/\codeIn K eB qual=true
 kp:keepIn K Qad=true
variable{P:Qag}{w:World}{K:Frag}{mg:Bi}{base:Heap}
theorem Uz.ok{x qual:Str}{st:Stmt}{f:Addr}{fd:QaT}{N ps:At}{k:Nat}{sp:Sp}(F:Qdr)(S:Qds)(len:∀vs H Q E,sp vs H Q E->vs.length=ps.length)
  (b:∀(eB:Value) (A:Qas) (outer:D1) (s:Qb) (H:Hp) (vs:B0) (Q:VK) (E:XK),fj k Qvn->sp vs H Q E →
   ∃t,Ql (tN oj P w K mg base N qual QaX f eB A outer s H E).Qe Qbr t/\t {nx:=λ_ H'=>Q .non H',rt:=Q} (start N vs) H):dz P w K mg base oj QaM f fd ps sp:=by
 obtain⟨dV,oc,od,kV,doc,pm,an,eB,ct,F3,rfl,lk,iV⟩:=F.ex;refine Ux lk iV S len λA outer s H vs Q E a c=>?_;obtain⟨t,h,q⟩:=b eB A _ s H vs Q E a c;exact⟨t,h.Qe,q⟩
theorem Uz.binds{x qual:Str}{st:Stmt}{f:Addr}{fd:QaT}{ps:At}(F:Qdr)(hd:fd.defaults=.none)
  (h:∀(kV doc pm:Value) (an:Do) (eB ct:Value) (us:B2),us.length=ps.length->bindArgs QfR ⟨us,[]⟩=pure QcG):Binds K fd ps []:=by
 obtain⟨dV,oc,od,kV,doc,pm,an,eB,ct,F3,rfl,lk,iV⟩:=F.ex;cases (show dV=.none from hd);exact .all (h kV doc pm an eB ct)
def ZE{x qual:Str}{st:Stmt}{f:Addr}{oc:Value}{od an:Do}{F3:D2}{kV doc pm eB ct:Value}(l:QqK)
  (c:QmY) (k:Qgx):Uz K x qual st f QfR:=⟨⟨.none,oc,od,kV,doc,pm,an,eB,ct,F3,rfl,l,c⟩,k⟩
noncomputable def cj{n:Nat}(h:n<=1000):n<sizeLine:=nq h Wm
def QB{A B:Prop}(h:B):if false=true then A else B:=‹_›
def QC{A B:Prop}(h:A):if true=true then A else B:=‹_›
def aB(H H':Hp):Prop:=∀b o,H b=some o->H' b=some o
theorem aB.refl(H:Hp):aB H H:=λ_ _ h=>h
variable{H:Hp}
theorem aB.trans{H1 H2:Hp}(a:aB H H1)(b:aB H1 H2):aB H H2:=λc o h=>b c o (a c o h)
variable{H':Hp}
theorem aB.free(e:QcN){l:Addr}(h:H' l=Option.none):H l=Option.none:=by
 cases q:H l with
 | none=>rfl
 | some o=>
  rw[e l o q]at h;cases h
variable{a:Addr}
theorem aB.seq{xs:B0}(e:QcN)(h:mJ K H a xs):mJ K H' a xs:=by
 rcases h with(h|⟨o,h⟩)|h
 .exact .inl (.inl QdC)
 .exact .inl QsZ
 .exact .inr h
section
variable{κ:Type}[DecidableEq κ]
noncomputable def iX(kvs:QbD)(k:κ):Option V:=(kvs.find? λa=>decide Qhy).map (·.2)
noncomputable def putK(kvs:QbD)(k:κ)(v:V):List (κ×V):=
 if QfU=true then kvs.map Qp2 else kvs++[(k,v)]
def nu{p:κ×V}{r:QbD}{k:κ}(e:p.1=k):iX (p::r) k=some p.2:=by simp[iX,nf,e]
def lD{p:κ×V}{r:QbD}{k:κ}(e:¬ p.1=k):iX (p::r) k=iX r k:=by simp[iX,nf,e]
theorem yI(k:κ):∀kvs:List (κ×V),QfU=(iX kvs k).isSome
 | []=>rfl
 | p::r=>by
  rw[pf];by_cases e:p.1=k
  .simp only[nu e,mu e,Bool.true_or,Option.isSome_some]
  .rw[lD e,kv e,Bool.false_or];exact yI k r
theorem BG(kvs:QbD)(k:κ)(v:V):(putK kvs k v).length<=kvs.length+1:=by
 unfold putK;split
 .rw[cK];lia
 .rw[ke,mi,List.length_nil];lia
def ZF{kvs:QbD}{k:κ}(v:V)(h:iX kvs k=none):putK kvs k v=kvs++[(k,v)]:=by
 unfold putK;rw[yI,h];exact bX Wm
theorem tK.qf{o:Qed}{u:Qg5}(r:tK o u):o.isSome=u.isSome:=by
 cases o with
 | none=>cases u with
  | none=>rfl
  | some _=>exact(show False from r).elim
 | some _=>cases u with
  | none=>exact(show False from r).elim
  | some _=>rfl
theorem tK.getD{o:Qed}{u:Qg5}{d:V}{d':Value}(r:tK o u)(rd:RelV d d'):RelV (o.getD d) (u.getD d'):=by
 cases o with
 | none=>cases u with
  | none=>exact rd
  | some _=>exact(show False from r).elim
 | some _=>cases u with
  | none=>exact(show False from r).elim
  | some _=>exact r
theorem KV.val{kvs:QbD}{vs:Qd9}(r:Qdq)(k:κ):tK Qki (valueAt vs k):=by
 unfold KV at r
 induction r with
 | nil=>exact True.intro
 | @cons p q ps qs h t c=>
  obtain⟨h1,h2⟩:=h;by_cases e:p.1=k
  .have a:q.1=k:=h1.symm.trans e;have b:valueAt (q::qs) k=some q.2:=by simp[valueAt,nf,a]
   rw[nu e,b];exact h2
  .have a:¬ q.1=k:=λz=>e Qnk;have b:valueAt (q::qs) k=valueAt qs k:=by simp[valueAt,nf,a]
   rw[lD e,b];exact c
theorem KV.any{kvs:QbD}{vs:Qd9}(r:Qdq)(k:κ):QfU=vs.any λa=>decide Qhy:=by
 unfold KV at r
 induction r with
 | nil=>rfl
 | cons h t b=>rw[pf,pf,b,h.1]
theorem KV.my{kvs:QbD}{vs:Qd9}(r:Qdq)(k:κ){y:V}{u:Value}(b:QbQ) :
  KV QpR (vs.map λa=>if a.1=k then(a.1,u) else a):=by
 unfold KV at r ⊢
 induction r with
 | nil=>exact .nil
 | @cons p q ps qs h t c=>
  rw[kn,kn];refine .cons ?_ c;obtain⟨h1,h2⟩:=h;by_cases e:p.1=k
  .rw[cq e,cq QuV];exact⟨h1,b⟩
  .rw[bX e,bX QvR];exact⟨h1,h2⟩
theorem KV.put{kvs:QbD}{vs:Qd9}(r:Qdq)(k:κ){y:V}{u:Value}(a:QbQ):KV (putK kvs k y) (stored vs k u):=by
 unfold putK stored;rw[r.any k];by_cases e:(vs.any λb=>decide (b.1=k))=true
 .rw[cq e,cq e];exact r.my k a
 .rw[bX e,bX e];exact Paired.snoc r ⟨rfl,a⟩
theorem KV.keys{kvs:QbD}{vs:Qd9}(r:Qdq):kvs.map (·.1)=vs.map (·.1):=by
 unfold KV at r
 induction r with
 | nil=>rfl
 | cons h t a=>rw[kn,kn,a,h.1]
theorem KV.length{kvs:QbD}{vs:Qd9}(r:Qdq):kvs.length=vs.length:=vx r
end
variable{u:Value}
theorem Nb{k:Key}(r:RelV (kV k) u):(fL P w).is k u=true:=by
 cases k with
 | inl i=>obtain⟨t,e⟩:=(show ∃t,u=Value.int i t from r);subst e;exact MQ P w i t
 | inr x=>obtain⟨t,e⟩:=(show ∃t,u=Value.str x t from r);subst e;exact MR P w x t
theorem HG{P:Qag}{w:World}:∀{ks:Cc} {us:B2},Vals QmF us->ItemsAre Qde ks us
 | [],_,r=>by rw[List.map_nil]at r;cases r;exact .nil
 | k::ks,_,r=>by
  rw[kn]at r;cases r with
  | cons h t=>exact .cons (Nb h) (HG t)
abbrev KT(H:Hp):B1->List Qgj->Prop:=Paired λp q=>p.1=q.1/\H q.2.1=some QuO/\RelV p.2 q.2.2
variable{kvs:B1}{xs:List Qgj}
theorem KT.val(r:Qke)(k:Cc):tK Qki ((atKey xs k).map (·.2)):=by
 induction r with
 | nil=>exact True.intro
 | @cons p q ps qs h t c=>
  obtain⟨h1,_,h2⟩:=h;by_cases e:p.1=k
  .have a:q.1=k:=h1.symm.trans e;have b:atKey (q::qs) k=some q.2:=by simp[atKey,nf,a]
   rw[nu e,b];exact h2
  .have a:¬ q.1=k:=λz=>e Qnk;have b:atKey (q::qs) k=atKey qs k:=by simp[atKey,nf,a]
   rw[lD e,b];exact c
variable{y:V}
theorem KT.my(r:Qke)(k:Cc)(b:QbQ) :
  KT H QpR (xs.map (putAt k u)):=by
 induction r with
 | nil=>exact .nil
 | @cons p q ps qs h t c=>
  rw[kn,kn];refine .cons ?_ c;obtain⟨h1,h2,d⟩:=h;unfold putAt;by_cases e:p.1=k
  .rw[cq e,cq QuV];exact⟨h1,h2,b⟩
  .rw[bX e,bX QvR];exact⟨h1,h2,d⟩
theorem KT.put(r:Qke)(k:Cc){b:Addr}(d:QoA)(a:QbQ) :
  KT H (putK kvs k y) (storedH xs k b u):=by
 have e:(kvs.any λc=>decide (c.1=k))=(atKey xs k).isSome:=by
  rw[yI,(r.val k).qf,Option.isSome_map]
 unfold putK storedH;rw[e];by_cases q:(atKey xs k).isSome=true
 .rw[cq q,cq q];exact r.my k a
 .rw[bX q,bX q];exact Paired.snoc r ⟨rfl,d,a⟩
theorem KT.keeps(r:Qke)(a:∀b ys,H b=some Qkr->H' b=some Qkr):KT H' kvs xs:=
 Paired.J6 r λ_ _ z=>⟨z.1,a _ _ z.2.1,z.2.2⟩
variable{h:Heap}
noncomputable def O0{u:HO}(ok:QbC)(e:Rd H a u):dU P w H h a u:=e.ok ok
def HJ{kvs:CU}(ok:QbC)(e:Rd H a Qbp):kvs.length<=sizeLine/\Qcj=false/\∃vs,KV kvs vs/\h.DictOf Qde a vs:=
 show dU P w H h a Qbp from O0 ok e
def OT{kvs:CU}(ok:QbC)(e:QoB):kvs.length<=sizeLine/\Qcj=false/\∃vs,KV kvs vs/\h.DictOf Qde a vs:=HJ ok Qhp
theorem An{ks:Cc}(ok:QbC)(e:H a=some Qpj):(tupleKind Qde).is h ks a:=by
 obtain⟨_,its,r,o,h1,h2,n,b⟩:=(show dU P w H h a Qpj from ok a _ e);exact⟨o,its.toArray,n,h1,h2,b,by simpa using HG r⟩
def BH(ok:QbC)(e:Rd H a Qdf):kvs.length<=sizeLine/\Qcj=false ∧
  ∃xs,KT H kvs xs/\h.DictOfH QmW a xs:=by
 obtain⟨z,y,xs,r,o,es,ep,h1,h2,i,g,f⟩:=(show dU P w H h a Qdf from O0 ok e);refine⟨z,y,xs,r,o,es,ep,h1,h2,i,g,λx b=>?_,f⟩;have all:∀{l:B1} {m:List Qgj},KT H l m->∀x∈m,(tupleKind Qde).is h x.1 x.2.1:=by
  intro l m q
  induction q with
  | nil=>intro x b;exact nomatch b
  | @cons p q ps qs c t d=>
   intro x b;obtain e|b:=fP.1 b
   .subst e;exact An ok (by rw[<- c.1];exact c.2.1)
   .exact d x b
 exact all r x b
def aoc(ok:QbC)(e:H a=some Qdf):kvs.length<=sizeLine/\Qcj=false ∧
  ∃xs,KT H kvs xs/\h.DictOfH QmW a xs:=BH ok Qhp
def xx(H:Hp)(a:Addr)(y:V)(r:Qed):Prop:=
 (∃kvs k,Rd H a Qbp/\y=kV k/\r=iX kvs k)\/∃kvs k b,Rd H a Qdf/\y=.ref b/\H b=some Qf9/\r=iX kvs k
def Jq(H:Hp)(a:Addr)(y v:V)(H':Hp):Prop:=
 (∃kvs k,H a=some Qbp/\y=kV k/\kvs.length<sizeLine/\H'=upd H a (.dK Qjt)) ∨
 ∃kvs k b,H a=some Qdf/\y=.ref b/\H b=some Qf9/\kvs.length<sizeLine/\H'=upd H a (.dT Qjt)
theorem xx.k{kvs:CU}{k:Key}(e:QoB):xx H a (kV k) Qki:=.inl ⟨kvs,k,.inl e,rfl,rfl⟩
theorem Jq.k{kvs:CU}{k:Key}{v:V}(e:QoB)(hl:Qvo):Jq H a (kV k) v (upd H a (.dK Qjt)):=.inl ⟨kvs,k,e,rfl,hl,rfl⟩
theorem Jq.t{b:Addr}{k:Cc}{v:V}(e:H a=some Qdf)(c:QoA)(hl:Qvo) :
  Jq H a Qho v (upd H a (.dT Qjt)):=.inr ⟨kvs,k,b,e,rfl,c,hl,rfl⟩
variable{pins:BC}{Y:St}{s:Qb}{v:V}{r:Value}{o:Qed}{A:Qas}{E:BN}
theorem Inv.big(I:QE):sysModules<s.heap.objs.size:=by
 have h:mainGlobals<s.heap.objs.size:=(I.mod.glob.keeps I.bk).lt;exact Nat.lt_trans Wm h
variable{Q:BN}
def WG(m:Qjx)(I:QE)(g:xx H a y QaQ)(j:QbQ)(h:∀c s',Inv X pins Y H s'->RelV v c->Q c s') :
  wpAny Qe A (getItem Q3 u) Q E s:=by
 obtain⟨kvs,k,e,f,l⟩|⟨kvs,k,b,e,f,q,l⟩:=g
 .subst f;obtain⟨z,hd,vs,rel,dd⟩:=HJ I.cR e;obtain⟨c,hw,i⟩:=tK.some_of (v:=v) (o:=valueAt vs k) (by rw[l];exact rel.val k);exact wpAny_getItem_of (Nb j) dd.mapOf hw (h c _ QdY i)
 .subst f;cases (show u=Value.ref b from j);obtain⟨z,hd,xs,rel,dd⟩:=BH I.cR e;obtain⟨c,hw,i⟩:=tK.some_of (v:=v) (o:=(atKey xs k).map (·.2)) (by rw[l];exact rel.val k);obtain⟨p,n,d⟩:=nr.1 hw;refine wpAny_getItem_heap (zi m) (An I.cR q) dd n ?_;rw[d];exact h c _ QdY i
def YI(f:Qjx)(I:QE)(g:xx H a y o)(d:QbQ)(h:∀s',Inv X pins Y H s'->Q (.bool o.isSome) s') :
  wpAny Qe A (compareOp .In u Q3) Q E s:=by
 obtain⟨kvs,k,e,c,l⟩|⟨kvs,k,b,e,c,i,l⟩:=g
 .subst c;obtain⟨z,hd,vs,rel,dd⟩:=HJ I.cR e;refine wpAny_in_of (Nb d) hd dd.mapOf ?_;rw[<- (rel.val k).qf,<- l];exact h _ QdY
 .subst c;cases (show u=Value.ref b from d);obtain⟨z,hd,xs,rel,dd⟩:=BH I.cR e;refine wpAny_in_heap (zi f) (An I.cR i) hd dd ?_;have q:=(rel.val k).qf;rw[Option.isSome_map]at q;rw[<- q,<- l];exact h _ QdY
def aeo(f:Qjx)(I:QE)(g:xx H a y o)(d:QbQ)(h:∀s',Inv X pins Y H s'->Q (.bool (!o.isSome)) s') :
  wpAny Qe A (compareOp .NotIn u Q3) Q E s:=by
 obtain⟨kvs,k,e,c,l⟩|⟨kvs,k,b,e,c,i,l⟩:=g
 .subst c;obtain⟨z,hd,vs,rel,dd⟩:=HJ I.cR e;refine wpAny_notIn_of (Nb d) hd dd.mapOf ?_;rw[<- (rel.val k).qf,<- l];exact h _ QdY
 .subst c;cases (show u=Value.ref b from d);obtain⟨z,hd,xs,rel,dd⟩:=BH I.cR e;refine wpAny_notIn_heap (zi f) (An I.cR i) hd dd ?_;have q:=(rel.val k).qf;rw[Option.isSome_map]at q;rw[<- q,<- l];exact h _ QdY
noncomputable def Jr{h':Heap}{t':Nat}{c:HO}(I:QE)(d:xw (H a))(hs:Heap.SameBut a s.heap h')(he:∃q,h'.get? a=some q)(new:dU X.prog X.w (upd H a c) h' a c) :
  Inv X pins Y (upd H a c) {s with heap:=h',toks:=t'}:=
 I.write (x:=a) (e:=a) d Qae (λb q f z=>(hs.2 b f).trans z) he new
noncomputable def ZG{h':Heap}{kvs:CU}{vs:Quw}(z:kvs.length<=sizeLine)(hd:Qcj=false)(rel:Qdq)(dd:h'.DictOf Qde a vs) :
  dU P w H' h' a Qbp:=⟨z,hd,vs,rel,dd⟩
theorem WH{Q:Qmq}(t:Qjx)(I:QE)(g:Jq H a y v H')(m:QbQ)(n:RelV v r)(h:∀s',Inv X pins Y H' s'->Q () s') :
  wpAny Qe A (setItem Q3 u r) Q E s:=by
 obtain⟨kvs,k,e,i,l,j⟩|⟨kvs,k,b,e,i,p,l,j⟩:=g
 .subst i j;obtain⟨z,hd,vs,rel,dd⟩:=OT I.cR e;have hz:vs.length<=sizeLine:=by rw[<- rel.length];exact z
  have hl:(putK kvs k v).length<=sizeLine:=by have:=BG kvs k v;lia
  refine wpAny_setItem_pairs (hsz:=hz) (Nb m) dd λh' d hs=>h _ ?_;have he:∃q,h'.get? a=some q:=let ⟨q,_,_,f,_⟩:=d;⟨q,f⟩;exact Jr I (by rw[e];exact True.intro) hs he (ZG hl hd (rel.put k n) d)
 .subst i j;cases (show u=Value.ref b from m);obtain⟨z,hd,xs,rel,dd⟩:=aoc I.cR e;have hz:xs.length<=sizeLine:=by rw[<- vx rel];exact z
  have hl:(putK kvs k v).length<=sizeLine:=by have:=BG kvs k v;lia
  refine wpAny_setItem_heap (hsz:=hz) (zi t) (An I.cR p) dd λh' d hs=>h _ ?_;obtain⟨q,es,ep,f,h2,C,B,_,x⟩:=d;refine Jr I (by rw[e];exact True.intro) hs ⟨q,f⟩ ⟨hl,hd,_,(rel.put k p n).keeps λc ys o=>?_,q,es,ep,f,h2,C,B,x⟩;rw[au (ans o e (λz=>nomatch z))];exact o
def WK(i:Expr):Prop:=∀a b,subscripted i false a b=operate [a,b] (getItem a b)
def UA{prog:Qag}{env:Env}{value slice:Expr}{pos:Pos}{T id:Qbf}
  (hl:typeLookup Qkq "__getitem__" = pure (some QeN)) (hs:WK slice)
  (h:wpAny Qah A (eval value env) (λo d=>wpAny Qah A (eval slice env) (λi a=>a.TypeIs o T/\wpAny Qah A (getItem o i) Q E a) E d) E s) :
  wpAny Qah A (eval (.Subscript value slice pos) env) Q E s:=by
 refine Subscript_ (la h (λo d f=>la f (λi a b=>?_) λ_ _ x=>x) λ_ _ x=>x);obtain⟨g,b⟩:=b;unfold subscriptTail;refine ec ?_;rw[getitemInPython_of_ne g.not_modules];refine ec (tj g hl ?_);have fin:wpAny Qah A (subscripted slice false o i) (λr c=>wpAny Qah A (letTemporaryGo value o r >>= λ_=>pure r) Q E c) E a:=by
  rw[hs o i];exact wpAny_operating (la b (λr c e=>ec (wpAny_letTemporaryGo (i2 e))) λ_ _ x=>x)
 first
  | exact i2 (ec fin)
  | exact ec (i2 (ec fin))
  | exact ec fin
def Nf(I:QE)(g:xx H a y o):s.TypeIs Q3 "dict":=by
 obtain⟨kvs,k,e,_,_⟩|⟨kvs,k,b,e,_,_,_⟩:=g
 .obtain⟨_,_,vs,_,dd⟩:=HJ I.cR e;exact dd.typeIs
 .obtain⟨_,_,xs,_,dd⟩:=BH I.cR e;exact dd.typeIs
noncomputable def aod(td ty:TE):TE:=λY H Q=>td Y H λx H1=>ty Y H1 λy H2=>∃a v,x=.ref a/\xx H2 a y QaQ/\Q v H2
noncomputable def YE(ty td:TE):TE:=λY H Q=>ty Y H λy H1=>td Y H1 λx H2=>∃a o,x=.ref a/\xx H2 a y o/\Q (.bl o.isSome) H2
noncomputable def aeq(ty td:TE):TE:=λY H Q=>ty Y H λy H1=>td Y H1 λx H2=>∃a o,x=.ref a/\xx H2 a y o/\Q (.bl (!o.isSome)) H2
noncomputable def aoe(td ty tv:TE):TS:=λD Y H=>tv Y H λv H1=>td Y H1 λx H2=>ty Y H2 λy c=>∃a b,x=.ref a/\Jq c a y v b/\D.nx Y b
variable{o i value:Expr}{pos pos':Pos}{td ty tv:TE}
def UB(f:Qjd)(j:Qee)(hi:Qef)(hs:WK i):PE X QiE (aod td ty):=by
 intro pins s Y H Q I h;refine UA PySem.F.slot_dict_getitem.lookup hs (dP (j pins s Y H _ I h) λu s1 ⟨x,H1,m,d,q1⟩=>dP (hi pins s1 Y H1 _ m q1) λp s2 zz=>?_);obtain⟨y,H2,b,c,a,v,ex,g,e⟩:=zz;subst ex;obtain rfl:u=Value.ref a:=d;exact⟨Nf b g,WG f b g c λn s3 l k=>⟨v,H2,l,k,e⟩⟩
def ajD(f:Qjd)(hi:Qef)(j:Qee):PC X .In i o (YE ty td):=by
 intro pins s Y H Q I h;refine dP Qiy λn s1 ⟨y,H1,m,b,q1⟩=>dP Ql5 λu s2 zz=>?_;obtain⟨x,H2,l,c,a,e,ex,g,d⟩:=zz;subst ex;obtain rfl:u=Value.ref a:=c;exact YI f l g b λs3 k=>⟨.bl e.isSome,H2,k,rfl,d⟩
def WL(f:Qjd)(hi:Qef)(j:Qee):PC X .NotIn i o (aeq ty td):=by
 intro pins s Y H Q I h;refine dP Qiy λn s1 ⟨y,H1,m,b,q1⟩=>dP Ql5 λu s2 zz=>?_;obtain⟨x,H2,l,c,a,e,ex,g,d⟩:=zz;subst ex;obtain rfl:u=Value.ref a:=c;exact aeo f l g b λs3 k=>⟨.bl (!e.isSome),H2,k,rfl,d⟩
def Js(j:Qjd)(k:Qee)(hi:Qef)(hv:QjO)(hs:QpG) :
  PS X QqL (aoe td ty tv):=by
 intro pins s Y H D I h;refine wpAny_Assign_Subscript (dP Qmn λr s1 ⟨v,H1,p,d,q1⟩=>dP (k pins s1 Y H1 _ p q1) λu s2 ⟨x,H2,n,c,f⟩=>dP (hi pins s2 Y H2 _ n f) λt s3 zz=>?_) hs;obtain⟨y,w,m,b,a,q,ex,g,e⟩:=zz;subst ex;obtain rfl:u=Value.ref a:=c;exact WH j m g b d λs4 l=>⟨Y,q,l,e⟩
noncomputable def ZH(h:Heap)(a:Qmo):dU P w H (h.push {cls:=.type "dict",data:=.dict #[]}) h.objs.size (.dK []):=
 ⟨i8 _,n4.2 QoK,[],.nil,Heap.DictOf.new h⟩
noncomputable def ZI(h:Heap)(a:Qmo):dU P w H (h.push {cls:=.type "dict",data:=.dict #[]}) h.objs.size (.dT []):=
 ⟨i8 _,n4.2 QoK,[],.nil,_,#[],0,l6 _ rfl,⟨rfl,rfl,rfl⟩,rfl,rfl,nc⟩
def ajE:TE:=λ_ H Q=>∀p,H p=none->Q QbM QiT
def ajF:TE:=λ_ H Q=>∀p,H p=none->Q QbM QiU
def ZJ:PE X QeO ajE:=λpins s Y H Q I h=>
 wpAny_Dict_empty ⟨.ref s.heap.objs.size,_,I.laid (a:=s.heap.objs.size) (o:=.dK []) (t':=s.toks) QiF (ik _) (ZH s.heap I.big),rfl,h _ Qc1⟩
def ZK:PE X QeO ajF:=λpins s Y H Q I h=>
 wpAny_Dict_empty ⟨.ref s.heap.objs.size,_,I.laid (a:=s.heap.objs.size) (o:=.dT []) (t':=s.toks) QiF (ik _) (ZI s.heap I.big),rfl,h _ Qc1⟩
variable{kvs:CU}
def ZL(I:QE)(e:Rd H a Qbp)(h:∀p s',H p=none->Inv X pins Y (upd H p Qbp) s'->Q QbM s'):wpAny Qe A (call Qjl [.ref a]) Q E s:=by
 obtain⟨z,hd,vs,rel,dd⟩:=HJ I.cR e;refine kt_call_dict hd dd (by rw[<- rel.length];exact z) λh' c hs=>?_;refine h _ _ Qc1 (I.laid (a:=s.heap.objs.size) (o:=.dK kvs) (t':=s.toks) (λb q d=>?_) (ik _) (ZG z (n4.2 (ml (kr I.big))) rel c));exact(hs.2 b (kr (j0 d))).trans (ka _ d)
end L2
namespace L3
open PySem PySem.Spec PyProof.Rows L2
inductive D where
 | non|bl (b:Bool)|int (i:Int)|str (x:Str)
 | tup (ds:List D)|lst (ds:List D)|ins (c:Str) (fs:List (Str×D))|jt (kvs:List QoX)
 | dct (kvs:List (Cc×D))
 | any
 | val (v:V)
 | j5 (w:World) (ds es:List D)
abbrev _root_.BA:=List D
abbrev _root_.CO:=List (Key×D)
inductive T where
 | sh (d:D)|tup (ts:List T)|lst (ts:List T)|ins (c:Str) (fs:List (Str×T))|jt (kvs:CO)|dct (kvs:List (Cc×T))
 | pin (x:Addr) (t:T)
 | j5 (w:World) (ds es:BA)
abbrev _root_.BS:=List (Str×T)
abbrev _root_.Bn:=List T
abbrev _root_.CA:=List (Cc×T)
abbrev _root_.Dx:=List (Cc×D)
abbrev _root_.EO:=List (Str×D)
mutual
def T.cu:T->D
 | .sh d=>d
 | .tup ts=>.tup (cD ts)
 | .lst ts=>.lst (cD ts)
 | .ins c fs=>.ins c (sZ fs)
 | .jt kvs=>.jt kvs
 | .dct kvs=>.dct (WM kvs)
 | .pin _ t=>t.cu
 | .j5 w ds es=>.j5 w ds es
def T.cD:Bn->BA
 | []=>[]
 | t::ts=>t.cu::T.cD ts
def T.sZ:BS->EO
 | []=>[]
 | (x,t)::fs=>(x,t.cu)::T.sZ fs
def T.WM:CA->Dx
 | []=>[]
 | (x,t)::fs=>(x,t.cu)::T.WM fs
end
mutual
def D.xu(w:World):D->Int
 | .int i=>hashInt i
 | .str x => hashStr w x
 | .tup ds=>reduceHash (Builtin.Tuple.tupleHashOf (D.Jt w ds))
 | _=>0
def D.Jt(w:World):BA->AT
 | []=>[]
 | d::ds=>d.xu w::D.Jt w ds
end
abbrev _root_.EQ:=List (D×Addr×Value)
def Ju(w:World)(a:Addr)(ds:BA)(vs us:B0)(h:Heap):Prop:=
 Qcj=false/\∃(xs:EQ) (o:Obj) (es:Qjm) (ep:Nat),h.get? a=some o/\o.ExactDict/\o.data=.dict es ep/\es.toList=xs.map (λx=>⟨x.1.xu w,.ref x.2.1,x.2.2⟩)/\xs.map (·.1)=ds/\xs.map Qmf=vs/\Vals us Qiu
abbrev _root_.BM:=Str->Addr
variable(K:Frag)(CL:BM)
mutual
inductive bz(Z:Hp):D->V->Prop where
 | non:bz Z .non .non
 | bl (b:Bool):bz Z Qd5 Qd5
 | int (i:Int):bz Z Qba Qba
 | str (x:Str):bz Z Qbk Qbk
 | any (v:V):bz Z .any v
 | val (v:V):bz Z Qfm v
 | tup {a:Addr} {vs:B0} {ds:BA}:tL K Z a vs->ay Z ds vs->bz Z QdF Q3
 | lst {a:Addr} {vs:B0} {ds:BA}:mJ K Z a vs->ay Z ds vs->bz Z QcB Q3
 | ins {a dx:Addr} {c:Str} {gs:Bz} {fs:EO}:Z a=some QeJ->jF Z fs gs->bz Z QaZ Q3
 | jt {a:Addr} {gs:CU} {fs:CO}:Z a=some (.dK gs)->bR Z fs gs->bz Z (.jt fs) Q3
 | dct {a:Addr} {gs:B1} {fs:Dx}:Rd Z a QaB->dO Z fs gs->bz Z (.dct fs) Q3
 | j5 {a:Addr} {w:World} {vs us:B0} {ds es:BA}:Z a=some QlS->ay Z ds vs->ay Z es us->bz Z QgV Q3
inductive ay(Z:Hp):BA->B0->Prop where
 | nil:ay Z [] []
 | cons {d:D} {v:V} {ds:BA} {vs:B0}:bz Z d v->ay Z ds vs->ay Z (d::ds) QaS
inductive jF(Z:Hp):EO->Bz->Prop where
 | nil:jF Z [] []
 | cons {x:Str} {d:D} {v:V} {ds:EO} {vs:Bz}:bz Z d v->jF Z ds vs->jF Z ((x,d)::ds) ((x,v)::vs)
inductive bR(Z:Hp):CO->CU->Prop where
 | nil:bR Z [] []
 | cons {x:Key} {d:D} {v:V} {ds:CO} {vs:CU}:bz Z d v->bR Z ds vs->bR Z ((x,d)::ds) ((x,v)::vs)
inductive dO(Z:Hp):Dx->B1->Prop where
 | nil:dO Z [] []
 | cons {x:Cc} {d:D} {v:V} {ds:Dx} {vs:B1}:bz Z d v->dO Z ds vs->dO Z ((x,d)::ds) ((x,v)::vs)
end
mutual
inductive bD(H Z:Hp):T->V->BY->Prop where
 | sh {d:D} {v:V}:bz K CL Z d v->bD H Z Qa3 v []
 | tup {a:Addr} {vs:B0} {ts:Bn} {fp:BY}:Z a=some (.tup vs)->aQ H Z ts vs fp->bD H Z (.tup ts) Q3 fp
 | lst {a:Addr} {vs:B0} {ts:Bn} {fp:BY}:H a=some (.lst vs)->aQ H Z ts vs fp->bD H Z (.lst ts) Q3 (a::fp)
 | ins {a dx:Addr} {c:Str} {gs:Bz} {fs:BS} {fp:BY}:H a=some QeJ->cM H Z fs gs fp->bD H Z QaZ Q3 (a::fp)
 | jt {a:Addr} {gs:CU} {kvs:CO}:H a=some (.dK gs)->bR K CL Z kvs gs->bD H Z Qdg Q3 [a]
 | dct {a:Addr} {gs:B1} {kvs:CA} {fp:BY}:H a=some QaB->cG H Z kvs gs fp->bD H Z QcF Q3 (a::fp)
 | pin {x:Addr} {t:T} {fp:BY}:bD H Z t Qdi fp->bD H Z (.pin x t) Qdi fp
 | j5 {a:Addr} {w:World} {vs us:B0} {ds es:BA}:H a=some QlS->ay K CL Z ds vs->ay K CL Z es us->bD H Z QgV Q3 [a]
inductive aQ(H Z:Hp):Bn->B0->BY->Prop where
 | nil:aQ H Z [] [] []
 | cons {t:T} {v:V} {ts:Bn} {vs:B0} {fp gp:BY}:bD H Z t v fp->aQ H Z ts vs gp->aQ H Z Qb5 QaS Qd2
inductive cM(H Z:Hp):BS->Bz->BY->Prop where
 | nil:cM H Z [] [] []
 | cons {x:Str} {t:T} {v:V} {ts:BS} {vs:Bz} {fp gp:BY}:bD H Z t v fp->cM H Z ts vs gp->cM H Z ((x,t)::ts) ((x,v)::vs) Qd2
inductive cG(H Z:Hp):CA->B1->BY->Prop where
 | nil:cG H Z [] [] []
 | cons {x:Cc} {t:T} {v:V} {ts:CA} {vs:B1} {fp gp:BY}:bD H Z t v fp->cG H Z ts vs gp->cG H Z ((x,t)::ts) ((x,v)::vs) Qd2
end
abbrev _root_.BB:=List (Option T)
inductive fH(H Z:Hp):BB->L2.St->BY->Prop where
 | nil:fH H Z [] [] []
 | skip {o:Qed} {U:BB} {Y:L2.St} {fp:BY}:fH H Z U Y fp->fH H Z (none::U) (o::Y) fp
 | cons {t:T} {v:V} {U:BB} {Y:L2.St} {fp gp:BY}:bD K CL H Z t v fp->fH H Z U Y gp->fH H Z (some t::U) (some v::Y) Qd2
variable{K:Frag}{CL:BM}{H H':Hp}{a:Addr}
theorem Rd.mono{u:HO}(e:QcN)(h:Rd H a u):Rd H' a u:=h.imp (e _ _) λ⟨o,q⟩=>⟨o,e _ _ q⟩
variable{xs:B0}
theorem aB.Gb(e:QcN)(h:tL K H a xs):tL K H' a xs:=by
 rcases h with(h|⟨o,h⟩)|h
 .exact .inl (.inl QdC)
 .exact .inl QsZ
 .exact .inr h
variable{Z Z':Hp}{v:V}
theorem bz.mono(e:QbR){d:D}(h:QcO):bz K CL Z' d v:=
 bz.rec
  .non .bl .int .str .any .val QfV QfW Qgc Qgd QfT Qgb .nil Qab .nil Qab .nil Qab .nil Qab h
theorem ay.mono(e:QbR){d:BA}{v:B0}(h:QoC):ay K CL Z' d v:=
 ay.rec
  .non .bl .int .str .any .val QfV QfW Qgc Qgd QfT Qgb .nil Qab .nil Qab .nil Qab .nil Qab h
theorem jF.mono(e:QbR){d:EO}{v:Bz}(h:jF K CL Z d v):jF K CL Z' d v:=
 jF.rec
  .non .bl .int .str .any .val QfV QfW Qgc Qgd QfT Qgb .nil Qab .nil Qab .nil Qab .nil Qab h
theorem bR.mono(e:QbR){d:CO}{v:CU}(h:bR K CL Z d v):bR K CL Z' d v:=
 bR.rec
  .non .bl .int .str .any .val QfV QfW Qgc Qgd QfT Qgb .nil Qab .nil Qab .nil Qab .nil Qab h
theorem dO.mono(e:QbR){d:Dx}{v:B1}(h:dO K CL Z d v):dO K CL Z' d v:=
 dO.rec (motive_1:=λd v _=>bz K CL Z' d v) (motive_2:=λd v _=>ay K CL Z' d v) (motive_3:=λd v _=>jF K CL Z' d v) (motive_4:=λd v _=>bR K CL Z' d v) (motive_5:=λd v _=>dO K CL Z' d v)
  .non .bl .int .str .any .val QfV QfW Qgc Qgd QfT Qgb .nil Qab .nil Qab .nil Qab .nil Qab h
variable{t:T}{fp:BY}
theorem bD.mono(e:QbR)(k:∀a∈fp,H' a=H a)(h:QfF):bD K CL H' Z' t v fp:=
 bD.rec (motive_2:=λt v fp _=>(∀a∈fp,H' a=H a)->aQ K CL H' Z' t v fp) (motive_3:=λt v fp _=>(∀a∈fp,H' a=H a)->cM K CL H' Z' t v fp) (motive_4:=λt v fp _=>(∀a∈fp,H' a=H a)->cG K CL H' Z' t v fp)
  (λh _=>.sh Qkf) Qig Qer Qes QhO Qet Qey QhK QaC QaV QaC QaV QaC QaV h k
theorem aQ.mono(e:QbR){t:Bn}{v:B0}(k:∀a∈fp,H' a=H a)(h:Qnl):aQ K CL H' Z' t v fp:=
 aQ.rec (motive_1:=λt v fp _=>(∀a∈fp,H' a=H a)->bD K CL H' Z' t v fp) (motive_3:=λt v fp _=>(∀a∈fp,H' a=H a)->cM K CL H' Z' t v fp) (motive_4:=λt v fp _=>(∀a∈fp,H' a=H a)->cG K CL H' Z' t v fp)
  (λh _=>.sh Qkf) Qig Qer Qes QhO Qet Qey QhK QaC QaV QaC QaV QaC QaV h k
theorem cM.mono(e:QbR){t:BS}{v:Bz}(k:∀a∈fp,H' a=H a)(h:cM K CL H Z t v fp):cM K CL H' Z' t v fp:=
 cM.rec (motive_1:=λt v fp _=>(∀a∈fp,H' a=H a)->bD K CL H' Z' t v fp) (motive_2:=λt v fp _=>(∀a∈fp,H' a=H a)->aQ K CL H' Z' t v fp) (motive_4:=λt v fp _=>(∀a∈fp,H' a=H a)->cG K CL H' Z' t v fp)
  (λh _=>.sh Qkf) Qig Qer Qes QhO Qet Qey QhK QaC QaV QaC QaV QaC QaV h k
theorem cG.mono(e:QbR){t:CA}{v:B1}(k:∀a∈fp,H' a=H a)(h:cG K CL H Z t v fp):cG K CL H' Z' t v fp:=
 cG.rec (motive_1:=λt v fp _=>(∀a∈fp,H' a=H a)->bD K CL H' Z' t v fp) (motive_2:=λt v fp _=>(∀a∈fp,H' a=H a)->aQ K CL H' Z' t v fp) (motive_3:=λt v fp _=>(∀a∈fp,H' a=H a)->cM K CL H' Z' t v fp)
  (λh _=>.sh Qkf) Qig Qer Qes QhO Qet Qey QhK QaC QaV QaC QaV QaC QaV h k
theorem bD.there(h:QfF):∀a∈fp,∃o,H a=some o:=
 bD.rec (motive_3:=λt v fp _=>∀a∈fp,∃o,H a=some o) (motive_4:=λt v fp _=>∀a∈fp,∃o,H a=some o)
  (λ_ a b=>absurd b km) Qjb (λh _ r a b=>(fP.1 b).elim (λq=>⟨_,q▸h⟩) (r a)) (λh _ r a b=>(fP.1 b).elim (λq=>⟨_,q▸h⟩) (r a)) (λh _ a b=>(fP.1 b).elim (λq=>⟨_,q▸h⟩) Qc0) (λh _ r a b=>(fP.1 b).elim (λq=>⟨_,q▸h⟩) (r a)) Qju (λh _ _ a b=>(fP.1 b).elim (λq=>⟨_,q▸h⟩) Qc0) QbH QbE QbH QbE QbH QbE h
theorem aQ.there{t:Bn}{v:B0}(h:Qnl):∀a∈fp,∃o,H a=some o:=
 aQ.rec (motive_1:=λt v fp _=>∀a∈fp,∃o,H a=some o) (motive_3:=λt v fp _=>∀a∈fp,∃o,H a=some o) (motive_4:=λt v fp _=>∀a∈fp,∃o,H a=some o)
  (λ_ a b=>absurd b km) Qjb (λh _ r a b=>(fP.1 b).elim (λq=>⟨_,q▸h⟩) (r a)) (λh _ r a b=>(fP.1 b).elim (λq=>⟨_,q▸h⟩) (r a)) (λh _ a b=>(fP.1 b).elim (λq=>⟨_,q▸h⟩) Qc0) (λh _ r a b=>(fP.1 b).elim (λq=>⟨_,q▸h⟩) (r a)) Qju (λh _ _ a b=>(fP.1 b).elim (λq=>⟨_,q▸h⟩) Qc0) QbH QbE QbH QbE QbH QbE h
theorem cM.there{t:BS}{v:Bz}(h:cM K CL H Z t v fp):∀a∈fp,∃o,H a=some o:=
 cM.rec (motive_1:=λt v fp _=>∀a∈fp,∃o,H a=some o) (motive_2:=λt v fp _=>∀a∈fp,∃o,H a=some o) (motive_3:=λt v fp _=>∀a∈fp,∃o,H a=some o) (motive_4:=λt v fp _=>∀a∈fp,∃o,H a=some o)
  (λ_ a b=>absurd b km) Qjb (λh _ r a b=>(fP.1 b).elim (λq=>⟨_,q▸h⟩) (r a)) (λh _ r a b=>(fP.1 b).elim (λq=>⟨_,q▸h⟩) (r a)) (λh _ a b=>(fP.1 b).elim (λq=>⟨_,q▸h⟩) Qc0) (λh _ r a b=>(fP.1 b).elim (λq=>⟨_,q▸h⟩) (r a)) Qju (λh _ _ a b=>(fP.1 b).elim (λq=>⟨_,q▸h⟩) Qc0) QbH QbE QbH QbE QbH QbE h
theorem cG.there{t:CA}{v:B1}(h:cG K CL H Z t v fp):∀a∈fp,∃o,H a=some o:=
 cG.rec (motive_1:=λt v fp _=>∀a∈fp,∃o,H a=some o) (motive_2:=λt v fp _=>∀a∈fp,∃o,H a=some o) (motive_3:=λt v fp _=>∀a∈fp,∃o,H a=some o) (motive_4:=λt v fp _=>∀a∈fp,∃o,H a=some o)
  (λ_ a b=>absurd b km) Qjb (λh _ r a b=>(fP.1 b).elim (λq=>⟨_,q▸h⟩) (r a)) (λh _ r a b=>(fP.1 b).elim (λq=>⟨_,q▸h⟩) (r a)) (λh _ a b=>(fP.1 b).elim (λq=>⟨_,q▸h⟩) Qc0) (λh _ r a b=>(fP.1 b).elim (λq=>⟨_,q▸h⟩) (r a)) Qju (λh _ _ a b=>(fP.1 b).elim (λq=>⟨_,q▸h⟩) Qc0) QbH QbE QbH QbE QbH QbE h
theorem bD.cu(e:QbR)(k:∀a∈fp,Z' a=H a)(h:QfF):bz K CL Z' t.cu v:=
 bD.rec (motive_2:=λt v fp _=>(∀a∈fp,Z' a=H a)->ay K CL Z' _ v) (motive_3:=λt v fp _=>(∀a∈fp,Z' a=H a)->jF K CL Z' _ v) (motive_4:=λt v fp _=>(∀a∈fp,Z' a=H a)->dO K CL Z' _ v)
  (λh _=>by exact h.mono e) (λh _ r k=>by exact .tup (tL.of QdC) (r k)) (λh _ r k=>by exact .lst (mJ.of ((k _ gk).trans h)) Qem) (λh _ r k=>by exact .ins ((k _ gk).trans h) Qem) (λh f k=>by exact .jt ((k _ gk).trans h) (bR.mono e f)) (λh _ r k=>by exact .dct (.inl ((k _ gk).trans h)) Qem) (λ_ r k=>by rw[T.cu];exact r k) (λh f g k=>by exact .j5 ((k _ gk).trans h) (ay.mono e f) (ay.mono e g)) (λ_=>by exact .nil) (λ_ _ h r k=>by rw[T.cD];exact .cons QlI QlJ) (λ_=>by rw[T.sZ];exact .nil) (λ_ _ h r k=>by exact .cons QlI QlJ) (λ_=>by exact .nil) (λ_ _ h r k=>by rw[T.WM];exact .cons QlI QlJ) h k
variable{vs:B0}
theorem ay.ind{P:BA->B0->Prop}(n:P [] [])(c:∀{d:D} {v:V} {ds:BA} {vs:B0},bz K CL Z d v->ay K CL Z ds vs->P ds vs->P (d::ds) QaS){ds:BA}(h:QfG):P ds vs:=
 ay.rec (motive_1:=λ_ _ _=>True) (motive_3:=λ_ _ _=>True) (motive_4:=λ_ _ _=>True) (motive_5:=λ_ _ _=>True)
  trivial Qbh Qbh Qbh Qbh Qbh Qaf Qaf Qaf Qaf Qaf QlG n QeB trivial Qap trivial Qap trivial Qap h
theorem bR.ind{P:CO->CU->Prop}(n:P [] [])(c:∀{x:Key} {d:D} {v:V} {ds:CO} {vs:CU},bz K CL Z d v->bR K CL Z ds vs->P ds vs->P ((x,d)::ds) ((x,v)::vs)){ds:CO}{vs:CU}(h:bR K CL Z ds vs):P ds vs:=
 bR.rec (motive_1:=λ_ _ _=>True) (motive_2:=λ_ _ _=>True) (motive_3:=λ_ _ _=>True) (motive_5:=λ_ _ _=>True)
  trivial Qbh Qbh Qbh Qbh Qbh Qaf Qaf Qaf Qaf Qaf QlG trivial Qap trivial Qap n QeB trivial Qap h
theorem dO.ind{P:Dx->B1->Prop}(n:P [] [])(c:∀{x:Cc} {d:D} {v:V} {ds:Dx} {vs:B1},bz K CL Z d v->dO K CL Z ds vs->P ds vs->P ((x,d)::ds) ((x,v)::vs)){ds:Dx}{vs:B1}(h:dO K CL Z ds vs):P ds vs:=
 dO.rec (motive_1:=λ_ _ _=>True) (motive_2:=λ_ _ _=>True) (motive_3:=λ_ _ _=>True) (motive_4:=λ_ _ _=>True) (motive_5:=λd v _=>P d v)
  trivial Qbh Qbh Qbh Qbh Qbh Qaf Qaf Qaf Qaf Qaf QlG trivial Qap trivial Qap trivial Qap n QeB h
variable{ts:Bn}
theorem aQ.ind{P:Bn->B0->BY->Prop}(n:P [] [] [])(c:∀{t:T} {v:V} {ts:Bn} {vs:B0} {fp gp:BY},bD K CL H Z t v fp->aQ K CL H Z ts vs gp->P ts vs gp->P Qb5 QaS Qd2)(h:aQ K CL H Z ts vs fp):P ts vs fp:=
 aQ.rec (motive_1:=λ_ _ _ _=>True) (motive_3:=λ_ _ _ _=>True) (motive_4:=λ_ _ _ _=>True)
  (λ_=>trivial) Qaf Qaf Qaf QeI Qaf QeI Qaf n QeB trivial Qap trivial Qap h
theorem cM.ind{P:BS->Bz->BY->Prop}(n:P [] [] [])(c:∀{x:Str} {t:T} {v:V} {ts:BS} {vs:Bz} {fp gp:BY},bD K CL H Z t v fp->cM K CL H Z ts vs gp->P ts vs gp->P ((x,t)::ts) ((x,v)::vs) Qd2){ts:BS}{vs:Bz}(h:cM K CL H Z ts vs fp):P ts vs fp:=
 cM.rec (motive_1:=λ_ _ _ _=>True) (motive_2:=λ_ _ _ _=>True) (motive_4:=λ_ _ _ _=>True)
  (λ_=>trivial) Qaf Qaf Qaf QeI Qaf QeI Qaf trivial Qap n QeB trivial Qap h
theorem cG.ind{P:CA->B1->BY->Prop}(n:P [] [] [])(c:∀{x:Cc} {t:T} {v:V} {ts:CA} {vs:B1} {fp gp:BY},bD K CL H Z t v fp->cG K CL H Z ts vs gp->P ts vs gp->P ((x,t)::ts) ((x,v)::vs) Qd2){ts:CA}{vs:B1}(h:cG K CL H Z ts vs fp):P ts vs fp:=
 cG.rec (motive_1:=λ_ _ _ _=>True) (motive_2:=λ_ _ _ _=>True) (motive_3:=λ_ _ _ _=>True)
  (λ_=>trivial) Qaf Qaf Qaf QeI Qaf QeI Qaf trivial Qap trivial Qap n QeB h
theorem ay.length{d:BA}{v:B0}(h:QoC):d.length=v.length:=
 ay.ind (P:=λd v=>d.length=v.length) rfl Qim h
theorem aQ.length{d:Bn}{v:B0}(h:aQ K CL H Z d v fp):d.length=v.length:=
 aQ.ind (P:=λd v _=>d.length=v.length) rfl Qim h
theorem fH.length{d:BB}{v:L2.St}(h:fH K CL H Z d v fp):d.length=v.length:=by
 induction h with
 | nil=>rfl
 | skip _ i=>exact congrArg (· + 1) i
 | cons _ _ i=>exact congrArg (· + 1) i
theorem ay.get{Z:Hp}:∀{ds:BA} {vs:B0} {i:Nat} {d:D},ay K CL Z ds vs->ds[i]? = some d->∃v,vs[i]? = some v/\bz K CL Z d v
 | _,_,_,_,.nil,e=>by simp at e
 | _,_,0,_,.cons r _,e=>by simp_all
 | _,_,i+1,d,.cons _ t,e=>by
  obtain⟨u,h1,h2⟩:=ay.get t (‹_›);exact⟨u,‹_›,h2⟩
theorem ay.QD{Z:Hp}:∀{ds:BA} {vs:B0} {i:Nat} {v:V},ay K CL Z ds vs->vs[i]? = some v->∃d,ds[i]? = some d/\bz K CL Z d v
 | _,_,_,_,.nil,e=>by simp at e
 | _,_,0,_,.cons r _,e=>by simp_all
 | _,_,i+1,d,.cons _ t,e=>by
  obtain⟨u,h1,h2⟩:=ay.QD t (‹_›);simp_all
theorem fH.get:∀{U:BB} {Y:L2.St} {fp:BY} {i:Nat} {t:T},fH K CL H Z U Y fp->U[i]? = some QaI →
  ∃v f1 f2 c,Y[i]? = some QaQ/\fp=f1++Qhv/\bD K CL H Z t v f2 ∧
   (∀{H' Z':Hp} {t':T} {v':V} {g:BY},aB Z Z'->(∀a∈f1++c,H' a=H a)->bD K CL H' Z' t' v' g->fH K CL H' Z' (U.set i (some t')) (Y.set i (some v')) QjV) ∧
   (∀{o:Qed},fH K CL H Z QdK (Y.set i o) (f1++c)):=by
 intro U Y fp i t h;have mono:∀{H H' Z Z':Hp} {U:BB} {Y:L2.St} {fp:BY},aB Z Z'->(∀a∈fp,H' a=H a)->fH K CL H Z U Y fp->fH K CL H' Z' U Y fp:=by
  intro H H' Z Z' U Y fp e k r
  induction r with
  | nil=>exact .nil
  | skip _ d=>exact .skip (d k)
  | cons r _ d=>exact .cons (r.mono e λa b=>k a (i4 _ b)) (d λa b=>k a (iF _ b))
 induction h generalizing i with
 | nil=>intro e;simp at e
 | @skip o U Y fp r d=>
  cases i with
  | zero=>intro e;simp at e
  | succ i=>
   intro e;obtain⟨v,f1,f2,c,h1,h2,m,l,j⟩:=d (i:=i) (by simpa using e);exact⟨v,f1,f2,c,by simpa using h1,h2,m,λe k q=>.skip (l e k q),.skip j⟩
 | @cons t0 v0 U Y fp gp f r d=>
  cases i with
  | zero=>
   intro e;simp at e;subst e;refine⟨v0,[],fp,gp,rfl,rfl,f,λ{H' Z' t' v' g} e k q=>fH.cons (fp:=g) (gp:=gp) q (mono (fp:=gp) e (λa b=>k a (by simpa using b)) r),.skip (by simpa using r)⟩
  | succ i=>
   intro e;obtain⟨v,f1,f2,c,h1,h2,m,l,j⟩:=d (i:=i) (by simpa using e);refine⟨v,fp++f1,f2,c,by simpa using h1,by rw[h2,List.append_assoc],m,λ{H' Z' t' v' g} e k q=>?_,λ{o}=>?_⟩
   .rw[i3];exact .cons (f.mono e λa b=>k a (by simp[b])) (l e (λa b=>k a (by rw[i3];exact iF _ b)) q)
   .rw[i3];exact .cons f j
variable{U:BB}{Y:L2.St}
theorem fH.mono(e:QbR)(k:∀a∈fp,H' a=H a)(r:QiZ):fH K CL H' Z' U Y fp:=by
 induction r with
 | nil=>exact .nil
 | skip _ b=>exact .skip (b k)
 | cons r _ b=>exact .cons (r.mono e λa c=>k a QkD) Qsl
theorem fH.there(r:QiZ):∀a∈fp,∃o,H a=some o:=by
 induction r with
 | nil=>intro a c;cases c
 | skip _ b=>exact b
 | cons r _ b=>exactλa c=>(iw.1 c).elim (r.there a) (b a)
theorem fH.put(r:QiZ){g:BY}(q:bD K CL H Z t v g) :
  ∀{i:Nat},i<U.length->∃f,fH K CL H Z Qnv QeR f/\∃a,a.Sublist fp/\f.Perm (g++a):=by
 induction r with
 | nil=>intro i hi;simp at hi
 | @skip o U Y fp r b=>
  intro i hi;cases i with
  | zero=>exact⟨ _,.cons q r,fp,nk _,List.Perm.refl _⟩
  | succ i=>
   obtain⟨f,h1,a,h2,c⟩:=b (by simpa using hi);exact⟨f,.skip h1,a,h2,c⟩
 | @cons t0 v0 U Y fp gp d r b=>
  intro i hi;cases i with
  | zero=>exact⟨ _,.cons q r,gp,v3 _ _,List.Perm.refl _⟩
  | succ i=>
   obtain⟨f,h1,a,h2,c⟩:=b (by simpa using hi);refine⟨ _,.cons d h1,_,oP (nk _) h2,?_⟩;refine(n7 fp c).trans ?_;rw[<- i3,<- i3];exact List.Perm.append_right a mI
theorem bz.gT{ds:BA}(h:bz K CL Z QcB v):∃a vs,v=.ref a/\mJ K Z a vs/\ay K CL Z ds vs:=by cases h with|lst p q=>exact⟨_,_,rfl,p,q⟩
theorem bz.lS{ds:BA}(h:bz K CL Z QdF v):∃a vs,v=.ref a/\tL K Z a vs/\ay K CL Z ds vs:=by cases h with|tup p q=>exact⟨_,_,rfl,p,q⟩
variable{c:Str}
theorem bz.Dt{fs:EO}(h:bz K CL Z QaZ v):∃a dx gs,v=.ref a/\Z a=some QeJ/\jF K CL Z fs gs:=by cases h with|ins p q=>exact⟨_,_,_,rfl,p,q⟩
theorem bD.F4{d:D}(h:bD K CL H Z Qa3 v fp):fp=[]/\bz K CL Z d v:=by cases h with|sh r=>exact⟨rfl,r⟩
theorem bD.gT(h:bD K CL H Z (.lst ts) v fp):∃a vs g,v=.ref a/\fp=a::g/\H a=some (.lst vs)/\aQ K CL H Z ts vs g:=by cases h with|lst p q=>exact⟨_,_,_,rfl,rfl,p,q⟩
theorem bD.lS(h:bD K CL H Z (.tup ts) v fp):∃a vs,v=.ref a/\Z a=some (.tup vs)/\aQ K CL H Z ts vs fp:=by cases h with|tup p q=>exact⟨_,_,rfl,p,q⟩
theorem bD.Dt{fs:BS}(h:bD K CL H Z QaZ v fp):∃a dx gs g,v=.ref a/\fp=a::g/\H a=some QeJ/\cM K CL H Z fs gs g:=by cases h with|ins p q=>exact⟨_,_,_,_,rfl,rfl,p,q⟩
theorem bD.QF{y:Addr}(h:bD K CL H Z (.pin y t) v fp):v=.ref y/\bD K CL H Z t (.ref y) fp:=by cases h with|pin r=>exact⟨rfl,r⟩
noncomputable def yJ(X:Cx)(e:Expr):TE:=λY H Q=>∀(pins:BC) (s:Qb),Inv X pins Y H s->wpAny Qe X.A QgD Qa9 X.xe s
noncomputable def ZM(X:Cx)(e:Expr):TT:=λY H Q=>∀(pins:BC) (s:Qb),Inv X pins Y H s->wpAny Qe X.A QsW QeV X.xe s
noncomputable def Ge(X:Cx)(es:Ch):TA:=λY H Q=>∀(pos:Pos) (pins:BC) (s:Qb),Inv X pins Y H s->wpAny Qe X.A Qqr QnQ X.xe s
noncomputable def WN(X:Cx)(st:Stmt):TS:=λD Y H=>∀(pins:BC) (s:Qb),Inv X pins Y H s->wpAny Qe X.A (exec st X.env) QjB X.xe s
noncomputable def Fn(X:Cx)(st:CI):TS:=λD Y H=>∀(pins:BC) (s:Qb),Inv X pins Y H s->wpAny Qe X.A Qnu QjB X.xe s
variable{X:Cx}{e:Expr}
noncomputable def cL:PE X e (yJ X e):=λpins s _ _ _ I h=>h pins s I
noncomputable def q5:PT X e (ZM X e):=λpins s _ _ _ I h=>h pins s I
noncomputable def MG{e:Ch}:PA X e (Ge X e):=λpos pins s _ _ _ I h=>h pos pins s I
noncomputable def HE{e:Stmt}:PS X e (WN X e):=λpins s _ _ _ I h=>h pins s I
noncomputable def UC{e:CI}:Ql X e (Fn X e):=λpins s _ _ _ I h=>h pins s I
noncomputable def cz{t:TE}(h:PE X e t){Q:VK}(q:t Y H Q):yJ X e Y H Q:=λpins s I=>h pins s Y H Q I q
variable{Q:EM}
noncomputable def yK{t:TT}(h:PT X e t)(q:t Y H Q):ZM X e Y H Q:=λpins s I=>h pins s Y H Q I q
noncomputable def QG{e:Ch}{t:TA}(h:PA X e t){Q:EN}(q:t Y H Q):Ge X e Y H Q:=λpos pins s I=>h pos pins s Y H Q I q
noncomputable def lT{e:Stmt}{t:TS}(h:PS X e t){D:Ends}(q:t D Y H):WN X e D Y H:=λpins s I=>h pins s Y H D I q
noncomputable def Fh{e:CI}{t:TS}(h:Ql X e t){D:Ends}(q:t D Y H):Fn X e D Y H:=λpins s I=>h pins s Y H D I q
noncomputable def notStar:Expr->Bool
 | .Starred _ _=>false
 | _=>true
variable{es:Ch}{env:Env}
def aZ(h:QoD):starEach Qau env=(false,eval e env)::starEach es env:=by
 cases e<;>first|rfl|(cases h)
structure Bx where
 B:Hp
 Z:Hp
def ju:HO->Bool
 | .tup _=>true
 | .cu _ _=>true
 | _=>false
noncomputable def HK(x:Str):Bool:=x.cps[0]? == some 35
noncomputable def Ng(x:Str):Str:=⟨x.cps.extract 1 x.cps.size⟩
def ny(CL:BM)(Z:Hp):Prop:=∀x,HK x=true->CL x≠0->Z (CL x)=some (.tabs (Ng x))
structure bq(K:Frag)(CL:BM)(b:Bx)(H Z:Hp)(U:BB)(Y:L2.St)(ts:Bn)(vs:B0):Prop where
 rep:∃fp gp,fH K CL H Z U Y fp/\aQ K CL H Z ts vs gp/\(fp++gp).Nodup/\∀a∈fp++gp,Z a=none/\b.B a=none
 bh:aB b.B H
 zz:aB b.Z Z
 zh:aB Z H
 new:∀a o,Z a=some o->b.Z a=none->b.B a=none
 tp:∀a o,H a=some o->ju o=true->Z a=some o
 tab:ny CL b.Z
variable{b:Bx}
theorem ny.mono{A B:Hp}(h:ny CL A)(e:aB A B):ny CL B:=λx a h0=>e _ _ (h x a h0)
theorem bq.QH(S:Qao):ny CL Z:=S.tab.mono S.zz
theorem bq.Nh(S:Qao):ny CL H:=S.QH.mono S.zh
def Jv{A B:Hp}(e:aB A B)(h:B a=none):A a=none:=e.free h
variable{p:Addr}{o:HO}
theorem aB.upd(h:Qdt):aB H (upd H p o):=λb u e=>au (aM e h)▸e
theorem bq.view(S:QbT):bz K CL H t.cu v:=by
 obtain⟨fp,gp,_,r,_,_⟩:=S.rep;cases r with
 | cons r _=>exact r.cu S.zh λ_ _=>rfl
theorem bq.pop(S:QbT):bq K CL b H Z U Y ts vs:=by
 obtain⟨fp,gp,e,r,nd,k⟩:=S.rep;cases r with
 | @cons _ _ _ _ f1 f2 f c=>
  refine⟨⟨fp,f2,e,c,nd.sublist QmG,λa d=>k a ?_⟩,S.bh,S.zz,S.zh,S.new,S.tp,S.tab⟩;obtain h|h:=iw.1 d
  .exact i4 _ h
  simp_all
theorem bq.push{d:D}(S:Qao)(r:QcO):bq K CL b H Z U Y (.sh d::ts) QaS:=by
 obtain⟨fp,gp,e,a,nd,k⟩:=S.rep;exact⟨⟨fp,_,e,.cons (.sh r) a,nd,k⟩,S.bh,S.zz,S.zh,S.new,S.tp,S.tab⟩
theorem bq.Jw(S:QbT):∃Z',aB Z Z'/\bq K CL b H Z' U Y (.sh t.cu::ts) QaS:=by
 classical
 obtain⟨fp,gp,e,r,nd,k⟩:=S.rep;cases r with
 | @cons _ _ _ _ f1 f2 m l=>
  have g:=λa c=>k a (iF _ QkD);have sz:aB Z _:=λa o q=>by
   by_cases c:a∈f1
   .rw[(g a c).1]at q;cases q
   .show(if a∈f1 then H a else Z a)=some o;rw[bX c];exact q
  have f:=l2.1 nd;have n:∀a∈fp++f2,a∉f1:=λa c h1=>by
   obtain h|h:=iw.1 c
   .exact f.2.2 a h a (i4 _ h1) rfl
   .exact(l2.1 f.2.1).2.2 a h1 a h rfl
  refine⟨ _,sz,⟨⟨fp,[]++f2,e.mono sz Qck,.cons (.sh (m.cu sz λa c=>cq c)) (l.mono sz λ_ _=>rfl),?_,λa c=>?_⟩,S.bh,S.zz.trans sz,λa o q=>?_,λa o q z=>?_,λa o q i=>?_,S.tab⟩⟩
  .exact nd.sublist QmG
  .have j:a∈fp++f2:=c;refine⟨?_,(k a ?_).2⟩
   .rw[bX (n a j)];refine(k a ?_).1;obtain h|h:=iw.1 j
    .exact i4 _ h
    .exact iF _ (iF _ h)
   simp_all
  .have d:=q;by_cases c:a∈f1
   .rw[cq c]at d;exact d
   .rw[bX c]at d;exact S.zh a o d
  .have d:=q;by_cases c:a∈f1
   .exact(g a c).2
   .rw[bX c]at d;exact S.new a o d z
  .exact sz a o (S.tp a o q i)
variable{i:Nat}
theorem bq.UD(S:Qao)(hi:U[i]? = some QaI):∃v Z',Y[i]? = some QaQ/\aB Z Z'/\bq K CL b H Z' Qik Y (.sh t.cu::ts) QaS:=by
 classical
 obtain⟨fp,gp,e,r,nd,k⟩:=S.rep;obtain⟨v,f1,f2,d,hv,s,rt,put,_⟩:=e.get hi;subst s;have p:∀a∈f2,Z a=none/\b.B a=none:=λa c=>k a (by simp[c]);have sz:aB Z QkY:=λa o q=>by
  by_cases c:a∈f2
  .rw[(p a c).1]at q;cases q
  .show Qh4=some o;rw[bX c];exact q
 have w:∀a∈(f1++d)++gp,a∉f2:=λa c h2=>by
  have u:(Qe2++gp).Perm (f2++((f1++d)++gp)):=by
   rw[<- i3,<- i3];refine(List.perm_append_right_iff gp).2 ?_;rw[<- i3];exact(List.perm_append_right_iff d).2 mI
  exact(l2.1 (u.nodup_iff.1 nd)).2.2 a h2 a c rfl
 have n:bz K CL QkY t.cu v:=rt.cu sz λa c=>cq c;have l:Y.set i QaQ=Y:=by
  apply F1;intro j;rw[List.getElem?_set];split
  .rename_i h;subst h;split
   .exact hv.symm
   .rename_i h2;rw[List.getElem?_eq_none We]
  .rfl
 have e2:fH K CL H QkY Qik Y (f1++([]++d)):=by
  have:=put (H':=H) (t':=.sh t.cu) (v':=v) (g:=[]) sz Qck (.sh n)
  rwa [l]at this
 refine⟨v,λa=>if a∈f2 then H a else Z a,hv,sz,⟨⟨f1++([]++d),[]++gp,e2,.cons (.sh n) (r.mono sz λ_ _=>rfl),?_,λa c=>?_⟩,S.bh,S.zz.trans sz,λa o q=>?_,λa o q z=>?_,λa o q i=>sz a o (S.tp a o q i),S.tab⟩⟩
 .exact nd.sublist (oP QmG (nk _))
 .have m:a∈(f1++d)++gp:=c;have hm:a∈Qe2++gp:=by
   simp only[iw]at m ⊢;rcases m with(h|h)|h
   .exact .inl Qfj
   .exact .inl (.inr (.inr h))
   .exact .inr h
  refine⟨?_,(k a hm).2⟩;show Qh4=none;rw[bX (w a m)];exact(k a hm).1
 .have f:Qh4=some o:=q;by_cases c:a∈f2
  .rw[cq c]at f;exact f
  .rw[bX c]at f;exact S.zh a o f
 .have f:Qh4=some o:=q;by_cases c:a∈f2
  .exact(p a c).2
  .rw[bX c]at f;exact S.new a o f z
theorem bq.move(S:Qao)(hi:U[i]? = some QaI):∃v,Y[i]? = some QaQ/\bq K CL b H Z QdK Y Qb5 QaS:=by
 obtain⟨fp,gp,e,r,nd,k⟩:=S.rep;obtain⟨v,f1,f2,c,hv,g,rt,_,del⟩:=e.get hi;subst g;have d:Y.set i QaQ=Y:=by
  apply F1;intro j;rw[List.getElem?_set];split
  .rename_i h;subst h;split
   .exact hv.symm
   simp_all
  .rfl
 have f:((f1++Qhv)++gp).Perm ((f1++c)++(f2++gp)):=by
  have h1:(f2++c).Perm _:=mI;have h2:=(n7 f1 h1).append_right gp;simp_all
 refine⟨v,hv,⟨⟨ _,_,?_,.cons rt r,f.nodup_iff.1 nd,λa l=>k a (f.mem_iff.2 l)⟩,S.bh,S.zz,S.zh,S.new,S.tp,S.tab⟩⟩;have:=del (o:=some v)
 rwa [d]at this
theorem bq.look(S:Qao)(hi:U[i]? = some QaI):∃v,Y[i]? = some QaQ/\bz K CL H t.cu v:=by
 obtain⟨fp,gp,e,r,nd,k⟩:=S.rep;obtain⟨v,f1,f2,c,hv,a,rt,_,_⟩:=e.get hi;exact⟨v,hv,rt.cu S.zh λ_ _=>rfl⟩
theorem bq.ZN{d:D}(S:Qao)(hi:U[i]? = some QdJ):∃v,Y[i]? = some QaQ/\bz K CL Z d v:=by
 obtain⟨fp,gp,e,r,nd,k⟩:=S.rep;obtain⟨v,f1,f2,c,hv,a,rt,_,_⟩:=e.get hi;obtain⟨rfl,h⟩:=rt.F4;exact⟨v,hv,h⟩
theorem bq.set(S:QbT)(hi:i<U.length):bq K CL b H Z Qnv QeR ts vs:=by
 obtain⟨fp,gp,e,r,nd,k⟩:=S.rep;cases r with
 | @cons _ _ _ _ f1 f2 j h=>
  obtain⟨f,h1,d,h2,m⟩:=e.put j hi;have c:(f++f2).Perm (d++QkE):=by
   refine(m.append_right f2).trans ?_;rw[<- i3];exact mI.append_right f2
  have g:(d++QkE).Sublist _:=oP h2 (nk _);exact⟨⟨f,f2,h1,h,c.nodup_iff.2 (nd.sublist g),λa l=>k a (g.subset (c.mem_iff.1 l))⟩,S.bh,S.zz,S.zh,S.new,S.tp,S.tab⟩
mutual
def D.m7:D->Bool
 | .tup ds=>D.bf ds
 | .lst _=>false
 | .ins _ _=>false
 | .jt _=>false
 | .dct _=>false
 | .any=>false
 | .j5 _ _ _=>false
 | _=>true
def D.bf:BA->Bool
 | []=>true
 | d::ds=>d.m7&&D.bf ds
end
mutual
def T.clean:T->Bool
 | .sh d=>d.m7
 | .tup ts=>T.dW ts
 | .lst ts=>T.dW ts
 | .ins _ fs=>T.cX fs
 | .jt kvs=>D.bf (kvs.map (·.2))
 | .dct kvs=>T.Jx kvs
 | .pin _ t=>t.clean
 | .j5 _ _ _=>false
def T.dW:Bn->Bool
 | []=>true
 | t::ts=>t.clean&&T.dW ts
def T.cX:BS->Bool
 | []=>true
 | (_,t)::ts=>t.clean&&T.cX ts
def T.Jx:CA->Bool
 | []=>true
 | (_,t)::ts=>t.clean&&T.Jx ts
end
def bY(X:Cx)(CL:BM)(b:Bx)(e:Expr)(U:BB)(t:T)(U':BB):Prop:=
 ∀(H Z:Hp) (Y:L2.St) (ts:Bn) (vs:B0) (Q:VK),bq X.K CL b H Z U Y ts vs->(∀v H' Z',aB Z Z'->aB H H'->bq X.K CL b H' Z' U' Y Qb5 QaS->Q v H')->yJ X e Y H Q
def cN(X:Cx)(CL:BM)(b:Bx)(e:Expr)(U:BB)(d:D)(U':BB):Prop:=
 ∀(H Z:Hp) (Y:L2.St) (ts:Bn) (vs:B0) (Q:VK),bq X.K CL b H Z U Y ts vs->(∀v H' Z',aB Z Z'->aB H H'->bq X.K CL b H' Z' U' Y ts vs->bz X.K CL H' d v->Q v H')->yJ X e Y H Q
def sR(X:Cx)(CL:BM)(b:Bx)(e:Expr)(U:BB)(p:Bool)(U':BB):Prop:=
 ∀(H Z:Hp) (Y:L2.St) (ts:Bn) (vs:B0) (Q:EM),bq X.K CL b H Z U Y ts vs->(∀H' Z',aB Z Z'->aB H H'->bq X.K CL b H' Z' U' Y ts vs->Q p H')->ZM X e Y H Q
def Gf(X:Cx)(CL:BM)(b:Bx)(es:Ch)(U:BB)(tl:Bn)(U':BB):Prop:=
 ∀(H Z:Hp) (Y:L2.St) (ts:Bn) (vs:B0) (Q:EN),bq X.K CL b H Z U Y ts vs →
  (∀us H' Z',us.length=tl.length->aB Z Z'->aB H H'->bq X.K CL b H' Z' U' Y Qmb QdG->Q us H')->Ge X es Y H Q
def ZP(X:Cx)(CL:BM)(b:Bx)(es:Ch)(U:BB)(ds:BA)(U':BB):Prop:=
 ∀(H Z:Hp) (Y:L2.St) (ts:Bn) (vs:B0) (Q:EN),bq X.K CL b H Z U Y ts vs →
  (∀us H' Z',aB Z Z'->aB H H'->bq X.K CL b H' Z' U' Y ts vs->ay X.K CL H' ds us->Q us H')->Ge X es Y H Q
structure dw where
 nx:BB->Prop
 rt:T->BB->Prop
 bk:BB->Prop:=λ_=>False
 ct:BB->Prop:=λ_=>False
structure Meets(K:Frag)(CL:BM)(b:Bx)(Z:Hp)(ts:Bn)(vs:B0)(D:dw)(E:Ends):Prop where
 nx:∀U' Y' H' Z',aB Z Z'->bq K CL b H' Z' U' Y' ts vs->D.nx U'->E.nx Y' H'
 rt:∀t v H' Z' U' Y',aB Z Z'->bq K CL b H' Z' U' Y' Qb5 QaS->D.rt t U'->E.rt v H'
 bk:∀U' Y' H' Z',aB Z Z'->bq K CL b H' Z' U' Y' ts vs->D.bk U'->E.bk Y' H'
 ct:∀U' Y' H' Z',aB Z Z'->bq K CL b H' Z' U' Y' ts vs->D.ct U'->E.ct Y' H'
def WO(X:Cx)(CL:BM)(b:Bx)(st:Stmt)(U:BB)(D:dw):Prop:=
 ∀(H Z:Hp) (Y:L2.St) (ts:Bn) (vs:B0) (E:Ends),bq X.K CL b H Z U Y ts vs->Meets X.K CL b Z ts vs D E->WN X st E Y H
def cQ(X:Cx)(CL:BM)(b:Bx)(st:CI)(U:BB)(D:dw):Prop:=
 ∀(H Z:Hp) (Y:L2.St) (ts:Bn) (vs:B0) (E:Ends),bq X.K CL b H Z U Y ts vs->Meets X.K CL b Z ts vs D E->Fn X st E Y H
theorem Meets.mono{D:dw}{E:Ends}(M:Qtf)(e:QbR):Meets K CL b Z' ts vs D E:=
 ⟨λ_ _ _ _ s=>M.nx _ _ _ _ Qj1,λ_ _ _ _ _ _ s=>M.rt _ _ _ _ _ _ Qj1,λ_ _ _ _ s=>M.bk _ _ _ _ Qj1,λ_ _ _ _ s=>M.ct _ _ _ _ Qj1⟩
def UE(zh:∀a o,H a=some o->ju o=true->Z a=some o)(h:tL K H a xs):tL K Z a xs:=by
 rcases h with(h|⟨o,h⟩)|h
 .exact .inl (.inl (zh _ _ h rfl))
 .exact .inl (.inr ⟨o,zh _ _ h rfl⟩)
 .exact .inr h
theorem bz.m7(zh:∀a o,H a=some o->ju o=true->Z a=some o){d:D}(k:d.m7=true)(h:bz K CL H d v):bz K CL Z d v:=
 bz.rec (motive_2:=λd v _=>D.bf d=true->ay K CL Z d v) (motive_3:=λd v _=>True) (motive_4:=λd v _=>True) (motive_5:=λd v _=>True)
  (λ_=>.non) Qt7 QtE QtF (λ_ k=>by cases k) QtG (λh _ r k=>.tup (UE zh h) (r (‹_›))) (λ_ _ _ k=>by cases k) (λ_ _ _ k=>by cases k) (λ_ _ _ k=>by cases k) (λ_ _ _ k=>by cases k) (λ_ _ _ _ _ k=>by rw[D.m7]at k;cases k) QaC (λ_ _ h r k=>by rw[D.bf,lj]at k;exact .cons Qhw Qhx) trivial Qap trivial Qap trivial Qap h k
theorem ay.m7(zh:∀a o,H a=some o->ju o=true->Z a=some o){d:BA}{v:B0}(k:D.bf d=true)(h:ay K CL H d v):ay K CL Z d v:=
 ay.rec (motive_1:=λd v _=>d.m7=true->bz K CL Z d v) (motive_3:=λd v _=>True) (motive_4:=λd v _=>True) (motive_5:=λd v _=>True)
  (λ_=>.non) Qt7 QtE QtF (λ_ k=>by cases k) QtG (λh _ r k=>.tup (UE zh h) (r (‹_›))) (λ_ _ _ k=>by cases k) (λ_ _ _ k=>by cases k) (λ_ _ _ k=>by cases k) (λ_ _ _ k=>by cases k) (λ_ _ _ _ _ k=>by cases k) QaC (λ_ _ h r k=>by rw[D.bf,lj]at k;exact .cons Qhw Qhx) trivial Qap trivial Qap trivial Qap h k
variable{gs:CU}
theorem bR.clean{Z1:Hp}(a:∀{d:D} {v:V},d.m7=true->bz K CL Z1 d v->bz K CL Z d v){kvs:CO}(k:D.bf (kvs.map (·.2))=true)(h:bR K CL Z1 kvs gs):bR K CL Z kvs gs:=
 bR.ind (P:=λkvs gs=>D.bf (kvs.map _)=true->bR K CL Z kvs gs) QaC (λh _ i k=>by rw[kn,D.bf,lj]at k;exact .cons (a k.1 h) (i k.2)) h k
theorem bD.clean{Z1:Hp}(zh:∀a xs,Z1 a=some Qbc->Z a=some Qbc)(b:∀{d:D} {v:V},d.m7=true->bz K CL Z1 d v->bz K CL Z d v)(k:t.clean=true)(h:bD K CL H Z1 t v fp):bD K CL H Z t v fp:=
 bD.rec (motive_2:=λt v fp _=>T.dW t=true->aQ K CL H Z t v fp) (motive_3:=λt v fp _=>T.cX t=true->cM K CL H Z t v fp) (motive_4:=λt v fp _=>T.Jx t=true->cG K CL H Z t v fp)
  (λh k=>.sh (b (‹_›) h)) (λh _ r k=>.tup (zh _ _ h) (r (‹_›))) (λh _ r k=>.lst h (r (‹_›))) (λh _ r k=>.ins h (r (‹_›))) (λh f k=>.jt h (bR.clean b (‹_›) f)) (λh _ r k=>.dct h (r (‹_›))) (λ_ r k=>.pin (r (‹_›))) (λ_ _ _ k=>by rw[T.clean]at k;cases k) QaC (λ_ _ h r k=>by rw[T.dW,lj]at k;exact .cons Qhw Qhx) QaC (λ_ _ h r k=>by rw[T.cX,lj]at k;exact .cons Qhw Qhx) QaC (λ_ _ h r k=>by rw[T.Jx,lj]at k;exact .cons Qhw Qhx) h k
theorem bq.back{W W':Hp}(S:Qao)(p:QcN)(s:aB Z W)(ww:aB W W')(m:aB W' H')(new:∀a o,W' a=some o->W a=none->H a=none)
  (tp:∀a o,H' a=some o->ju o=true->W' a=some o) (r:bD K CL H' W' t v fp) (nd:fp.Nodup) (own:∀a∈fp,W' a=none/\H a=none) (c:W=Z\/t.clean=true) :
  ∃Z',aB Z Z'/\bq K CL b H' Z' U Y Qb5 QaS:=by
 classical
 let Z':Hp:=λa=>if (H a).isSome=true then Z a else W' a
 have zs:∀{a:Addr} {o:HO},H a=some o->Z' a=Z a:=λ{a o} e=>by
  show Qp7=Z a;rw[cq (by rw[e];rfl)]
 have zn:∀{a:Addr},H a=none->Z' a=W' a:=λ{a} e=>by
  show Qp7=W' a;rw[bX (by rw[e];simp)]
 have sz:aB Z Z':=λa o q=>by rw[zs (S.zh a o q)];exact q
 have l:∀a o,Z' a=some o->W' a=some o:=λa o q=>by
  cases e:H a with
  | none=>rw[zn e]at q;exact q
  | some u=>rw[zs e]at q;exact ww a o (s a o q)
 have g:∀a o,H' a=some o->ju o=true->Z' a=some o:=λa o q i=>by
  cases e:H a with
  | none=>rw[zn e];exact tp a o q i
  | some u=>
   rw[zs e];have:=p a u e;rw[q]at this;cases this;exact S.tp a o e i
 have x:bD K CL H' Z' t v fp:=by
  obtain c|c:=c
  .have:Z'=W':=by
    funext a;cases e:H a with
    | none=>exact zn e
    | some u=>
     rw[zs e];cases q:W' a with
     | none=>
      cases j:Z a with
      | none=>rfl
      | some o=>rw[ww a o (s a o j)]at q;cases q
     | some o=>
      cases j:W a with
      | none=>rw[new a o q j]at e;cases e
      | some y=>
       have:=ww a y j;rw[q]at this;cases this;rw[<- c];exact j
   rw[this];exact r
  .refine bD.clean (λa xs h=>?_) (λ{d v} k h=>?_) c r
   .exact g a _ (m a _ h) rfl
   .exact bz.m7 (H:=H') g k (h.mono m)
 obtain⟨f0,g0,e0,w,n,k0⟩:=S.rep;have old:∀a∈f0++g0,∃o,H a=some o:=λa f=>(iw.1 f).elim (e0.there a) (w.there a);have keep:∀a∈f0++g0,H' a=H a:=λa f=>by
  obtain⟨o,e⟩:=old a f;rw[e];exact p a o e
 refine⟨Z',sz,⟨⟨f0,fp++g0,e0.mono sz (λa f=>keep a (i4 _ f)),.cons x (w.mono sz λa f=>keep a (iF _ f)),?_,λa f=>?_⟩,S.bh.trans p,S.zz.trans sz,λa o q=>m a o (l a o q),λa o q z=>?_,g,S.tab⟩⟩
 .have A:(f0++(fp++g0)).Perm (fp++(f0++g0)):=by
   rw[<- i3,<- i3];exact mI.append_right g0
  refine A.nodup_iff.2 (l2.2 ⟨nd,n,λa f c B e=>?_⟩);subst e;obtain⟨o,q⟩:=old a B;rw[(own a f).2]at q;cases q
 .have:a∈f0++g0\/a∈fp:=by
   simp only[iw]at f ⊢;obtain h|h|h:=f
   .exact .inl Qfj
   .exact .inr h
   .exact .inl (.inr h)
  obtain h|h:=this
  .obtain⟨o,q⟩:=old a h;exact⟨by rw[zs q];exact(k0 a h).1,(k0 a h).2⟩
  .exact⟨by rw[zn (own a h).2];exact(own a h).1,S.bh.free (own a h).2⟩
 .cases e:H a with
  | none=>exact S.bh.free e
  | some u=>rw[zs e]at q;exact S.new a o q z
section
variable{δ1 U2:BB}{e1 e2:Expr}{pos:Pos}{d d1 d2:D}
noncomputable def Ni(h:QaJ):cN X CL b e U t.cu δ1:=λH Z Y ts vs Q S k=>h H Z Y ts vs Q S λv H' Z' z s a=>k v H' Z' z s a.pop a.view
def ak(h:Qir):cN X CL b e U d δ1:=by have:=Ni h;rwa [T.cu]at this
noncomputable def fq(h:Qcw)(i:d.m7=true):bY X CL b e U Qa3 δ1:=λH Z Y ts vs Q S k=>h H Z Y ts vs Q S λv H' Z' z s a r=>k v H' Z' z s (a.push (bz.m7 a.tp i r))
def QI(h:QaJ):bY X CL b e U QgB δ1:=λH Z Y ts vs Q S k=>h H Z Y ts vs Q S λv H' Z' z s d=>by
 obtain⟨Z2,a,c⟩:=d.Jw;exact k v H' Z2 (z.trans a) s c
def jG{i:Int}{j:Nat}:bY X CL b Ql4 U Qj2 U:=λH Z Y ts vs Q S k=>cz aiU (k _ _ Z Qr Qr (S.push Qba))
def mC{i:Bool}{j:Nat}:bY X CL b (.Constant (.bool i) j pos) U (.sh (.bl i)) U:=λH Z Y ts vs Q S k=>cz OP (k _ _ Z Qr Qr (S.push (.bl i)))
def Jy{j:Nat}:bY X CL b QsX U Qhh U:=λH Z Y ts vs Q S k=>cz aiV (k _ _ Z Qr Qr (S.push .non))
def cg{x:Str}{j:Nat}:bY X CL b QlR U (.sh Qbk) U:=λH Z Y ts vs Q S k=>cz aiW (k _ _ Z Qr Qr (S.push Qbk))
section
variable{x:Str}(i:Nat)(hi:X.N[i]? = some x:=by rfl)(hv:QnR:=by first|exact Or.inl rfl|exact Or.inr (Or.inl rfl)|exact Or.inr (Or.inr rfl))(hd:AD x:=by decide)(iV:AE x:=by decide)
include hi hv hd iV
def ajH(h:U[i]? = some QdJ:=by rfl):bY X CL b QaE U Qa3 U:=λH Z Y ts vs Q S k=>by
 obtain⟨v,e,r⟩:=S.ZN h;exact cz QgG ⟨v,e,k v H Z Qr Qr (S.push r)⟩
def aeu(h:U[i]? = some QaI:=by rfl):bY X CL b QaE U QgB Qik:=λH Z Y ts vs Q S k=>by
 obtain⟨v,Z',e,z,a⟩:=S.UD h;exact cz QgG ⟨v,e,k v H Z' z Qr a⟩
def aev(h:U[i]? = some QaI:=by rfl):bY X CL b QaE U t QdK:=λH Z Y ts vs Q S k=>by
 obtain⟨v,e,a⟩:=S.move h;exact cz QgG ⟨v,e,k v H Z Qr Qr a⟩
def ajI(h:U[i]? = some QaI:=by rfl):cN X CL b QaE U t.cu U:=λH Z Y ts vs Q S k=>by
 obtain⟨v,e,r⟩:=S.look h;exact cz QgG ⟨v,e,k v H Z Qr Qr S r⟩
end
noncomputable def sk:D->Option V
 | .non=>some .non
 | .bl b=>some Qd5
 | .int i=>some Qba
 | .str x => some Qbk
 | _=>none
theorem bz.sc{d:D}{w:V}(r:QcO)(h:sk d=some w):v=w:=by
 cases r<;>first|(exact l5 h)|(cases h)
def aew{d:D}{w:V}(h:sk d=some w):bz K CL Z d w:=by
 cases d<;>first|(cases h;constructor)|(cases h)
def xA{op:QfA}{r:R2}{c a w:V}(j:QuS)(h1:Qux)(h2:Qt8)(s1:sk d1=some c)(s2:sk d2=some a)(s3:sk d=some w)
  (i:∀(H:Hp) (Q:VK),Q w H->r c a H Q):bY X CL b (.BinOp e1 op e2 pos) U Qa3 U2:=λH Z Y ts vs Q S k=>by
 refine cz (M4 j cL cL) (h1 H Z Y ts vs _ S λv1 H1 Z1 f k1 m h=>h2 H1 Z1 Y ts vs _ m λv2 H2 Z2 e k2 l g=>?_);rw[h.sc s1,g.sc s2];exact i H2 Q (k w H2 Z2 (f.trans e) Qac (l.push (aew s3)))
noncomputable def cy{i j:Int}(h1:QbF)(h2:Qcc):bY X CL b Qga U (.sh (.int (i+j))) U2:=xA ajh h1 h2 rfl rfl rfl λ_ _ q=>⟨i,j,rfl,rfl,q⟩
noncomputable def qJ{i j:Int}(h1:QbF)(h2:Qcc):bY X CL b (.BinOp e1 .Sub e2 pos) U (.sh (.int (i-j))) U2:=xA aji h1 h2 rfl rfl rfl λ_ _ q=>⟨i,j,rfl,rfl,q⟩
noncomputable def xB{i j:Int}(h1:QbF)(h2:Qcc)(c:FO i j):bY X CL b QsL U (.sh (.int (i*j))) U2:=xA ajj h1 h2 rfl rfl rfl λ_ _ q=>⟨i,j,rfl,rfl,c,q⟩
noncomputable def bZ{i j:Int}(h1:QbF)(h2:Qcc)(c:0<j):bY X CL b (.BinOp e1 .Mod e2 pos) U (.sh (.int (i % j))) U2:=xA ajk h1 h2 rfl rfl rfl λ_ _ q=>⟨i,j,rfl,rfl,c,q⟩
noncomputable def dc{i j:Int}(h1:QbF)(h2:Qcc)(c:Nt i j):bY X CL b (.BinOp e1 .FloorDiv e2 pos) U (.sh (.int (i / j))) U2:=xA aea h1 h2 rfl rfl rfl λ_ _ q=>⟨i,j,rfl,rfl,c,q⟩
noncomputable def QJ{i j:Int}(h1:QbF)(h2:Qcc)(c:Nl i j):bY X CL b (.BinOp e1 .Pow e2 pos) U (.sh (.int (i ^ j.toNat))) U2:=xA ajl h1 h2 rfl rfl rfl λ_ _ q=>⟨i,j,rfl,rfl,c,q⟩
noncomputable def nA{x y:Str}(h1:QlT)(h2:cN X CL b e2 δ1 (.str y) U2)(c:x.length+y.length<=sizeLine):bY X CL b Qga U (.sh (.str (x++y))) U2:=xA Qs h1 h2 rfl rfl rfl λ_ _ q=>⟨x,y,rfl,rfl,c,q⟩
def Du{op:CmpOp}{r:R2}{p:Bool}{i h:V}(l:Qmt)(h1:Qux)(h2:Qt8)(s1:sk d1=some i)(s2:sk d2=some h)
  (j:∀(H:Hp) (Q:VK),Q (.bl p) H->r i h H Q) (hm:behindInMarks op e2=false):sR X CL b Qsm U p U2/\bY X CL b Qsm U (.sh (.bl p)) U2:=by
 constructor
 .intro H Z Y ts vs Q S k;refine yK (yC l cL cL hm) (h1 H Z Y ts vs _ S λv1 H1 Z1 c k1 g e=>h2 H1 Z1 Y ts vs _ g λv2 H2 Z2 a k2 f d=>?_);rw[e.sc s1,d.sc s2];exact j H2 _ ⟨p,rfl,k H2 Z2 Qdd Qac f⟩
 .intro H Z Y ts vs Q S k;refine cz (Cz l cL cL hm) (h1 H Z Y ts vs _ S λv1 H1 Z1 c k1 g e=>h2 H1 Z1 Y ts vs _ g λv2 H2 Z2 a k2 f d=>?_);rw[e.sc s1,d.sc s2];exact j H2 _ (k _ H2 Z2 Qdd Qac (f.push (.bl p)))
theorem eY{i j:Int}(h1:QbF)(h2:Qcc):sR X CL b Qij U QmH U2/\bY X CL b Qij U QvX U2:=
 Du ON h1 h2 rfl rfl (λ_ _ q=>⟨rfl,by simp_all ⟩) (xo _)
theorem Dv{i j:Int}(h1:QbF)(h2:Qcc):sR X CL b Qev U (!decide (i=j)) U2/\bY X CL b Qev U QlD U2:=
 Du Zj h1 h2 rfl rfl (λ_ _ q=>⟨rfl,by simp_all ⟩) (xo _)
theorem iS{i j:Str}(h1:Qsn)(h2:Qr1):sR X CL b Qij U QmH U2/\bY X CL b Qij U QvX U2:=
 Du ON h1 h2 rfl rfl (λ_ _ q=>⟨rfl,by simp_all ⟩) (xo _)
theorem ZQ{i j:Str}(h1:Qsn)(h2:Qr1):sR X CL b Qev U (!decide (i=j)) U2/\bY X CL b Qev U QlD U2:=
 Du Zj h1 h2 rfl rfl (λ_ _ q=>⟨rfl,by simp_all ⟩) (xo _)
def UG{i j:Int}(h1:QbF)(h2:Qcc):sR X CL b Qr2 U Qn4 U2/\bY X CL b Qr2 U (.sh (.bl Qn4)) U2:=Du anW h1 h2 rfl rfl Qqz (xo _)
def HL{i j:Int}(h1:QbF)(h2:Qcc):sR X CL b Qr3 U Qn5 U2/\bY X CL b Qr3 U (.sh (.bl Qn5)) U2:=Du anY h1 h2 rfl rfl Qqz (xo _)
end
theorem aQ.split:∀{as bs:Bn} {us ws:B0} {gp:BY},as.length=us.length->aQ K CL H Z (as++bs) QkB gp->∃g1 g2,gp=g1++g2/\aQ K CL H Z as us g1/\aQ K CL H Z bs ws g2
 | [],_,[],_,gp,_,r=>⟨[],gp,rfl,.nil,r⟩
 | [],_,_::_,_,_,h,_=>by simp at h
 | _::_,_,[],_,_,h,_=>by simp at h
 | a::as,bs,u::us,ws,gp,h,r=>by
  cases r with
  | @cons _ _ _ _ f1 f2 c b=>
   obtain⟨g1,g2,e,h1,h2⟩:=aQ.split WA b;exact⟨ _,g2,WA,.cons c h1,h2⟩
variable{us:B0}
theorem aQ.app{as bs:Bn}{ws:B0}{g1 g2:BY}(h:aQ K CL H Z as us g1)(q:aQ K CL H Z bs ws g2):aQ K CL H Z (as++bs) QkB QcJ:=
 aQ.ind (P:=λas us g1=>aQ K CL H Z (as++bs) QkB QcJ) q (λr _ i=>by rw[i3];exact .cons r i) h
theorem aQ.rev:∀{as:Bn} {us:B0} {g:BY},aQ K CL H Z as.reverse us.reverse g->∃b,aQ K CL H Z as us b/\b.Perm g
 | [],[],g,r=>by grind
 | [],u::us,g,r=>by have:=r.length;simp at this
 | a::as,[],g,r=>by have:=r.length;simp at this
 | a::as,u::us,g,r=>by
  rw[pE,pE]at r;have hl:=r.length;obtain⟨g1,g2,e,d,c⟩:=aQ.split WA r;subst e;obtain⟨b,f,p⟩:=aQ.rev d;cases c with
  | @cons _ _ _ _ f1 f2 q1 h=>
   cases h;refine⟨ _,.cons q1 f,?_⟩;rw[js];exact(n7 f1 p).trans mI
theorem aQ.HH:∀{ds:BA} {us:B0},ay K CL Z ds us->aQ K CL H Z Qcz us []
 | _,_,.nil=>.nil
 | _,_,.cons r t=>.cons (.sh r) (aQ.HH t)
theorem aQ.toF:∀{ds:BA} {us:B0} {g:BY},aQ K CL H Z Qcz us g->ay K CL Z ds us/\g=[]
 | [],_,_,r=>by
  have a:=r;cases a;exact⟨.nil,rfl⟩
 | d::ds,_,_,r=>by
  have a:=r;cases a with
  | cons c b=>
   obtain⟨rfl,h⟩:=c.F4;obtain⟨q,e⟩:=aQ.toF b;exact⟨.cons h q,‹_› ⟩
theorem kU:∀(ds:BA),T.cD Qcz=ds
 | []=>rfl
 | d::ds=>by rw[kn,T.cD,kU ds,T.cu]
variable{tl:Bn}
theorem bq.Jz(S:QrC)(hl:Qm6)(d:Qdt) :
  aB Z Qnw/\aB H Qnx/\bq K CL b Qnx Qnw U Y (.tup tl::ts) Qe5:=by
 obtain⟨fp,gp,e,r,nd,k⟩:=S.rep;obtain⟨g1,g2,n,l,j⟩:=aQ.split WB r;subst n;obtain⟨s,m,pm⟩:=l.rev;have g:=S.zh.free d;have sz:aB Z Qnw:=aB.upd g;have sh:aB H Qnx:=aB.upd d;have keep:∀a∈fp++QcJ,a≠p:=λa c=>by
  have:∃o,H a=some o:=by
   obtain h|h:=iw.1 c
   .exact e.there a h
   .exact r.there a h
  obtain⟨o,q⟩:=this;exact aM q d
 have f:=(pm.append_right g2).append_left fp;have kk:=λa c=>keep a Qnr;refine⟨sz,sh,⟨⟨fp,_,e.mono sz Qeu,.cons (.tup aC (m.mono sz λa c=>au (kk a (by simp[c])))) (j.mono sz λa c=>au (keep a (by simp[c]))),f.nodup_iff.2 nd,λa c=>?_⟩,S.bh.trans sh,S.zz.trans sz,λa o q=>?_,λa o q z=>?_,λa o q i=>?_,S.tab⟩⟩
 .exact⟨ au (kk a c)▸(k a Qnr).1,(k a Qnr).2⟩
 .by_cases c:a=p
  .subst c;rw[aC]at q ⊢;exact q
  .rw[au c]at q ⊢;exact S.zh a o q
 .by_cases c:a=p
  .subst c;exact S.bh.free d
  .rw[au c]at q;exact S.new a o q z
 .by_cases c:a=p
  .subst c;rw[aC]at q ⊢;exact q
  .rw[au c]at q ⊢;exact S.tp a o q i
theorem bq.nB{g0:BY}(S:QrC)(hl:Qm6)(f:Qdt) :
  aB H Qny/\bq K CL b Qny Z U Y (.lst tl::ts) Qe5:=by
 obtain⟨fp,gp,e,r,nd,k⟩:=S.rep;obtain⟨g1,g2,t,n,m⟩:=aQ.split WB r;subst t;obtain⟨j,s,pm⟩:=n.rev;have l:=S.zh.free f;have sh:aB H Qny:=aB.upd f;have keep:∀a∈fp++QcJ,a≠p:=λa c=>by
  have:∃o,H a=some o:=by
   obtain h|h:=iw.1 c
   .exact e.there a h
   .exact r.there a h
  obtain⟨o,q⟩:=this;exact aM q f
 have g:=(pm.append_right g2).append_left fp;have kk:=λa c=>keep a (g.mem_iff.1 c);have d:(fp++((p::j)++g2)).Perm (p::(fp++(j++g2))):=by simp
 refine⟨sh,⟨⟨fp,_,e.mono Qr Qeu,.cons (.lst aC (s.mono Qr λa c=>au (kk a (by simp[c])))) (m.mono Qr λa c=>au (keep a (by simp[c]))),?_,λa c=>?_⟩,S.bh.trans sh,S.zz,S.zh.trans sh,S.new,λa o q i=>?_,S.tab⟩⟩
 .refine d.nodup_iff.2 (l4.2 ⟨λh=>kk p h rfl,g.nodup_iff.2 nd⟩)
 .obtain h|h:=fP.1 (d.mem_iff.1 c)
  .subst h;exact⟨l,S.bh.free f⟩
  .exact k a (g.mem_iff.1 h)
 .by_cases c:a=p
  .subst c;rw[aC]at q;cases q;cases i
  .rw[au c]at q;exact S.tp a o q i
variable{δ1 U2:BB}{e1 e2:Expr}{p q:Bool}{pos:Pos}{d:D}{ds:BA}
def bu:Gf X CL b [] U [] U:=λH Z Y ts vs Q S k=>QG di (k [] H Z rfl Qr Qr S)
theorem aG(h1:QaJ)(h2:Gf X CL b es δ1 tl U2)(hs:Qav:=by exact aZ rfl):Gf X CL b Qau U (t::tl) U2:=λH Z Y ts vs Q S k=>
 QG Qom (h1 H Z Y ts vs _ S λv H1 Z1 c k1 d=>h2 H1 Z1 Y _ _ _ d λus H2 Z2 hl a k2 f=>k _ H2 Z2 (by simp[hl]) Qdd Qac WA)
def av:ZP X CL b [] U [] U:=λH Z Y ts vs Q S k=>QG di (k [] H Z Qr Qr S .nil)
def ah(h1:Qcw)(h2:Qt9)(hs:Qav:=by exact aZ rfl):ZP X CL b Qau U (d::ds) U2:=λH Z Y ts vs Q S k=>
 QG Qom (h1 H Z Y ts vs _ S λv H1 Z1 c k1 i g=>h2 H1 Z1 Y _ _ _ i λus H2 Z2 a k2 h f=>k _ H2 Z2 Qdd Qac h QtH)
variable{j:Nat}
def nE(h:Qmv)(hl:Qne):bY X CL b Qi1 U (.tup tl) δ1:=λH Z Y ts vs Q S k=>
 cz (Zq MG) (h H Z Y ts vs _ S λus H1 Z1 d e k1 i=>⟨ d▸hl,λp f=>by
  obtain⟨a,c,g⟩:=i.Jz d f;exact k _ _ _ (e.trans a) Qco g⟩)
theorem bG(h:Qtg)(hl:Qb7):bY X CL b Qi1 U QdE δ1:=by
 have:=QI (nE (pos:=pos) (j:=j) h WA)
 rwa [T.cu,kU]at this
def b8(h:Qmv)(hl:Qne):bY X CL b Qn7 U QeL δ1:=λH Z Y ts vs Q S k=>
 cz (ajq MG) (h H Z Y ts vs _ S λus H1 Z1 a d k1 g=>⟨ a▸hl,λp e=>by
  obtain⟨c,f⟩:=g.nB (g0:=[]) a e;exact k _ _ _ d Qco f⟩)
def fX(h:Qid)(he:∀whole,isTrue e X.env whole=(do let v ← whole;standAt e.pos;holding [v] Qhg):=by intro _;rfl):sR X CL b e U p δ1:=λH Z Y ts vs Q S k=>
 yK (aiY cL he) (h H Z Y ts vs _ S λv H1 Z1 c k1 a=>⟨p,by have:=a.view;exact this.sc rfl,k H1 Z1 c k1 a.pop⟩)
def oW(h:Qb8):sR X CL b QtI U (!p) δ1:=λH Z Y ts vs Q S k=>yK (ai1 q5) Qiz
noncomputable def EE(X:Cx)(e:Expr):TT:=λY H Q=>∀(whole:Sem Value) (pins:BC) (s:Qb),Inv X pins Y H s->wpAny Qe X.A Qtc QeV X.xe s
noncomputable def Me:PW X e (EE X e):=λwhole pins s _ _ _ I h=>h _ pins s I
def p5(X:Cx)(CL:BM)(b:Bx)(e:Expr)(U:BB)(p:Bool)(U':BB):Prop:=
 ∀(H Z:Hp) (Y:L2.St) (ts:Bn) (vs:B0) (Q:EM),bq X.K CL b H Z U Y ts vs->(∀H' Z',aB Z Z'->aB H H'->bq X.K CL b H' Z' U' Y ts vs->Q p H')->EE X e Y H Q
noncomputable def Dq{t:TT}(h:PW X e t)(q:t Y H Q):EE X e Y H Q:=λwhole pins s I=>h _ pins s Y H Q I q
noncomputable def kh(h:Qvp):sR X CL b e U p δ1:=λH Z Y ts vs Q S k pins s I=>h H Z Y ts vs Q S k _ pins s I
def om(h:Qb8):p5 X CL b (.BoolOp .And [e] pos) U p δ1:=λH Z Y ts vs Q S k=>Dq (ad6 q5) Qiz
def jv(h:Qb8):p5 X CL b (.BoolOp .Or [e] pos) U p δ1:=λH Z Y ts vs Q S k=>Dq (aiZ q5) Qiz
theorem lU(h:Qb8)(h2:p=true->p5 X CL b Qr4 δ1 q δ1):p5 X CL b Qr5 U (p&&q) δ1:=λH Z Y ts vs Q S k=>
 Dq (ai0 q5 Me) (h H Z Y ts vs _ S λH1 Z1 a k1 c=>by
  cases p with
  | true=>exact QC QpA
  | false=>exact QB (k H1 Z1 a k1 c))
theorem lE(h:Qb8)(h2:p=false->p5 X CL b Qso δ1 q δ1):p5 X CL b Qsp U (p || q) δ1:=λH Z Y ts vs Q S k=>
 Dq (anz q5 Me) (h H Z Y ts vs _ S λH1 Z1 a k1 c=>by
  cases p with
  | true=>exact QC (k H1 Z1 a k1 c)
  | false=>exact QB QpA)
def Ao{op:BoolOp}(h:QaJ):bY X CL b (.BoolOp op [e] pos) U t δ1:=λH Z Y ts vs Q S k=>cz (ai2 cL) Qiz
def Aq(h:Qid)(h2:p=true->bY X CL b Qr4 δ1 (.sh (.bl q)) δ1):bY X CL b Qr5 U (.sh (.bl (p&&q))) δ1:=λH Z Y ts vs Q S k=>
 cz (ai3 cL cL) (h H Z Y ts vs _ S λv H1 Z1 c k1 a=>by
  have hv:=by have:=a.view;exact this.sc rfl
  refine⟨p,hv,?_⟩;cases p with
  | true=>exact QC Qpx
  | false=>exact QB (k _ H1 Z1 c k1 (a.pop.push Qfi)))
def OS(h:Qid)(h2:p=false->bY X CL b Qso δ1 (.sh (.bl q)) δ1):bY X CL b Qsp U (.sh (.bl (p || q))) δ1:=λH Z Y ts vs Q S k=>
 cz (anC cL cL) (h H Z Y ts vs _ S λv H1 Z1 c k1 a=>by
  have hv:=by have:=a.view;exact this.sc rfl
  refine⟨p,hv,?_⟩;cases p with
  | true=>exact QC (k _ H1 Z1 c k1 (a.pop.push QbA))
  | false=>exact QB Qpx)
def ajK(h:Qid):bY X CL b QtI U (.sh (.bl (!p))) δ1:=λH Z Y ts vs Q S k=>
 cz (L2.ai4 cL) (h H Z Y ts vs _ S λv H1 Z1 c k1 a=>⟨p,by have:=a.view;rw[T.cu]at this;exact this.sc rfl,k _ H1 Z1 c k1 (a.pop.push (.bl (!p)))⟩)
theorem ajL(h:Qb8)(h1:p=true->bY X CL b e1 δ1 t U2)(h2:p=false->bY X CL b e2 δ1 t U2):bY X CL b (.IfExp e e1 e2 pos) U t U2:=λH Z Y ts vs Q S k=>
 cz (Ze q5 cL cL) (h H Z Y ts vs _ S λH1 Z1 d k1 f=>by
  cases p with
  | true=>exact QC (h1 rfl H1 Z1 Y ts vs _ f λv H2 Z2 a k2 c=>k v H2 Z2 QoL Qac c)
  | false=>exact QB (h2 rfl H1 Z1 Y ts vs _ f λv H2 Z2 a k2 c=>k v H2 Z2 QoL Qac c))
variable{k:Int}
theorem CD(r:QfG)(h:Qg1):∃v,xq vs k=some v/\bz K CL Z d v:=by
 unfold xq at h ⊢;rw[<- r.length];cases e:Zx _ k with
 | none=>rw[e]at h;cases h
 | some j=>
  rw[e]at h;exact r.get h
def bI(h1:Qs0)(h2:QfH)(l:Qg1)(hs:vz e2:=by exactλ_ _=>rfl):cN X CL b QcY U d U2:=λH Z Y ts vs Q S kk=>
 cz (M8 Zy cL cL hs) (h1 H Z Y ts vs _ S λv1 H1 Z1 e k1 n i=>h2 H1 Z1 Y ts vs _ n λv2 H2 Z2 c k2 m h=>by
  have a:=i.mono k2;obtain⟨_,_,rfl,j,g⟩:=a.lS;obtain⟨v,hv,f⟩:=CD g l;exact⟨_,_,k,v,rfl,h.sc rfl,j,hv,kk v H2 Z2 Qj3 Qac m f⟩)
def bQ(h1:QlU)(h2:QfH)(l:Qg1)(hs:vz e2:=by exactλ_ _=>rfl):cN X CL b QcY U d U2:=λH Z Y ts vs Q S kk=>
 cz (M8 Uy cL cL hs) (h1 H Z Y ts vs _ S λv1 H1 Z1 e k1 n i=>h2 H1 Z1 Y ts vs _ n λv2 H2 Z2 c k2 m h=>by
  have a:=i.mono k2;obtain⟨_,_,rfl,j,g⟩:=a.gT;obtain⟨v,hv,f⟩:=CD g l;exact⟨_,_,k,v,rfl,h.sc rfl,j,hv,kk v H2 Z2 Qj3 Qac m f⟩)
variable{x:Str}
def ZS{c:Nat}(h1:QlT)(h2:QfH)(hl:x.length<=sizeLine)(g:xq x.cps.toList k=some c)(hs:vz e2:=by exactλ_ _=>rfl):bY X CL b QcY U (.sh (.str ⟨#[c]⟩)) U2:=λH Z Y ts vs Q S kk=>
 cz (M8 ajt cL cL hs) (h1 H Z Y ts vs _ S λv1 H1 Z1 d k1 i f=>h2 H1 Z1 Y ts vs _ i λv2 H2 Z2 a k2 h e=>
  ⟨x,k,c,f.sc rfl,e.sc rfl,hl,g,kk _ H2 Z2 QoL Qac (h.push (.str _))⟩)
def bK(h1:QlV)(h2:QfH)(j:Qg1)(hs:vz e2:=by exactλ_ _=>rfl):bY X CL b QcY U Qa3 U2:=λH Z Y ts vs Q S kk=>
 cz (M8 Zy cL cL hs) (h1 H Z Y ts vs _ S λv1 H1 Z1 e k1 l=>h2 H1 Z1 Y _ _ _ l λv2 H2 Z2 c k2 a h=>by
  obtain⟨fp,gp,_,r,_,_⟩:=a.rep;cases r with
  | cons r _=>
   replace r:=r.F4;obtain⟨rfl,r⟩:=r;obtain⟨_,_,rfl,i,g⟩:=r.lS;obtain⟨v,hv,f⟩:=CD g j;exact⟨_,_,k,v,rfl,h.sc rfl,aB.Gb a.zh i,hv,kk v H2 Z2 Qj3 Qac (a.pop.push f)⟩)
def QK(h1:bY X CL b e1 U QeT δ1)(h2:QfH)(j:Qg1)(hs:vz e2:=by exactλ_ _=>rfl):bY X CL b QcY U Qa3 U2:=λH Z Y ts vs Q S kk=>
 cz (M8 Uy cL cL hs) (h1 H Z Y ts vs _ S λv1 H1 Z1 e k1 l=>h2 H1 Z1 Y _ _ _ l λv2 H2 Z2 c k2 a h=>by
  obtain⟨fp,gp,_,r,_,_⟩:=a.rep;cases r with
  | cons r _=>
   replace r:=r.F4;obtain⟨rfl,r⟩:=r;obtain⟨_,_,rfl,i,g⟩:=r.gT;obtain⟨v,hv,f⟩:=CD g j;exact⟨_,_,k,v,rfl,h.sc rfl,a.zh.seq i,hv,kk v H2 Z2 Qj3 Qac (a.pop.push f)⟩)
theorem bq.qg:∀{ds:BA} {us:B0} {ts:Bn} {vs:B0},ay K CL Z ds us->bq K CL b H Z U Y ts vs->bq K CL b H Z U Y ((ds.map T.sh).reverse++ts) QdG
 | _,_,_,_,.nil,S=>S
 | _,_,ts,vs,.cons r t,S=>by
  rw[kn,pE,pE,i3,i3];exact bq.qg t (S.push r)
theorem bq.drops(S:Qrh)(hl:Qm6):bq K CL b H Z U Y ts vs:=by
 induction tl generalizing us with
 | nil=>
  cases us with
  | nil=>exact S
  | cons _ _=>simp at hl
 | cons t tl a=>
  cases us with
  | nil=>simp at hl
  | cons u us=>exact a S.pop WA
theorem bq.CF{ds:BA}(S:bq K CL b H Z U Y ((ds.map T.sh).reverse++ts) QdG)(hl:us.length=ds.length):ay K CL Z ds us:=by
 obtain⟨fp,gp,e,r,nd,k⟩:=S.rep;obtain⟨g1,g2,g,a,d⟩:=aQ.split (by simp[hl]) r;obtain⟨f,c,pm⟩:=a.rev;exact c.toF.1
section
variable{pp:Pos}{ds:BA}
def CG(hm:Qjv)(h:QcV)(f:Qkn:=by rfl)(hs:Qan:=by exact aZ rfl)(hpl:(backTo pos (starEach ([]:Ch) X.env)).any (·.1)=false:=by rfl):bY X CL b Qh3 U Qs1 δ1:=λH Z Y ts vs Q S k=>
 cz Qqi (h H Z Y ts vs _ S λv H1 Z1 a k1 g r=>by
  obtain⟨_,_,rfl,d,c⟩:=r.gT;exact⟨_,_,rfl,.inl d,c.length▸k _ H1 Z1 a k1 (g.push Qbq) ⟩)
def yL(hm:Qjv)(h:cN X CL b e U QdF δ1)(f:Qkn:=by rfl)(hs:Qan:=by exact aZ rfl):bY X CL b Qh3 U Qs1 δ1:=λH Z Y ts vs Q S k=>
 cz Qqi (h H Z Y ts vs _ S λv H1 Z1 a k1 g r=>by
  obtain⟨_,_,rfl,d,c⟩:=r.lS;exact⟨_,_,rfl,.inr d,by rw[<- c.length];exact k _ H1 Z1 a k1 (g.push Qbq)⟩)
def ki(hm:QfI)(h:Qth)(i:QfJ:=by rfl)(hv:Qr6:=by rfl)(hs:Qan:=by exact aZ rfl):bY X CL b Qk9 U QdL δ1:=λH Z Y ts vs Q S k=>
 cz Qrb (h H Z Y ts vs _ S λv H1 Z1 f k1 a=>by
  obtain⟨fp,gp,_,r,_,_⟩:=a.rep;cases r with
  | cons r _=>
   replace r:=r.F4;obtain⟨rfl,r⟩:=r;obtain⟨_,_,rfl,g,d⟩:=r.lS;refine⟨_,_,rfl,.inr (aB.Gb a.zh g),λl hl=>?_⟩;obtain⟨c,j⟩:=(bq.qg d a.pop).nB (g0:=[]) (by simp[d.length]) hl;exact k _ _ _ f Qco j)
def cS(hm:QfI)(h:QcV)(hi:Qdu)(i:QfJ:=by rfl)(hv:Qr6:=by rfl)(hs:Qan:=by exact aZ rfl):bY X CL b Qk9 U QdL δ1:=λH Z Y ts vs Q S k=>
 cz Qrb (h H Z Y ts vs _ S λv H1 Z1 f k1 d r=>by
  obtain⟨_,_,rfl,g,a⟩:=r.gT;refine⟨_,_,rfl,.inl g,λl hl=>?_⟩;obtain⟨c,j⟩:=(bq.qg (ay.m7 d.tp hi a) d).nB (g0:=[]) (by simp[a.length]) hl;exact k _ _ _ f Qco j)
def Qf(K:Frag)(CL:BM){A:Type}(n:Nat)(arg:Qaj)(Pre:Q2)(res:QaU):Sp:=λvs H Q _=>
 ∃(W:Hp) (a:A),aB W H/\(∀c o,H c=some o->ju o=true->W c=some o)/\ay K CL W Qcn vs/\(arg a).length=n/\Pre a/\ny CL W ∧
  ∀v H' W' fp,aB H H'->aB W W'->aB W' H'->(∀c o,W' c=some o->W c=none->H c=none)->(∀c o,H' c=some o->ju o=true->W' c=some o) →
   bD K CL H' W' QbL v fp->fp.Nodup->(∀c∈fp,W' c=none/\H c=none)->Q v H'
variable{A:Type}{k n:Nat}{f:Addr}{fd:QaT}{ps:At}{arg:Qaj}{Pre:Q2}{res:QaU}
def aeB(a:A)(F:Qqb)(m:Qea)(hm:Qje)(p:QiL)(u:Qgy)
  (h:QfX) (hn:QcP) (o:Pre a) (t:Qns) (s:QaA)
  (l:AD x:=by decide) (he:Qav:=by exact aZ rfl) (hpl:QaN:=by rfl) :
  bY X CL b QbW U QbL δ1:=λH Z Y ts vs Q S kk=>
 cz (Ji F m s hm p u .nil Ds MG l he hpl) (h H Z Y ts vs _ S λus H1 Z1 g k1 c r=>by
  rw[js];refine⟨H1,a,.refl _,λ_ _ q _=>q,r,hn,o,c.Nh,λv H' W' fp d ww j nw tp rt nd own=>?_⟩;obtain⟨Z',i,y⟩:=c.back d c.zh ww j nw tp rt nd own (.inr t);exact kk v H' Z' (g.trans i) (k1.trans d) y)
theorem ZT(a:A)(F:Qqb)(o:Qea)(hm:Qje)(q:QiL)(s:Qgy)
  (h:QhX) (hn:QcP) (p:Pre a) (r:QaA)
  (m:AD x:=by decide) (he:Qav:=by exact aZ rfl) (hpl:QaN:=by rfl) :
  bY X CL b QbW U QbL δ1:=λH Z Y ts vs Q S kk=>
 cz (Ji F o r hm q s .nil Ds MG m he hpl) (h H Z Y ts vs _ S λus H1 Z1 hl i k1 c=>by
  rw[js];have g:us.length=(arg a).length:=by simp_all
  have t:=c.drops (by simp[g]);refine⟨Z1,a,c.zh,c.tp,c.CF g,hn,p,c.QH,λv H' W' fp d ww l nw tp rt nd own=>?_⟩;obtain⟨Z',j,u⟩:=t.back d Qr ww l nw tp rt nd own Qae;exact kk v H' Z' (i.trans j) (k1.trans d) u)
variable{D D':dw}{st:Stmt}{dQ aog:CI}
theorem Meets.to{E:Ends}(M:Qtf)(h1:∀U,D'.nx U->D.nx U)(h2:∀t U,D'.rt t U->D.rt t U)(c:∀U,D'.bk U->D.bk U)(a:∀U,D'.ct U->D.ct U):Meets K CL b Z ts vs D' E:=
 ⟨λ_ _ _ _ s S k=>M.nx _ _ _ _ s S (h1 _ k),λ_ _ _ _ _ _ s S k=>M.rt _ _ _ _ _ _ s S (h2 _ _ k),λ_ _ _ _ s S k=>M.bk _ _ _ _ s S (c _ k),λ_ _ _ _ s S k=>M.ct _ _ _ _ s S (a _ k)⟩
def aq(h:D.nx U):cQ X CL b [] U D:=λH Z Y ts vs E S M=>Fh ad7 (M.nx U Y H Z Qr S h)
def bS(h:WO X CL b st U {D with nx:=λδ1=>cQ X CL b dQ δ1 D}):cQ X CL b (st::dQ) U D:=λH Z Y ts vs E S M=>
 Fh Qo8 (h H Z Y ts vs _ S ⟨λU' Y' H' Z' s a k=>k H' Z' Y' ts vs E a (M.mono s),M.rt,M.bk,M.ct⟩)
def ZV(h:D.bk U):WO X CL b (.Break pos) U D:=λH Z Y ts vs E S M=>lT Zf (M.bk U Y H Z Qr S h)
def aeC(h:D.ct U):WO X CL b (.Continue pos) U D:=λH Z Y ts vs E S M=>lT MX (M.ct U Y H Z Qr S h)
def ajM(h:QaJ)(k:D.rt t δ1):WO X CL b QvS U D:=λH Z Y ts vs E S M=>lT (ai6 cL) (h H Z Y ts vs _ S λv H1 Z1 a k1 c=>M.rt t v H1 Z1 δ1 Y a c k)
theorem aoh(h:Qb8)(h1:p=true->cQ X CL b dQ δ1 D)(h2:p=false->cQ X CL b aog δ1 D):WO X CL b (.If e dQ aog pos) U D:=λH Z Y ts vs E S M=>
 lT (anG q5 UC UC) (h H Z Y ts vs _ S λH1 Z1 a k1 c=>by
  cases p with
  | true=>exact QC (h1 rfl H1 Z1 Y ts vs E c (M.mono a))
  | false=>exact QB (h2 rfl H1 Z1 Y ts vs E c (M.mono a)))
def QL(i:Nat){pos':Pos}(h:QaJ)(k:QtJ)(hl:QcQ:=by decide)(d:Qbs:=by assumption)(hi:X.N[i]? = some x:=by rfl)(c:Qdo:=by first|exact .inl rfl|exact .inr rfl)
  (hs:Qdy:=by rfl) (hf:Qdp:=by first|exact .inl rfl|exact .inr rfl|assumption):WO X CL b Qlv U D:=λH Z Y ts vs E S M=>
 lT Qua (h H Z Y ts vs _ S λv H1 Z1 a k1 f=>M.nx _ _ H1 Z1 a (f.set hl) k)
end
noncomputable def entry(N:At)(ds:BA):BB:=ds.map Qiq++List.replicate (N.length-ds.length) none
theorem ku{K:Frag}{CL:BM}{H Z:Hp}:∀{ds:BA} {vs:B0} (n:Nat),ay K CL Z ds vs->fH K CL H Z (ds.map Qiq++List.replicate n none) Qri []
 | _,_,0,.nil=>.nil
 | _,_,n+1,.nil=>.skip (ku n .nil)
 | _,_,n,.cons r t=>.cons (.sh r) (ku n t)
variable{P:Qag}{w:World}{mg:Bi}{base:Heap}{qual:Str}{st:Stmt}{f:Addr}{fd:QaT}{N ps:At}
def JA{k:Nat}{sp:Sp}(F:Qdr)(S:Qds)(len:∀vs H Q E,sp vs H Q E->vs.length=ps.length)
  (b:∀(eB:Value) (A:Qas) (outer:D1) (s:Qb) (H:Hp) (vs:B0) (Q:VK) (E:XK),fd.code=eB->fj k Qvn->sp vs H Q E →
   ∃t,Ql (tN oj P w K mg base N qual QaX f eB A outer s H E).Qe Qbr t/\t {nx:=λ_ H'=>Q .non H',rt:=Q} (L2.start N vs) H):dz P w K mg base oj QaM f fd ps sp:=by
 obtain⟨dV,oc,od,kV,doc,pm,an,eB,ct,F3,rfl,lk,iV⟩:=F.ex;refine Ux lk iV S len λA outer s H vs Q E a c=>?_;obtain⟨t,h,q⟩:=b eB A _ s H vs Q E rfl a c;exact⟨t,h.Qe,q⟩
variable{A:Type}
theorem jH{k:Nat}{arg:Qaj}{Pre:Q2}{res:QaU}(F:Qdr)(S:Qds)
  (p:∀(eB:Value) (g:Qas) (outer:D1) (s:Qb) (H:Hp) (E:XK) (b:Bx) (a:A),fd.code=eB->fj k (g.deeper QfS)->Pre a →
   cQ (tN oj P w K mg base N qual QaX f eB g outer s H E).Qe CL b Qbr QgH {nx:=λ_=>res a=.sh .non,rt:=λt _=>t=res a}) :
  dz P w K mg base oj QaM f fd ps Qrj:=by
 refine JA F S (λvs H Q E h=>?_) (λeB g outer s H vs Q E iV m h=>?_)
 .obtain⟨W,a,_,_,r,hl,_⟩:=h;rw[<- r.length];exact hl
 .obtain⟨W,a,i,tp,r,hl,n,tb,kk⟩:=h;refine⟨_,UC,p eB g _ s H E ⟨H,W⟩ a iV m n H W _ [] [] _ ⟨⟨[],[],?_,.nil,nc,λa d=>by cases d⟩,.refl _,.refl _,i,λa o q z=>?_,tp,tb⟩ ⟨λU' Y' H' Z' s' c e=>?_,λt v H' Z' U' Y' s' c e=>?_,λ_ _ _ _ _ _ e=>e.elim,λ_ _ _ _ _ _ e=>e.elim⟩⟩
  .unfold entry L2.start;rw[<- r.length];exact ku _ r
  .grind
  .exact kk .non H' Z' [] c.bh c.zz c.zh c.new c.tp (by rw[e];exact .sh .non) nc λa d=>by cases d
  .have u:=e;subst u;obtain⟨fp,gp,_,l,nd,own⟩:=c.rep;cases l with
   | @cons _ _ _ _ f1 f2 j y=>
    have h1:=(l2.1 nd).2.1;exact kk v H' Z' f1 c.bh c.zz c.zh c.new c.tp j (l2.1 h1).1 λa d=>own a (iF _ QkF)
variable{prog:Qag}{A:Qas}{R:QsY}{s:Qb}{elt iter:Expr}{ifs:Ch}{scope:Scope}
theorem JB{target:Expr}{it acc:Value}(I:Nat->Shared->Prop)
  (turn:∀n s,I n s->wpAny Qah A (pyNext it) (λr d=>match r with
   | none=>R Qj4 d
   | some v=>wpAny Qah A (letOwnedTupleGo target it v) (λ_ b=>wpAny Qah A (assign target env v) (λ_ g=>
     wpAny Qah A (forIn ifs true λc r=>if r=true then do let ok ← isTrue c env (eval c env);pure QtK else pure QmI) (λok a=>
      if ok=true then wpAny Qah A (eval elt env) (λx f=>
       wpAny Qah A (call (.builtin "list.append") [acc,x]) (λ_ e=>∃m,m<n/\I m e) Qbi f) Qbi a
      else ∃m,m<n/\I m a) Qbi g) Qbi b) Qbi d) Qbi s)
  (n:Nat) (h:I n s) :
  codeAny Qah A (.compLoop (.ListComp elt [⟨target,iter,ifs,0⟩] scope pos) 0 it acc env) R s:=by
 refine codeAny_loop rfl I (λn s q=>?_) n h;refine wpAny_noted ?_;rw[compTurn_list];refine ec (wpAny_standAt (ec (la (turn n s q) (λr d j=>?_) λ_ _ h'=>h'.elim)));cases r with
 | none=>exact i2 j
 | some v=>
  refine ec (la j (λ_ b k=>?_) λ_ _ h'=>h'.elim);refine ec (la k (λ_ g p=>ec (la p (λok a i=>?_) λ_ _ h'=>h'.elim)) λ_ _ h'=>h'.elim);cases ok with
  | false=>exact i2 ⟨rfl,i⟩
  | true=>
   exact ec (ec (la i (λx f o=>ec (la o (λ_ e l=>i2 (i2 ⟨rfl,l⟩)) λ_ _ h'=>h'.elim)) λ_ _ h'=>h'.elim))
abbrev _root_.DA:=List (Str×NameKind)
noncomputable def eO(env:Env):DA->List Qlm->List Qlm
 | [],cs=>cs
 | (n,k)::r,cs=>eO env r (if k == .free then(n,(env.cells.lookup n).getD 0)::cs else cs)
theorem oX(h:∀x∈scope.names,x.2=.free->∃c,env.cells.lookup x.1=some c):closureFor scope env=pure (eO env scope.names []):=by
 have go:∀(l:Qec) (cs:Qec),(∀x∈l,x.2=.free->∃c,env.cells.lookup x.1=some c) →
   (forIn l cs λx r=>match x with|(name,kind)=>if (kind==NameKind.free)=true then do let a ← cellOf env name;pure (ForInStep.yield ((name,a)::r)) else pure QmI:Sem _)=pure (eO env l cs):=by
  intro l
  induction l with
  | nil=>intro cs _;rfl
  | cons x r f=>
   intro cs d;obtain⟨n,k⟩:=x;rw[List.forIn_cons];by_cases j:k=.free
   .subst j;obtain⟨c,g⟩:=d _ gk rfl;have e:cellOf env n=pure c:=by unfold cellOf;rw[g]
    simp only[vc,if_true,e,pure_bind];rw[f _ λy b=>d y (ij _ b)];simp[eO,if_true];rw[g];rfl
   .have i:Qm7=false:=by grind
    simp only[i,pj,n3,pure_bind];rw[f _ λy b=>d y (ij _ b)];simp[eO,i,pj,n3]
 unfold closureFor;have:=go _ [] h;simp only[bind_pure]at this ⊢;exact this
theorem qK{env:Env}:∀{l:DA} {cs:Qkd} {y:Str} {c:Addr},(∀x∈l,x.2=.free->∃c,env.cells.lookup x.1=some c)->(∀y c,cs.lookup y=some c->env.cells.lookup y=some c) →
  (eO env l cs).lookup y=some c->env.cells.lookup y=some c
 | [],cs,y,c,_,h,e=>h y c e
 | (n,k)::r,cs,y,c,a,h,e=>by
  refine qK (λz hz=>a z Qj8) (λz d hz=>?_) e;by_cases b:k=.free
  .subst b;obtain⟨g,f⟩:=a _ gk rfl;grind
  simp_all
theorem BI{env:Env}{y:Str}:∀{l:DA} {cs:Qkd},(∃c,cs.lookup y=some c)->∃c,(eO env l cs).lookup y=some c
 | [],cs,h=>h
 | (n,k)::r,cs,h=>by
  refine BI (l:=r) ?_;by_cases a:Qm7=true
  .rw[cq a,mf];by_cases b:(y==n)=true
   .rw[b];simp_all
   .have:(y==n)=false:=by simp_all
    rw[this];exact h
  .rw[bX a];exact h
theorem nF{env:Env}{y:Str}:∀{l:DA} {cs:Qkd},l.lookup y=some .free->∃c,(eO env l cs).lookup y=some c
 | [],_,h=>by simp at h
 | (n,k)::r,cs,h=>by
  rw[mf]at h;by_cases a:(y==n)=true
  .refine BI (l:=r) ?_;simp_all
  .have:(y==n)=false:=by simp_all
   rw[this]at h;exact nF (l:=r) h
def dD(X:Cx)(scope:Scope)(Nc:At)(C:Addr)(s:Qb)(H:Hp)(fp:BY):Cx where
 prog:=X.prog
 w:=X.w
 K:=X.K
 mg:=X.mg
 base:=X.base
 A:=X.A
 N:=Nc
 iE:=s
 kc:=H
 env:=compEnvC scope Qca C X.env
 outer:=X.stack
 stack:=X.stack
 ex:=fp
 fn:=λ_=>false
 calm:=X.calm
 pn:=[]
 xe:=λ_ _=>False
abbrev _root_.Cn:=List Nat
structure iI(X:Cx)(scope:Scope)(x:Str)(Nc:At)(ix:Cn):Prop where
 kind:scope.kind=.function
 As:∀y∈scope.names,y.2 ≠ .cell
 nd:Nc.Nodup
 names:∀y∈scope.names,y.2=.local->scope.names.lookup y.1=some .local
 own:scope.names.lookup x=some .local
 frees:∀y∈scope.names,y.2=.free->scope.names.lookup y.1=some .free/\Qqc
 hd:Nc=x::ix.filterMap (X.N[·]?)
 rb:∀i∈ix,∃y,X.N[i]? = some y/\scope.names.lookup y=some .free
theorem g8{env:Env}:∀{names:DA} {x:Str} {k:NameKind},names.lookup x=some k ->
  (names.map λ(n,k)=>if (k==NameKind.free&&env.scope.kind == .function&&env.kindOf n==some .cell) then(n,NameKind.cell) else(n,k)).lookup x=some (if (k==NameKind.free&&env.scope.kind == .function&&env.kindOf x==some .cell) then .cell else k)
 | [],_,_,h=>by simp at h
 | (n,b)::r,x,k,h=>by
  have c:=@g8 env r x k;show List.lookup x (Qpq::_)=_;cases a:x==n with
  | true=>
   simp[mf,a]at h;cases h;have e:x=n:=by grind
   subst e;split<;>simp
  | false=>
   simp[mf,a]at h;split
   .simp only[mf,a];exact c h
   .simp only[mf,a];exact c h
theorem mD{env:Env}:∀{names:DA} {x:Str},names.lookup x=none ->
  (names.map λ(n,k)=>if (k==NameKind.free&&env.scope.kind == .function&&env.kindOf n==some .cell) then(n,NameKind.cell) else(n,k)).lookup x=none
 | [],_,_=>rfl
 | (n,b)::r,x,h=>by
  have c:=@mD env r x;show List.lookup x (Qpq::_)=_;cases a:x==n with
  | true=>simp only[mf,a]at h;cases h
  | false=>
   simp only[mf,a]at h;split
   .simp only[mf,a];exact c h
   .simp only[mf,a];exact c h
variable{Nc:At}{ix:Cn}{pins:BC}
noncomputable def Au(Y:L2.St)(ix:Cn)(o:Qed):L2.St:=o::ix.map λi=>(Y[i]?).getD none
theorem WQ{l:BC}{Y':L2.St}{s':Qb}{f:Heap}(I:QE)(i:∀b∈fp,lR X pins H b)
  (J:Inv QqB l Y' H' s') (hs:Heap.SameBut s.heap.objs.size s'.heap f):Inv X pins Y H' {s' with heap:=f}:=by
 have un:Un Qby fp H H' s.heap _:=J.base;have j:Un Qby fp H H' s.heap f:=by
  have ne:∀b o,s.heap.get? b=some o->b≠s.heap.objs.size:=λb o e=>kr (j0 e);refine⟨λb o e n a h=>(hs.2 b Qo9).trans (un.keep b o e n a h),λb o e n a h=>?_,un.free,λb o e h=>?_,un.xg,un.cD,un.xh⟩
  .obtain⟨sl,q⟩:=un.slot b o e n a h;exact⟨sl,(hs.2 b Qo9).trans q⟩
  .obtain⟨o',q⟩:=un.there b o e h;exact⟨o',(hs.2 b Qo9).trans q⟩
 have m:H' s.heap.objs.size=none:=J.free;have cR:=λb u e=>by
  refine(J.cR b u e).yz (λc v r q=>(hs.2 c ?_).trans q) QcE λ_ _ q=>q;rintro rfl;grind
 obtain⟨p,g,d,t,k⟩:=s';obtain rfl:k=s.os:=J.os;exact I.call j cR J.bare λb a=>⟨(i b a).2.2.2.1,(i b a).2.1,(i b a).2.2.2.2.1,(i b a).2.2.2.2.2⟩
def J1(X:Cx):Ch->TT
 | []=>λ_ H Q=>Q true H
 | [c]=>ZM X c
 | _=>λ_ _ _=>False
def ZW(I:QE)(h:J1 X ifs Y H Q)(a:Qgs) :
  wpAny Qe X.A (forIn ifs true λc r=>if r=true then do let ok ← isTrue c X.env (eval c X.env);pure QtK else pure QmI) QeV Qbi s:=by
 match ifs,h with
 | [],h=>exact wpAny_tests_nil ⟨H,I,h⟩
 | [c],h=>
  have:=h pins s I;rw[a]at this;exact wpAny_tests_one this
def GI(X:Cx)(CL:BM)(b:Bx)(ifs:Ch)(U:BB)(p:Bool):Prop:=
 match ifs with
 | []=>p=true
 | [c]=>sR X CL b c U p U
 | _=>False
theorem GI.UL(h:GI X CL b ifs U p)(S:bq X.K CL b H Z U Y [] [])
  (k:∀H' Z',aB Z Z'->aB H H'->bq X.K CL b H' Z' U Y [] []->Q p H'):J1 X ifs Y H Q:=by
 match ifs,h with
 | [],h=>
  have e:=h;subst e;exact k H Z Qr Qr S
 | [c],h=>exact(h) H Z Y [] [] Q S k
def Av:(T.lst ts).clean=T.dW ts:=rfl
theorem Dw{g:D->T}:∀{ds:BA},(∀d∈ds,(g d).clean=true)->T.dW Qo1=true
 | [],_=>rfl
 | d::ds,h=>by
  rw[kn,T.dW,h d gk,Dw λe he=>h e Qhf];rfl
theorem aQ.at:∀{tl:Bn} {us:B0} {fp:BY} {j:Nat} {t:T},aQ K CL H Z tl us fp->tl[j]? = some t->∃v f1 f2 b,us[j]? = some v/\fp=f1++(f2++b)/\bD K CL H Z t v f2 ∧
  ∀{H':Hp} {t':T} {v':V} {g:BY},(∀a∈f1++b,H' a=H a)->bD K CL H' Z t' v' g->aQ K CL H' Z (tl.set j t') (us.set j v') QoM
 | _,_,_,_,_,.nil,e=>by simp at e
 | _,_,_,0,_,.cons (fp:=fp) (gp:=gp) r q,e=>by
  simp at e;subst e;exact⟨_,[],fp,gp,rfl,rfl,r,λ{H' t' v' g} k c=>aQ.cons (fp:=g) c (aQ.mono Qr (λa d=>k a (‹_›)) q)⟩
 | _,_,_,j+1,t,.cons (fp:=fp) r q,e=>by
  obtain⟨v,f1,f2,b,h1,h2,h,f⟩:=aQ.at q (‹_›);refine⟨v,fp++f1,f2,b,‹_›,WA,h,λk c=>?_⟩;rw[i3];exact .cons (r.mono Qr λa d=>k a (by simp[d])) (f (λa d=>k a WA) c)
variable{α:Type}
theorem g9{l:Qaa}{x:α}(h:l[i]? = some x):l.set i x=l:=by
 apply F1;intro j;rw[List.getElem?_set];split
 .rename_i e;subst e;split
  .exact h.symm
  grind
 .rfl
variable{gp:BY}
theorem bq.write{f1 f2 d g f:BY}(S:Qao)(nd:(Qe2++gp).Nodup)(own:∀c∈Qe2++gp,Z c=none/\b.B c=none)(k:a∈f2)
  (m:∃o,H a=some o) (l:fH K CL Qnz Z U2 Y QjW) (j:aQ K CL Qnz Z tl us f) (pm:(QjW++f).Nodup) (sub:∀c∈QjW++f,c∈Qe2++gp) :
  bq K CL b Qnz Z U2 Y tl us:=by
 have h:=own a (by simp[k]);refine⟨⟨_,_,l,j,pm,λc e=>own c (sub c e)⟩,λc o q=>?_,S.zz,λc o q=>?_,S.new,λc o q i=>?_,S.tab⟩
 .rw[au (aM q h.2)];exact S.bh c o q
 .rw[au (aM q h.1)];exact S.zh c o q
 .by_cases e:c=a
  .subst e;rw[aC]at q;cases q;cases i
  .rw[au e]at q;exact S.tp c o q i
theorem bq.append(S:QbT)(hi:U[i]? = some QdX) :
  ∃a us,Y[i]? = some QjP/\H a=some Qe6/\us.length=tl.length/\bq K CL b QsM Z (U.set i Qf1) Y ts vs:=by
 obtain⟨fp,gp,e,r,nd,k⟩:=S.rep;obtain⟨v0,f1,f2,l,hv,o,rt,put,_⟩:=e.get hi;subst o;obtain⟨a,us,g,rfl,rfl,n,rs⟩:=rt.gT;cases r with
 | @cons _ _ _ _ j f q1 q=>
  have ne:∀c∈QnA++Qd7,c≠a:=λc d e=>by
   subst e;have m:((f1++((c::g)++l))++Qd7).Perm QvT:=by simp
   exact(l4.1 Qub).1 d
  refine⟨a,us,hv,n,rs.length.symm,?_⟩;have p:bD K CL _ Z _ Q3 _:=
   .lst aC (aQ.app (rs.mono Qr λc d=>au (ne c (by simp[d]))) (.cons (q1.mono Qr λc d=>au (ne c (by simp[d]))) .nil))
  have e2:=put Qr (λc d=>au (ne c (by
   obtain h|h:=iw.1 d
   .simp[h]
   .simp[h]))) p
  rw[g9 hv]at e2;have m:((f1++(QnB++l))++f).Perm ((f1++((a::g)++l))++Qd7):=by
   simp only[js,mv,i3];refine n7 f1 (List.Perm.cons a (n7 g ?_));rw[<- i3,<- i3];exact mI.append_right f
  exact S.write nd k (gk) ⟨_,n⟩ e2 (q.mono Qr λc d=>au (ne c (by simp[d]))) QtL λc d=>m.mem_iff.1 d
section
variable{tl0:Bn}{D:dw}{pp pa pb:Pos}
def ajO(i:Nat)(h0:U[i]? = some Qi0)(h:QaJ)(h1:δ1[i]? = some QdX)(hl:tl.length<sizeLine)(k:D.nx (δ1.set i Qf1))
  (hi:X.N[i]? = some x:=by rfl) (hv:QnR:=by first|exact Or.inl rfl|exact Or.inr (Or.inl rfl)|exact Or.inr (Or.inr rfl)) (hd:AD x:=by decide) (iV:AE x:=by decide)
  (l:QkP:=by rfl)
  (g:QhD:=by rfl)
  (c:Qf5:=by rfl) (hs:Qan:=by exact aZ rfl) (r:Qk0:=by rfl) :
  WO X CL b (.Expr QkL pos) U D:=λH Z Y ts vs E S M=>
 lT (vt (HD wy Jp Jn vA QgG QaH l g c hs rfl) r) (by
  obtain⟨v0,e0,j⟩:=S.look h0;refine⟨v0,e0,?_,?_⟩
  .obtain⟨_,_,rfl,n,_⟩:=j.gT;exact .inl ⟨rfl,_,n⟩
  .refine h H Z Y ts vs _ S λv H1 Z1 f k1 q=>?_;obtain⟨a,us,d,o,m,p⟩:=q.append h1;rw[e0]at d;cases d;exact⟨a,us,v,rfl,rfl,o,m▸hl,M.nx _ Y _ Z1 f p k⟩)
end
def MP:Option QlN->Option T
 | some (some t)=>some QgB
 | _=>none
noncomputable def Mc:Option QlN->Option T
 | some (some (T.sh d))=>some Qa3
 | _=>none
def Dy(U:BB)(ix:Cn):BB:=ix.map λi=>MP U[i]?
def Nj(U:BB)(ix:Cn):BB:=ix.map λi=>Mc U[i]?
theorem yM(S:Qao):∀(ix:Cn) (H':Hp),fH K CL H' H (Dy U ix) (ix.map λi=>(Y[i]?).getD none) []
 | [],_=>.nil
 | i::r,H'=>by
  have a:=yM S r H';show fH K CL H' H (MP _::Dy U r) (((Y[i]?).getD none)::r.map _) [];cases e:U[i]? with
  | none=>exact .skip a
  | some o=>
   cases o with
   | none=>exact .skip a
   | some t=>
    obtain⟨v,hv,c⟩:=S.look e;rw[hv];exact .cons (.sh c) a
theorem Nk(S:Qao):∀(ix:Cn) (H':Hp),fH K CL H' Z (Nj U ix) (ix.map λi=>(Y[i]?).getD none) []
 | [],_=>.nil
 | i::r,H'=>by
  have a:=Nk S r H';show fH K CL H' Z (Mc _::Nj U r) (((Y[i]?).getD none)::r.map _) [];cases e:U[i]? with
  | none=>exact .skip a
  | some o=>
   cases o with
   | none=>exact .skip a
   | some t=>
    cases t with
    | sh d=>
     obtain⟨v,hv,c⟩:=S.ZN e;rw[hv];exact .cons (.sh c) a
    | tup _=>exact .skip a
    | lst _=>exact .skip a
    | ins _ _=>exact .skip a
    | jt _=>exact .skip a
    | dct _=>exact .skip a
    | pin _ _=>exact .skip a
    | j5 _ _ _=>exact .skip a
section
variable{ds:BA}
structure Comes(X:Cx)(CL:BM)(b:Bx)(δ1:BB)(Y:L2.St)(ts:Bn)(vs:B0)(Z H:Hp)(ds:BA)(J:It)(H1:Hp):Prop where
 ex:∃Z1 us,aB Z Z1/\aB H H1/\bq X.K CL b H1 Z1 δ1 Y ts vs/\ay X.K CL Z1 ds us/\(∀i H2,aB Z1 H2->i<ds.length->J.go i H2) ∧
  (∀i H2 x H',aB Z1 H2->i<ds.length->J.oe i H2 x H'->H'=H2/\us[i]? = some x)/\(∀H2,aB Z1 H2->J.stop ds.length H2)
def o6(X:Cx)(CL:BM)(b:Bx)(tg e:Expr)(U:BB)(ds:BA)(δ1:BB):Prop:=
 ∃a,PI X tg e a/\∀(H Z:Hp) (Y:L2.St) (ts:Bn) (vs:B0) (R:QgP),bq X.K CL b H Z U Y ts vs->(∀J H1,Comes X CL b δ1 Y ts vs Z H ds J H1->R J H1)->a Y H R
theorem dX{tg:Expr}(h:bY X CL b iter U QeT δ1):o6 X CL b tg iter U ds δ1:=by
 refine⟨_,Ur cL,λH Z Y ts vs R S k=>h H Z Y ts vs _ S λv H1 Z1 g k1 e=>?_⟩;obtain⟨fp,gp,_,r,_,_⟩:=e.rep;cases r with
 | cons r _=>
  replace r:=r.F4;obtain⟨rfl,r⟩:=r;obtain⟨a,us,rfl,c,d⟩:=r.gT;refine⟨a,rfl,⟨us,e.zh.seq c⟩,k _ _ ⟨Z1,us,g,k1,e.pop,d,λi H2 s hi=>?_,λi H2 y H' s hi f=>⟨f.1,f.2 us (s.seq c)⟩,λH2 s=>⟨us,s.seq c,by rw[d.length];grind⟩⟩⟩;have j:=d.length▸hi;exact⟨us,us[i],s.seq c,Wp⟩
theorem ZX{tg:Expr}(h:bY X CL b iter U QdE δ1):o6 X CL b tg iter U ds δ1:=by
 refine⟨_,ajf cL,λH Z Y ts vs R S k=>h H Z Y ts vs _ S λv H1 Z1 g k1 e=>?_⟩;obtain⟨fp,gp,_,r,_,_⟩:=e.rep;cases r with
 | cons r _=>
  replace r:=r.F4;obtain⟨rfl,r⟩:=r;obtain⟨a,us,rfl,c,d⟩:=r.lS;refine⟨a,rfl,⟨us,aB.Gb e.zh c⟩,k _ _ ⟨Z1,us,g,k1,e.pop,d,λi H2 s hi=>?_,λi H2 y H' s hi f=>⟨f.1,f.2 us (aB.Gb s c)⟩,λH2 s=>⟨us,aB.Gb s c,by rw[d.length];grind⟩⟩⟩;have j:=d.length▸hi;exact⟨us,us[i],aB.Gb s c,Wp⟩
noncomputable def ck(lo:Int)(n:Nat):BA:=(List.range n).map λ(i:Nat)=>D.int (lo+i)
def Nm(lo:Int)(n:Nat):ay K CL Z (ck lo n) ((List.range n).map λ(i:Nat)=>V.int (lo+i)):=by
 unfold ck;generalize List.range n=l
 induction l with
 | nil=>exact .nil
 | cons i r a=>exact .cons Qbq a
theorem dY{tg:Expr}{pr pc:Pos}{n:Int}(hm:Qi7)(h:cN X CL b iter U Qc2 δ1)(hn:-(2 ^ 62)<=n/\n<2 ^ 62)(f:QjU)(e:starEach [iter] X.env=[(false,eval iter X.env)]:=by rfl)(a:AC X iter []:=by exact aZ rfl) :
  o6 X CL b tg (.Call Quy [iter] [] pc) U (ck 0 n.toNat) δ1:=by
 refine⟨_,Wr f hm (bP cL di a) e,λH Z Y ts vs R S k=>h H Z Y ts vs _ S λv H1 Z1 d k1 g r=>⟨n,by rw[r.sc rfl],hn.1,hn.2,k _ _ ⟨Z1,_,d,k1,g,Nm 0 _,λi H2 s hi=>?_,λi H2 y H' s hi c=>?_,λH2 s=>?_⟩⟩⟩
 .show i<n.toNat;have:(ck 0 n.toNat).length=n.toNat:=by simp[ck]
  lia
 .have j:i<n.toNat:=by simpa [ck] using hi
  refine⟨c.1,?_⟩;rw[j2,oI j,c.2];rfl
 .show n.toNat<=(ck 0 _).length;simp[ck]
theorem WR{tg:Expr}{pr pc:Pos}{m n:Int}(hm:Qi7)(h1:cN X CL b e1 U (.int m) δ1)(h2:cN X CL b e2 δ1 Qc2 U2)(hn:-(2 ^ 62)<=m/\m<2 ^ 62 /\ -(2 ^ 62)<=n/\n<2 ^ 62)(l:QjU)
  (j:AR X e1 e2:=by rfl) (d:starEach [e2] X.env=[(false,eval e2 X.env)]:=by rfl) (c:Qp5:=by rfl) (a:AC X e2 []:=by rfl) :
  o6 X CL b tg (.Call Quy [e1,e2] [] pc) U (ck m (n-m).toNat) U2:=by
 refine⟨_,Ws l hm (bP cL (bP cL di a) c) j d,λH Z Y ts vs R S k=>h1 H Z Y ts vs _ S λv H1 Z1 g k1 p r=>h2 H1 Z1 Y ts vs _ p λv2 H2 Z2 f k2 o h=>⟨m,n,by rw[r.sc rfl,h.sc rfl],hn,k _ _ ⟨Z2,_,g.trans f,k1.trans k2,o,Nm m _,λi H2 s hi=>?_,λi H2 y H' s hi e=>?_,λH2 s=>?_⟩⟩⟩
 .show i<(n-m).toNat;have:(ck m (n-m).toNat).length=(n-m).toNat:=by simp[ck]
  lia
 .have q:i<(n-m).toNat:=by simpa [ck] using hi
  refine⟨e.1,?_⟩;rw[j2,oI q,e.2];rfl
 .show(n-m).toNat<=(ck m _).length;simp[ck]
abbrev _root_.FA:=Nat->BB->Prop
theorem ajQ{D:dw}{dQ:CI}(i:Nat){pos':Pos}(P:FA)(h:o6 X CL b Qep iter U ds δ1)(h0:QfK)(hl:∀j U,P j U->i<U.length)
  (hs:∀j d U,ds[j]? = some d->P j U->cQ X CL b dQ Qi8 {nx:=P QF,rt:=D.rt,bk:=D.nx,ct:=P QF}) (hd:∀U,P ds.length U->D.nx U)
  (u:Qii) (z:Qa6) (B:Qbs) (hi:X.N[i]? = some x) (p:Qdo) (hf:Qdp) (r:Qcv:=by intro _;rfl) :
  WO X CL b (.For Qep iter dQ [] pos) U D:=λH Z Y ts vs E S M=>by
 obtain⟨I,pi,hw⟩:=h;refine lT (Qp u z pi (vv B hi p hf) UC r) (hw H Z Y ts vs _ S λJ H1 zz=>?_);obtain⟨Z1,us,f,k1,G,n,go,l,st⟩:=zz;refine⟨λj m Y H2=>m=ds.length-j/\j<=ds.length/\∃Z2 U2,aB Z1 Z2/\bq X.K CL b H2 Z2 U2 Y ts vs/\P j U2,⟨_,rfl,i8 _,Z1,δ1,.refl _,G,h0⟩,?_⟩;rintro j m Y H2 ⟨rfl,L,Z2,U2,s,c,p2⟩;by_cases g:j<ds.length
 .refine .inr ⟨go j H2 QgQ g,_,λY' H' h=>⟨ _,We,rfl,g,h⟩,λy H' o=>?_⟩;obtain⟨e,q⟩:=l j H2 y H' QgQ g o;subst e;obtain⟨d,C,rd⟩:=n.QD q;have F:=(c.push (rd.mono s)).set QjS;exact hs j d U2 C p2 _ Z2 _ ts vs _ F ⟨λU' Y' H' Z' s' a k=>⟨Z',U',s.trans s',a,k⟩,λt v H' Z' U' Y' s' a k=>M.rt t v H' Z' U' Y' Qvq a k,λU' Y' H' Z' s' a k=>M.nx U' Y' H' Z' Qvq a k,λU' Y' H' Z' s' a k=>⟨Z',U',s.trans s',a,k⟩⟩
 .have e:j=ds.length:=by lia
  subst e;exact .inl ⟨st H2 QgQ,M.nx U2 Y H2 Z2 (f.trans s) c (hd U2 p2)⟩
def Block(X:Cx)(CL:BM)(scope:Scope)(Nc:At)(ifs:Ch)(elt:Expr)(δc:BB)(ds:BA)(p:QhE)(g:D->T):Prop:=
 ∀C s0 b f0 a d,d∈ds->GI Qsq CL a ifs Qgz (p d)/\(p d=true->bY Qsq CL a elt Qgz (g d) Qgz)
variable{δc:BB}{p:QhE}{g:D->T}
end
noncomputable def isD:L3.D->String->Option Bool
 | .non,n=>if n="int" \/ n="str" \/ n="list" \/ n="tuple" \/ n="bool" \/ n="dict" then some false else none
 | .bl _,n=>if n="int" \/ n="bool" then some true else if n="str" \/ n="list" \/ n="tuple" \/ n="dict" then some false else none
 | .int _,n=>if n="int" then some true else if n="str" \/ n="list" \/ n="tuple" \/ n="bool" \/ n="dict" then some false else none
 | .str _, n => if n = "str" then some true else if n = "int" \/ n = "list" \/ n = "tuple" \/ n = "bool" \/ n = "dict" then some false else none
 | .lst _,n=>if n="list" then some true else if n="int" \/ n="str" \/ n="tuple" \/ n="bool" \/ n="dict" then some false else none
 | .tup _,n=>if n="tuple" then some true else if n="int" \/ n="str" \/ n="list" \/ n="bool" \/ n="dict" then some false else none
 | _,_=>none
noncomputable def FC(t n:Qbf):Option Bool:=if (Value.type t==Value.type n)=true then some true else if PySem.W.kitMeta n=true then(fastBuiltinMro t).map (·.contains (.type n)) else none
def nG{t n:Qbf}:PySem.W.kitOne K (.type t) (.type n)=FC t n:=rfl
def ZY:(["NoneType","bool","int","str","list","tuple"].all λt=>["int","str","list","tuple","bool","dict"].all λn=>FC t n==some (t==n || Qlf))=true:=by decide +kernel
def vC{t n:Qbf}(a:t∈["NoneType","bool","int","str","list","tuple"])(hn:QpX):FC t n=some (t==n || Qlf):=by
 have:=ZY;rw[me]at this;have h:=this t a;rw[me]at h;simpa using h n hn
noncomputable def r4:L3.D->Option String
 | .non=>some "NoneType"
 | .bl _=>some "bool"
 | .int _=>some "int"
 | .str _ => some "str"
 | .lst _=>some "list"
 | .tup _=>some "tuple"
 | _=>none
theorem WT:nj X Qsr (λxs H Q=>∃y n d t,xs=[y,.ty n]/\bz X.K CL H d y/\r4 d=some t/\n∈["int","str","list","tuple","bool","dict"]/\Q QtM H):=by
 intro pins s Y H xs us Q I r h;obtain⟨y,n,d,t,rfl,rd,b,hn,q⟩:=h;obtain⟨u,u2,rfl,f,g⟩:=r.two;cases (show u2=Value.type n from g);have fin:∀tk,EP X pins Y Q _ {s with toks:=tk}:=λtk=>⟨.bl _,H,I.tok tk,rfl,q⟩;cases rd with
 | non=>cases b;cases (show u=Value.none from f);exact ti PySem.W.kitx_none I.Ah True.intro (nG.trans (vC Wm hn)) (λz=>nomatch z) fin
 | bl c=>cases b;cases (show u=Value.bool c from f);exact ti PySem.W.kitx_bool I.Ah True.intro (nG.trans (vC Wm hn)) (λz=>nomatch z) fin
 | int c=>cases b;obtain⟨tt,e⟩:=(show ∃t,u=Value.int c t from f);cases e;exact ti PySem.W.kitx_int I.Ah True.intro QiG (λz=>nomatch z) fin
 | str c=>cases b;obtain⟨tt,e⟩:=(show ∃t,u=Value.str c t from f);cases e;exact ti PySem.W.kitx_str I.Ah True.intro QiG (λz=>nomatch z) fin
 | @lst a ws _ i j=>
  cases b;cases (show u=Value.ref a from f);obtain⟨its,_,pl,_⟩:=I.list i;obtain⟨o,k,e,c,_⟩:=pl;exact ti PySem.W.kitx_list I.Ah ⟨o,e,c⟩ QiG (λz=>nomatch z) fin
 | @tup a ws _ i j=>
  cases b;cases (show u=Value.ref a from f);obtain⟨its,_,pl,_⟩:=I.tuple i;obtain⟨o,e,c,_⟩:=pl;exact ti PySem.W.kitx_tuple I.Ah ⟨o,e,c⟩ QiG (λz=>nomatch z) fin
 | ins _ _=>cases b
 | any _=>cases b
 | val _=>cases b
 | jt _ _=>cases b
 | dct _ _=>cases b
 | j5 _ _ _=>cases b
variable{pp pq:Pos}
def yN{d:L3.D}{t n:Qbf}{nm:Str}(hm:Qeg)(m:X.mg nm=none)(j:Qeh)(l:Gl X nm)(f:bootBuiltins nm=some (.type n))(a:nm≠"__name__")(c:AD nm)(h:Qcw)(i:QfL)(hn:QpX)
  (hs:starEach [e,.Name nm pq] X.env=(false,eval e X.env)::starEach [.Name nm pq] X.env:=by exact aZ rfl) :
  bY X CL b (.Call QdD [e,.Name nm pq] [] pos) U (.sh QtM) δ1:=λH Z Y ts vs Q S k=>
 cz (lC (WT) j hm boot_isinstance (bP cL (bP (Uq l m f (v:=.ty n) rfl a c) di) hs) (he:=hs)) (h H Z Y ts vs _ S λv H1 Z1 g k1 o r=>
  ⟨v,n,d,t,rfl,r,i,hn,k _ H1 Z1 g k1 (o.push Qfi)⟩)
variable{n:Nat}
def WW(h:Nat.ble n 1000=true):n<=sizeLine:=lx (cj (iq h))
structure Vn(X:Cx)(i:Nat)(x:Str):Prop where
 hi:X.N[i]? = some x
 hv:r0 X.env.scope x
 hd:Qis=false
 iV:QrM=false
structure Ln(X:Cx)(i:Nat)(x:Str):Prop extends Vn X i x where
 loc:Loc X.env.scope x
 hf:X.fn x=true\/X.env.scope.names.lookup x=some .local
structure Gx(X:Cx):Prop where
 nd:X.N.Nodup
 calm:X.calm=true
 xe:PassesOwn Qe X.A X.env X.xe
structure Fc(X:Cx)(CL:BM)(x:Str)(k n:Nat){A:Type}(arg:Qaj)(Pre:Q2)(res:QaU):Prop where
 ex:∃f fd ps,dz X.prog X.w X.K X.mg X.base oj k f fd ps Qh8/\X.mg x=some Qad/\keepIn X.K Qad=true/\Binds X.K fd ps []
 room:fj k X.A
section
variable{d:L3.D}{D:dw}{dQ:CI}{ds:BA}
def v_(n:QaO)(h:U[i]? = some QdJ:=by rfl):bY X CL b QaE U Qa3 U:=ajH i n.hi n.hv n.hd n.iV h
def vF(n:QaO)(h:U[i]? = some QaI:=by rfl):bY X CL b QaE U QgB Qik:=aeu i n.hi n.hv n.hd n.iV h
def vM(n:QaO)(h:U[i]? = some QaI:=by rfl):bY X CL b QaE U t QdK:=aev i n.hi n.hv n.hd n.iV h
def vB(n:QaO)(h:U[i]? = some QaI:=by rfl):cN X CL b QaE U t.cu U:=ajI i n.hi n.hv n.hd n.iV h
def eZ(h:QsN):bY X CL b (.UnaryOp .USub e pos) U (.sh (.int (-k))) δ1:=λH Z Y ts vs Q S kk=>
 cz (anQ ajm cL) (h H Z Y ts vs _ S λv H1 Z1 a k1 c r=>⟨k,r.sc rfl,kk _ H1 Z1 a k1 (c.push Qbq)⟩)
def vL(n:QaO)(h:U[i]? = some (some QdL):=by rfl):cN X CL b QaE U QcB U:=by
 have:=vB (CL:=CL) (b:=b) (pos:=pos) n h
 rwa [T.cu,kU]at this
def c_{k:Nat}{A:Type}{arg:Qaj}{Pre:Q2}{res:QaU}(a:A)(F:Qf7)(g:QaA)(h:QfX)(d:Pre a)(i:Qns)(hn:QcP:=by rfl)
  (c:AD x:=by decide) (he:Qav:=by exact aZ rfl) (hpl:QaN:=by rfl) :
  bY X CL b QbW U QbL δ1:=by
 obtain⟨f,fd,ps,j,m,k,b⟩:=F.ex;exact aeB a j F.room m k b h hn d i g c he hpl
def cF{k:Nat}{A:Type}{arg:Qaj}{Pre:Q2}{res:QaU}(a:A)(F:Qf7)(g:QaA)(h:QhX)(d:Pre a)(hn:QcP:=by rfl)
  (c:AD x:=by decide) (he:Qav:=by exact aZ rfl) (hpl:QaN:=by rfl) :
  bY X CL b QbW U QbL δ1:=by
 obtain⟨f,fd,ps,i,m,k,b⟩:=F.ex;exact ZT a i F.room m k b h hn d g c he hpl
def aF{pos':Pos}(g:Gx X)(n:Qbl)(h:QaJ)(k:Qlg)(hl:QcQ:=by exact iq rfl)(hs:Qdy:=by rfl) :
  cQ X CL b Qia U D:=bS (QL i h k hl g.nd n.hi n.loc hs n.hf)
def aX(h:QaJ)(k:D.rt t δ1):cQ X CL b (.Return Qkg pos::dQ) U D:=bS (ajM h k)
def dR{a c:CI}(h:Qb8)(h1:p=true->cQ X CL b a δ1 {D with nx:=λU2=>cQ X CL b dQ U2 D})(h2:p=false->cQ X CL b c δ1 {D with nx:=λU2=>cQ X CL b dQ U2 D}):cQ X CL b (.If e a c pos::dQ) U D:=bS (aoh h h1 h2)
theorem cQ.to{D':dw}(h:cQ X CL b dQ U D')(h1:∀U,D'.nx U->D.nx U)(h2:∀t U,D'.rt t U->D.rt t U)(c:∀U,D'.bk U->D.bk U)(a:∀U,D'.ct U->D.ct U):cQ X CL b dQ U D:=λH Z Y ts vs E S M=>h H Z Y ts vs E S (M.to h1 h2 c a)
def tP{a c:CI}(J:BB->Prop)(h:Qb8)(h1:p=true->cQ X CL b a δ1 {D with nx:=J})(h2:p=false->cQ X CL b c δ1 {D with nx:=J})(k:∀U2,J U2->cQ X CL b dQ U2 D):cQ X CL b (.If e a c pos::dQ) U D:=
 dR h (λd=>cQ.to (h1 d) k Quz QcE QcE) (λd=>cQ.to (h2 d) k Quz QcE QcE)
def fS{body:CI}{pos':Pos}(g:Gx X)(n:Qbl)(P:FA)(h:o6 X CL b Qep e U ds δ1)(h0:QfK)(hl:∀j U,P j U->i<U.length)
  (hs:∀j d U,ds[j]? = some d->P j U->cQ X CL b body Qi8 {nx:=P QF,rt:=D.rt,bk:=λU2=>cQ X CL b dQ U2 D,ct:=P QF}) (hd:∀U,P ds.length U->cQ X CL b dQ U D) (a:AN X e:=by intro _;rfl) :
  cQ X CL b (.For Qep e body [] pos::dQ) U D:=
 bS (ajQ i P h h0 hl hs hd g.xe g.calm g.nd n.hi n.loc n.hf a)
def iY{o:Qhe}{l:Nat}(h:∃c,swapsWith e o l env=pure c):swapsWith e o l env=pure true\/swapsWith e o l env=pure false:=by
 obtain⟨c,h⟩:=h;cases c
 .exact .inr h
 .exact .inl h
def ZZ{C:Addr}(h1:Nc[i]? = some x)(h2:Qie)(hd:AD x:=by decide)(iV:AE x:=by decide):Vn QbG i x:=
 ⟨h1,.inl QlH,hd,iV⟩
def ajS{C:Addr}(h1:Nc[i]? = some x)(h2:Qlw)(hd:AD x:=by decide)(iV:AE x:=by decide):Vn QbG i x:=by
 refine⟨h1,?_,hd,iV⟩;have q:=g8 (env:=X.env) h2;show(relabel _ _).names.lookup x=some _\/(relabel _ _).names.lookup x=some _\/(relabel _ _).names.lookup x=some _;rw[show(relabel _ _).names.lookup x=_ from q];split
 .exact .inr Qae
 .exact .inr Qay
def aeF{C:Addr}(h2:Qk6):Gl QbG x:=by
 have q:=g8 (env:=X.env) h2;show(relabel _ _).names.lookup x=some _;rw[show(relabel _ _).names.lookup x=_ from q];rfl
noncomputable def kW{C:Addr}{k:Nat}{A:Type}{arg:Qaj}{Pre:Q2}{res:QaU}(F:Qf7):Fc QbG CL x k n arg Pre res:=⟨F.ex,F.room⟩
end
def JD{i j:Bool}(h1:cN X CL b e1 U (.bl i) δ1)(h2:cN X CL b e2 δ1 (.bl j) U2):sR X CL b Qev U (!decide (i=j)) U2/\bY X CL b Qev U QlD U2:=
 Du Zj h1 h2 rfl rfl (λ_ _ q=>⟨rfl,by rw[show decide (V.bl i=V.bl j)=decide (i=j) by simp];exact q⟩) (xo _)
variable{d:L3.D}{t:Qbf}
def HN:bootBuiltins "int" = some (.type "int"):=by decide +kernel
def yB(hm:Qeg)(g:X.mg "int" = none)(c:Qeh)(f:Gl X "int")(h:Qcw)(a:QfL:=by rfl)(hs:starEach [e,.Name "int" pq] X.env=(false,eval e X.env)::starEach [.Name "int" pq] X.env:=by exact aZ rfl) :
  bY X CL b (.Call QdD [e,.Name "int" pq] [] pos) U (.sh (.bl (t=="int" || (t=="bool" && "int" == "int")))) δ1:=yN hm g c f HN Wm Wm h a Wm hs
def QM:bootBuiltins "bool" = some (.type "bool"):=by decide +kernel
def UX(hm:Qeg)(g:X.mg "bool" = none)(c:Qeh)(f:Gl X "bool")(h:Qcw)(a:QfL:=by rfl)(hs:starEach [e,.Name "bool" pq] X.env=(false,eval e X.env)::starEach [.Name "bool" pq] X.env:=by exact aZ rfl) :
  bY X CL b (.Call QdD [e,.Name "bool" pq] [] pos) U (.sh (.bl (t=="bool" || (t=="bool" && "bool" == "int")))) δ1:=yN hm g c f QM Wm Wm h a Wm hs
def WX:bootBuiltins "str" = some Qn6:=by decide +kernel
def wg(hm:Qeg)(g:X.mg "str" = none)(c:Qeh)(f:Gl X "str")(h:Qcw)(a:QfL:=by rfl)(hs:starEach [e,.Name "str" pq] X.env=(false,eval e X.env)::starEach [.Name "str" pq] X.env:=by exact aZ rfl) :
  bY X CL b (.Call QdD [e,.Name "str" pq] [] pos) U (.sh (.bl (t=="str" || (t=="bool" && "str" == "int")))) δ1:=yN hm g c f WX Wm Wm h a Wm hs
def aU:bootBuiltins "list" = some QgA:=by decide +kernel
def yA(hm:Qeg)(g:QfI)(c:Qeh)(f:QfJ)(h:Qcw)(a:QfL:=by rfl)(hs:starEach [e,.Name "list" pq] X.env=(false,eval e X.env)::starEach [.Name "list" pq] X.env:=by exact aZ rfl) :
  bY X CL b (.Call QdD [e,.Name "list" pq] [] pos) U (.sh (.bl (t=="list" || (t=="bool" && "list" == "int")))) δ1:=yN hm g c f aU Wm (rfl) h a Wm hs
def tQ:bootBuiltins "tuple" = some Qvm:=by decide +kernel
def yn(hm:Qeg)(g:QnK)(c:Qeh)(f:QoN)(h:Qcw)(a:QfL:=by rfl)(hs:starEach [e,.Name "tuple" pq] X.env=(false,eval e X.env)::starEach [.Name "tuple" pq] X.env:=by exact aZ rfl) :
  bY X CL b (.Call QdD [e,.Name "tuple" pq] [] pos) U (.sh (.bl (t=="tuple" || (t=="bool" && "tuple" == "int")))) δ1:=yN hm g c f tQ Wm Wm h a Wm hs
noncomputable def UI(sc:Scope)(l:DA):Bool:=l.all λp=>sc.names.lookup p.1==some p.2
def dF{sc:Scope}{l:DA}(h:UI sc l=true)(i:Nat){k:NameKind}(hi:l[i]? = some (x,k)):sc.names.lookup x=some k:=by
 unfold UI at h;rw[me]at h;exact rq.1 (h _ (kA hi))
inductive Z6(X:Cx):Cn->At->Prop where
 | nil:Z6 X [] []
 | cons {i:Nat} {y:Str} {ix:Cn} {ys:At} (n:Vn X i y) (k:X.env.kindOf y=some .cell\/X.env.kindOf y=some .free) (r:Z6 X ix ys):Z6 X (i::ix) (y::ys)
noncomputable def Z7(scope:Scope)(x:Str)(a:At):Bool:=
 scope.kind == .function&&scope.names.lookup x==some .local&&a.all Qqt&&decide ((x::a).Nodup) &&
  scope.names.all λy=>y.2 != .cell&&(y.2 != .local || scope.names.lookup y.1==some .local)&&(y.2 != .free || Qqd)
theorem b9{d:At}(c:Z6 X ix d)(ok:Z7 scope x d=true):iI X scope x (x::d) ix:=by
 unfold Z7 at ok;simp only[lj,me,vk,rq]at ok;obtain⟨⟨⟨⟨h1,h2⟩,h⟩,g⟩,b⟩:=ok;have j:∀y∈d,X.env.kindOf y=some .cell\/X.env.kindOf y=some .free:=by
  clear h g b
  induction c with
  | nil=>intro y a;cases a
  | cons n k r f=>
   intro y a;obtain e|a:=fP.1 a
   .subst e;exact k
   simp_all
 refine⟨h1,λy a e=>?_,g,λy a e=>?_,h2,λy a e=>?_,?_,λi hi=>?_⟩
 .have:=(b y a).1.1;rw[e]at this;simp at this
 .have:=(b y a).1.2;rw[e]at this;simpa using this
 .have:=(b y a).2;simp_all
 .congr 1;clear h g b j
  induction c with
  | nil=>rfl
  | cons n k r f=>rw[m4,n.hi,<- f]
 .clear g b j
  induction c with
  | nil=>cases hi
  | @cons l y ix ys n k r f=>
   obtain e|hi:=fP.1 hi
   .subst e;exact⟨y,n.hi,h y gk⟩
   .exact f QvL hi
noncomputable def D.tS:D->Int
 | .int i=>i
 | _=>0
noncomputable def D.toS:D->Str
 | .str x => x
 | _=>Str.empty
theorem ic{bs:AT}(h0:0<=k)(h1:k<bs.length):xq (bs.map D.int) k=some (.int (bs.getD k.toNat 0)):=by
 obtain⟨j,rfl⟩:∃j:Nat,k=j:=⟨k.toNat,We⟩;refine c9 ?_;simp_all
theorem bE:∀(bs:AT),D.bf (bs.map D.int)=true
 | []=>rfl
 | i::r=>by rw[kn,D.bf,bE r];rfl
theorem jI{lo:Int}{d:D}(h:(ck lo n)[j]? = some d):d=.int (lo+j)/\j<n:=by
 have hl:=by
  have:=(lr.1 h).1;simpa [ck] using this
 refine⟨?_,hl⟩;unfold ck at h;rw[j2,oI hl]at h;simp_all
def fM(l:Qaa):l.filter (λ_=>true)=l:=by simp
theorem Nn{K:Frag}{CL:BM}{Z:Hp}:∀(ns:AT),ay K CL Z (ns.map D.int) QcC
 | []=>.nil
 | n::r=>.cons Qc2 (Nn r)
mutual
def D.toPy:D->PyData
 | .non=>.none
 | .bl b=>.bool b
 | .int i=>.int i
 | .str x => .str x
 | .tup ds=>.tuple Qfd
 | .lst ds=>.list Qfd
 | .ins _ _=>.none
 | .jt _=>.none
 | .dct _=>.none
 | .any=>.none
 | .val _=>.none
 | .j5 _ _ _=>.none
def D.jJ:BA->List PyData
 | []=>[]
 | d::ds=>d.toPy::D.jJ ds
end
inductive Np:Nat->D->Prop where
 | non (n:Nat):Np n .non
 | bl (n:Nat) (b:Bool):Np n Qd5
 | int (n:Nat) (i:Int):Np n Qba
 | str (n:Nat) (x:Str) (h:PyData.strOk x=true):Np n Qbk
 | tup {n:Nat} {ds:BA} (h:∀d∈ds,Np n d):Np Q4 QdF
 | lst {n:Nat} {ds:BA} (h:∀d∈ds,Np n d):Np Q4 QcB
noncomputable def sy(a b:D):Bool:=PyData.eqv a.toPy b.toPy
theorem Np.JY{n:Nat}:∀{ds:BA},(∀d∈ds,d.toPy.canLay0=true/\d.toPy.depth<=n)->PyData.canLayAll0 Qfd=true/\PyData.depthAll Qfd<=n
 | [],_=>⟨ rfl,i8 _ ⟩
 | d::ds,h=>by
  have h1:=h d gk;have h2:=Np.JY λe he=>h e Qhf;rw[D.jJ,PyData.canLayAll0,h1.1,h2.1];exact⟨rfl,Nat.max_le.2 ⟨h1.2,h2.2⟩⟩
theorem Np.lay{d:D}(h:Np n d):d.toPy.canLay0=true/\d.toPy.depth<=n:=by
 induction h with
 | non n=>exact⟨ rfl,i8 _ ⟩
 | bl n b=>exact⟨ rfl,i8 _ ⟩
 | int n i=>exact⟨ rfl,i8 _ ⟩
 | str n x c=>exact⟨ ‹_›,i8 _ ⟩
 | @tup n ds _ a=>
  have:=Np.JY a;rw[D.toPy,PyData.canLay0,PyData.depth];simp_all
 | @lst n ds _ a=>
  have:=Np.JY a;rw[D.toPy,PyData.canLay0,PyData.depth];simp_all
def Z8(I:Qa7){d:D}{u:Value}(hd:Np n d)(q:bz X.K CL H d v)(r:QcM):∃as,Reads s.heap u d.toPy as:=by
 refine bz.rec
  (motive_2:=λds vs _=>∀(n:Nat) (us:Qec),(∀d∈ds,Np n d)->Vals vs us->∃as,ReadsAll s.heap us Qfd as) (motive_3:=λ_ _ _=>True) (motive_4:=λ_ _ _=>True) (motive_5:=λ_ _ _=>True)
  (λ_ _ _ r=>?non) (λb _ _ _ r=>?bl) (λi _ _ _ r=>?int) (λx _ _ _ r=>?str) (λ_ _ _ hd _=>by cases hd) (λ_ _ _ hd _=>by cases hd) (λl _ a n u hd r=>?tup) (λl _ a n u hd r=>?lst) (λ_ _ _ _ _ hd _=>by cases hd) (λ_ _ _ _ _ hd _=>by cases hd) (λ_ _ _ _ _ hd _=>by cases hd) (λ_ _ _ _ _ _ _ hd _=>by cases hd)
  (λ_ _ _ r=>?nil) (λ_ _ a j n us h r=>?cons) trivial Qap trivial Qap trivial Qap q n u hd r
 case non=>cases r;exact⟨[],.none⟩
 case bl=>cases r;exact⟨[],.bool b⟩
 case int=>obtain⟨t,rfl⟩:=r;exact⟨[],.int i t⟩
 case str=>obtain⟨t,rfl⟩:=r;exact⟨[],.str x t⟩
 case tup=>
  cases hd with
  | tup hd=>
   cases r;obtain⟨its,f,⟨o,e,c,k,m⟩,_⟩:=I.tuple l;obtain⟨as,g⟩:=a _ _ hd f;exact⟨as,.tuple e c m (‹_›)⟩
 case lst=>
  cases hd with
  | lst hd=>
   cases r;obtain⟨its,f,⟨o,k,e,c,_,m⟩,_⟩:=I.list l;obtain⟨as,g⟩:=a _ _ hd f;exact⟨_,.list e c m (‹_›)⟩
 case nil=>cases r;exact⟨[],.nil⟩
 case cons=>
  cases r with
  | cons r rs=>
   obtain⟨as,g⟩:=a n _ (h _ gk) r;obtain⟨bs,p⟩:=j n _ QvO rs;exact⟨ _,.cons g p⟩
variable{δ3:BB}{p2:Pos}{t:T}{dQ:CI}{DD:dw}{ds:BA}
def cutD(xs:Qaa)(lo hi:Co):List α:=(xs.drop Qte).take Qp1
theorem ay.drop{K:Frag}{Z:Hp}:∀{ds:BA} {vs:B0} (n:Nat),ay K CL Z ds vs->ay K CL Z (ds.drop n) (vs.drop n)
 | _,_,0,r=>r
 | _,_,_+1,.nil=>.nil
 | _,_,n+1,.cons _ t=>ay.drop n t
theorem ay.take{K:Frag}{Z:Hp}:∀{ds:BA} {vs:B0} (n:Nat),ay K CL Z ds vs->ay K CL Z (ds.take n) (vs.take n)
 | _,_,0,_=>.nil
 | _,_,_+1,.nil=>.nil
 | _,_,n+1,.cons r t=>.cons r (ay.take n t)
theorem ay.cut{ds:BA}(r:QfG)(lo hi:Co):ay K CL Z (cutD ds lo hi) (Zw vs lo hi):=by
 unfold cutD Zw;rw[r.length];exact(r.drop _).take _
theorem qh:∀{ds:BA},D.bf ds=true->∀d∈ds,d.m7=true
 | [],_,_,h=>by cases h
 | d::ds,k,e,h=>by
  rw[D.bf,lj]at k;obtain h|h:=fP.1 h
  .subst h;exact k.1
  .exact qh k.2 e h
theorem fU:∀{ds:BA},(∀d∈ds,d.m7=true)->D.bf ds=true
 | [],_=>rfl
 | d::ds,h=>by rw[D.bf,h d gk,fU λe he=>h e Qhf];rfl
def aeG{xs:Qaa}{lo hi:Co}{x:α}(h:x∈cutD xs lo hi):x∈xs:=List.mem_of_mem_drop (wq h)
def GG(X:Cx)(CL:BM)(b:Bx)(e:Qhe)(U:BB)(k:Co)(U':BB):Prop:=
 ∃t,PO X e t/\∀(H Z:Hp) (Y:L2.St) (ts:Bn) (vs:B0) (Q:Co->Hp->Prop),bq X.K CL b H Z U Y ts vs->(∀H' Z',aB Z Z'->aB H H'->bq X.K CL b H' Z' U' Y ts vs->Q k H')->t Y H Q
def JF:GG X CL b none U none U:=⟨_,aeh,λH Z Y ts vs Q S k=>k H Z Qr Qr S⟩
def JG(h:QsN):GG X CL b Qkg U (some k) δ1:=⟨_,aei cL,λH Z Y ts vs Q S kk=>h H Z Y ts vs _ S λv H1 Z1 a k1 c r=>⟨k,r.sc rfl,kk H1 Z1 a k1 c⟩⟩
def Dz{lo hi:Qhe}{l h:Co}(h1:QcV)(g:Qdu)(h2:GG X CL b lo δ1 l U2)(x:GG X CL b hi U2 h δ3):bY X CL b Qqy U (.lst ((cutD ds l h).map T.sh)) δ3:=λH Z Y ts vs Q S k=>by
 obtain⟨t2,f,q⟩:=h2;obtain⟨t3,a,o⟩:=x;refine cz (Zv aek cL f a) (h1 H Z Y ts vs _ S λv H1 Z1 n k1 A r=>q H1 Z1 Y ts vs _ A λH2 Z2 m k2 z=>o H2 Z2 Y ts vs _ z λB Z3 j k3 i=>?_);have t:=r.mono (k2.trans k3);obtain⟨_,_,rfl,u,s⟩:=t.gT;refine⟨_,_,rfl,u,λp w=>?_⟩;have rc:=ay.m7 i.tp (fU λd hd=>qh g d (aeG hd)) (s.cut l h);obtain⟨c,y⟩:=(bq.qg rc i).nB (g0:=[]) (by simp[rc.length]) w;exact k _ _ _ (n.trans (m.trans j)) (k1.trans (k2.trans (k3.trans c))) y
def eG(hm:QnK)(h:QcV)(hi:Qdu)(n:QoN)(hs:Qan:=by exact aZ rfl):bY X CL b QqP U QdE δ1:=λH Z Y ts vs Q S k=>
 cz (jz wF n hm tQ QaH (he:=hs)) (h H Z Y ts vs _ S λv H1 Z1 j k1 g r=>by
  obtain⟨_,_,rfl,m,d⟩:=r.gT;refine⟨_,_,rfl,.inl ⟨m,λl hl=>?_⟩⟩;obtain⟨a,c,o⟩:=(bq.qg (ay.m7 g.tp hi d) g).Jz (by simp[d.length]) hl;obtain⟨Z3,i,f⟩:=o.Jw;rw[T.cu,kU]at f;exact k _ _ Z3 Qti Qco f)
def iZ{tl0:Bn}{pa pb:Pos}(n:QaO)(h0:U[i]? = some Qi0)(h:QaJ)(h1:δ1[i]? = some QdX)(hl:Qnt)(k:Qrk)
  (d:QkP:=by rfl)
  (c:QhD:=by rfl)
  (a:Qf5:=by rfl) (hs:Qan:=by exact aZ rfl) (f:Qk0:=by rfl) :
  cQ X CL b QuW U DD:=
 bS (ajO i h0 h h1 (nq hl Wm) k n.hi n.hv n.hd n.iV d c a hs f)
def cU(hn:ds.length=n)(hm:Qjv)(h:QcV)(a:Qkn)(hs:Qan:=by exact aZ rfl):bY X CL b Qh3 U Qbj δ1:=by
 subst hn;exact CG hm h a hs
def aW(h:Ql6):cN X CL b e U QcB δ1:=by
 have:=Ni h
 rwa [T.cu,kU]at this
noncomputable def aeI{a:BA}(h:Ql6)(c:ds=a):cN X CL b e U (.lst a) δ1:=c▸aW h
theorem fJ{f:α->D}{l:Qaa}(z:α)(h0:0<=k)(h1:k<l.length):xq Qfe k=some (f QuX):=by
 obtain⟨j,rfl⟩:∃j:Nat,k=j:=⟨k.toNat,We⟩;refine c9 ?_;simp_all
theorem Z9{β:Type}{f:α->β}{l:Qaa}{lo hi:Co}:cutD Qfe lo hi=(cutD l lo hi).map f:=by
 unfold cutD;simp_all
theorem dZ{α:Type}{f:α->D}(h:∀a,(f a).m7=true):∀(l:Qaa),D.bf Qfe=true
 | []=>rfl
 | a::l=>by rw[kn,D.bf,h a,dZ h l];rfl
variable{d:D}
def aeJ{u:Tok}(hm:X.mg x=some (.int k u))(a:QaA)(hd:AD x:=by decide):bY X CL b QaE U Qjq U:=λH Z Y ts vs Q S kk=>
 cz (ad5 (v:=.int k) a hm ⟨u,rfl⟩ hd) (kk _ H Z Qr Qr (S.push (.int k)))
def aN(hm:∃u,X.mg x=some (.int k u))(a:QaA)(hd:AD x:=by decide):bY X CL b QaE U Qjq U:=by
 obtain⟨u,hm⟩:=hm;exact aeJ hm a hd
noncomputable def vE(n:QaO)(h:U[i]? = some QaI)(e:t.cu=d):cN X CL b QaE U d U:=e▸vB n h
theorem JH(x:Str):∀l:At,sm Qbk (l.map V.str)=decide Qko
 | []=>by simp[sm]
 | y::l=>by
  have b:=JH x l;unfold sm at b ⊢;have e:∀a c,Zz (.str a) (.str c)=(a==c):=λ_ _=>rfl;grind
theorem ay.strs{K:Frag}{Z:Hp}:∀{l:At} {vs:B0},ay K CL Z (l.map D.str) vs->vs=l.map V.str
 | [],_,r=>by
  have a:=r;cases a;rfl
 | y::l,_,r=>by
  have a:=r;cases a with
  | cons c b=>rw[c.sc rfl,ay.strs b];rfl
theorem qL:∀l:At,(l.map V.str).all wC=true
 | []=>rfl
 | y::l=>by rw[kn,List.all_cons,qL l];rfl
def aeK(hm:X.mg "int" = none)(h:cN X CL b e U (.bl p) δ1)(c:Gl X "int")(hs:Qan:=by exact aZ rfl):bY X CL b (.Call (.Name "int" pp) [e] [] pos) U (.sh (.int (if p then 1 else 0))) δ1:=λH Z Y ts vs Q S k=>
 cz (jz Wv c hm HN QaH (he:=hs)) (h H Z Y ts vs _ S λv H1 Z1 a k1 d r=>.inr ⟨p,by rw[r.sc rfl],k _ H1 Z1 a k1 (d.push Qbq)⟩)
theorem So{l:Qaa}(z:α)(h0:0<=k)(h1:k<l.length):xq l k=some QuX:=by
 obtain⟨j,rfl⟩:∃j:Nat,k=j:=⟨k.toNat,We⟩;refine c9 ?_;have hl:j<l.length:=by lia
 rw[kf hl];simp[List.getD,hl]
theorem ajV(h0:0<=k)(h1:k<n):Zx n k=some k.toNat:=by
 unfold Zx;simp_all
def str_len(x y:Str):(x++y).length=x.length+y.length:=by
 show(x.cps++y.cps).size=_;rw[Array.size_append];rfl
def BJ(l:AT):T.dW ((l.map D.int).map T.sh)=true:=by
 rw[i0]
 induction l with
 | nil=>rfl
 | cons i r a=>rw[kn,T.dW,a];rfl
noncomputable def Tb(K:Frag)(a:Addr)(n:Nat):It:=
 ⟨λi H=>i<n/\∃xs,mJ K H a xs/\xs.length=n,λi H x H'=>H'=H/\∀xs,mJ K H a xs->xs[n-1-i]? = some x,λi _=>i=n⟩
variable{tg:Expr}
theorem aad(a it:Addr)(n:Nat):Turn P w K tg (Tb K a n) [it] it (λi h=>PySem.Heap.IsRevIter h it a ((n:Int)-1-(i:Int))) where
 mem:=by simp
 obj:=λi h st b g=>by
  have e:b=it:=by simpa using g
  subst e;obtain⟨o,e,c,d⟩:=st;exact⟨o,e,λv z=>by rw[d]at z;cases z⟩
 keep:=λi h h' st k=>st.at λo e=>k it Wp o e
 item:=by
  intro X m hw q B i pins s Y H E I hf st l;subst m hw q;obtain⟨hi,xs,A,hl⟩:=l;obtain⟨its,F,p,hz⟩:=I.list A;have y:n-1-i<xs.length:=by lia
  obtain⟨u,L,G⟩:=F.get (kf y);obtain⟨f0,f1,f2,t,f4,r⟩:=hf it Wp;have e1:(n:Int)-1-(i:Int)=((n-1-i:Nat):Int):=by lia
  have f:PySem.Heap.IsRevIter s.heap it a ((n-1-i:Nat):Int):=e1▸st;refine PySem.wpAny_pyNext_rev_item f p.isList (x:=u) (by simpa using L) λh' C D=>?_;have N:L2.Inv X pins Y H {s with heap:=h'}:=I.turned (t':=s.toks) (λb o g e=>(D.2 b g).trans e) f0 f1 t f4 r;have e2:((n-1-i:Nat):Int)-1=(n:Int)-1-((i+1:Nat):Int):=by lia
  have j:PySem.Heap.IsRevIter h' it a ((n:Int)-1-((i+1:Nat):Int)):=e2▸C;obtain⟨o,e,c,d⟩:=id C;exact⟨u,rfl,M0 (s:={s with heap:=h'}) e c d Wm ⟨_,H,N,G,⟨rfl,λys J=>by rw[I.Dg J A];exact kf y⟩,j,λb g=>(hf b g).1⟩⟩
 done:=by
  intro X m hw q B i pins s Y H E I hf st l;subst m hw q;obtain⟨f0,f1,f2,t,f4,r⟩:=hf it Wp;have e1:(n:Int)-1-(i:Int)=-1:=by have:i=n:=l;lia
  have f:PySem.Heap.IsRevIter s.heap it a (-1):=e1▸st;exact PySem.wpAny_pyNext_rev_end (I.ok.hd B) f λh' M=>⟨rfl,I.turned (t':=s.toks) (λb o g e=>M b o g e) f0 f1 t f4 r⟩
 self:=λ_ _ _ _ _ st h=>PySem.wpAny_pyIter_revIter st h
def YA(K:Frag)(ta:TA):TI:=λY H R=>ta Y H λvs H1=>∃a xs,vs=[.ref a]/\mJ K H1 a xs/\R (Tb K a xs.length) H1
theorem ajW{a:Expr}{ta:TA}{p:Pos}(j:Qjn)(hm:QiN)(m:PA X [a] ta)(hs:AC X a []):PI X tg (.Call (.Name "reversed" p) [a] [] pos) (YA X.K ta):=by
 intro pins s Y H R I h;refine Call_ (ni I j hm boot_reversed (tR (dP QlW λus s1 zz=>?_) hs rfl));obtain⟨vs,H1,c,g,q1⟩:=zz;obtain⟨l,xs,e,i,q⟩:=q1;subst e;cases g with
 | cons r f=>
  cases f;cases r;obtain⟨its,d,p,hz⟩:=c.list i;refine PySem.call_reversed_list p.isList ?_;have hl:=d.length;have e0:Qqo=xs.length-1-(0:Int):=by grind
  have n:L2.Inv X pins Y H1 {s1 with heap:=s1.heap.push Qs2}:=c.kept λb o e=>ka _ e;have st:PySem.Heap.IsRevIter (s1.heap.push Qs2) s1.heap.objs.size l (xs.length-1-(0:Int)):=e0▸⟨_,l6 _ rfl,rfl,rfl⟩;refine PySem.wpAny_pyIter_revIter st ?_;refine⟨ _,_,_,_,H1,rfl,n,aad l _ _,st,λb k=>?_,q⟩;have e:=by simpa using k
  subst e;exact c.Di (ik _) QiK
variable{pr pc:Pos}{ds:BA}
theorem ay.rev{ds:BA}(r:Qn8):ay K CL Z ds.reverse us.reverse:=by
 have go:∀{ds:BA} {us:B0} {es:BA} {ws:B0},ay K CL Z ds us->ay K CL Z es ws->ay K CL Z (ds.reverse++es) (us.reverse++ws):=by
  intro ds us es ws r
  induction ds generalizing us es ws with
  | nil=>cases r;simp_all
  | cons d ds c=>
   cases r with
   | cons b a=>
    intro q;rw[pE,pE,i3,i3];exact c a (.cons b q)
 simpa using go r .nil
theorem ajX(hm:QiN)(h:Ql7)(l:Qjn)(hs:Qan:=by exact aZ rfl):o6 X CL b tg (.Call (.Name "reversed" pr) [e] [] pc) U ds.reverse δ1:=by
 refine⟨_,ajW l hm QaH hs,λH Z Y ts vs R S k=>h H Z Y ts vs _ S λv H1 Z1 j k1 d=>?_⟩;obtain⟨fp,gp,_,r,_,_⟩:=d.rep;cases r with
 | cons r _=>
  replace r:=r.F4;obtain⟨rfl,r⟩:=r;obtain⟨a,us,rfl,c,f⟩:=r.gT;have hlen:=f.length;refine⟨a,us,rfl,d.zh.seq c,k _ _ ⟨Z1,_,j,k1,d.pop,ay.rev f,λi H2 s hi=>?_,λi H2 y H' s hi g=>?_,λH2 s=>?_⟩⟩
  .rw[rF]at hi;exact⟨We,us,s.seq c,rfl⟩
  .rw[rF]at hi;refine⟨g.1,?_⟩;rw[List.getElem?_reverse We];exact g.2 us (s.seq c)
  .rw[rF];exact hlen
variable{ds:BA}
def Hm(n:QaO)(h:U[i]? = some (some QdL)):bY X CL b QaE U QeT (U.set i (some QeT)):=by
 have:=vF (CL:=CL) (b:=b) (pos:=pos) n h
 rwa [T.cu,kU]at this
theorem jF.get:∀{fs:EO} {gs:Bz} {f:Str} {d:D},jF K CL Z fs gs->fs.lookup f=some d->∃v,gs.lookup f=some v/\bz K CL Z d v
 | _,_,_,_,.nil,e=>by simp at e
 | _,_,f,d,.cons (x:=x) r t,e=>by
  rw[mf]at e ⊢;cases h:f==x with
  | true=>rw[h]at e;grind
  | false=>rw[h]at e;exact jF.get t e
noncomputable def qN(f:Str)(t:T):BS->BS
 | []=>[(f,t)]
 | (g,x)::r=>if g=f then(g,t)::r else(g,x)::qN f t r
theorem cM.length{fs:BS}{gs:Bz}(h:cM K CL H Z fs gs fp):fs.length=gs.length:=
 cM.ind (P:=λd v _=>d.length=v.length) rfl Qim h
theorem cM.put{f:Str}{g:BY}(q:bD K CL H Z t v g):∀{fs:BS} {gs:Bz} {fp:BY},cM K CL H Z fs gs fp →
  ∃b a,cM K CL H Z (qN f t fs) (oV f v gs) b/\a.Sublist fp/\b.Perm (g++a)
 | _,_,_,.nil=>⟨ _,[],.cons q .nil,nk _,List.Perm.refl _⟩
 | _,_,_,.cons (x:=x) (fp:=fp) (gp:=gp) r rs=>by
  rw[qN,oV];by_cases h:x=f
  .rw[cq h,cq h];exact⟨ _,gp,.cons q rs,v3 _ _,List.Perm.refl _⟩
  .rw[bX h,bX h];obtain⟨p,c,h1,h2,d⟩:=cM.put q rs;refine⟨ _,_,.cons r h1,oP (nk _) h2,(n7 fp d).trans ?_⟩;rw[<- i3,<- i3];exact mI.append_right c
theorem bq.QN{e f:BY}(hm:ju o=false)(S:Qao)(own:∀c∈fp++gp,Z c=none/\b.B c=none)(j:a∈fp++gp)
  (k:fH K CL Qbz Z U2 Y e) (h:aQ K CL Qbz Z tl us f) (pm:(e++f).Nodup) (sub:∀c∈e++f,c∈fp++gp) :
  bq K CL b Qbz Z U2 Y tl us:=by
 have g:=own a j;refine⟨⟨_,_,k,h,pm,λc d=>own c (sub c d)⟩,λc u q=>?_,S.zz,λc u q=>?_,S.new,λc u q i=>?_,S.tab⟩
 .rw[au (aM q g.2)];exact S.bh c u q
 .rw[au (aM q g.1)];exact S.zh c u q
 .by_cases d:c=a
  .subst d;rw[aC]at q;grind
  .rw[au d]at q;exact S.tp c u q i
variable{f:Str}{d:D}{fs:EO}
def cH(i:QfM)(n:QgO)(h:cN X CL b e U QaZ δ1)(hl:fs.lookup f=some d)(j:AS X e f:=by rfl) :
  cN X CL b Qgo U d δ1:=λH Z Y ts vs Q S k=>
 cz (Qu cL j) (h H Z Y ts vs _ S λv H' Z' z s o r=>by
  obtain⟨a,dx,gs,rfl,l,g⟩:=r.Dt;obtain⟨w,hw,m⟩:=g.get hl;exact⟨a,CL c,dx,gs,w,rfl,l,i,n,hw,k w H' Z' z s o m⟩)
def tT(j:QfM)(n:QgO)(h:bY X CL b e U (.sh QaZ) δ1)(hl:fs.lookup f=some d)(l:AS X e f:=by rfl) :
  bY X CL b Qgo U Qa3 δ1:=λH Z Y ts vs Q S k=>
 cz (Qu cL l) (h H Z Y ts vs _ S λv H' Z' z s g=>by
  obtain⟨fp,gp,_,r,_,_⟩:=g.rep;cases r with
  | cons r _=>
   replace r:=r.F4;obtain⟨rfl,r⟩:=r;obtain⟨a,dx,gs,rfl,m,i⟩:=r.Dt;obtain⟨w,hw,o⟩:=i.get hl;exact⟨a,CL c,dx,gs,w,rfl,g.zh _ _ m,j,n,hw,k w H' Z' z s (g.pop.push o)⟩)
def q4(K:Frag)(CL:BM){A:Type}(c:Str)(n:Nat)(arg:Qaj)(Pre:Q2)(res:Qdv):Sp:=λvs H Q _=>
 ∃(W b:Hp) (a:A) (x dx:Addr) (us:B0),vs=.ref x::us/\b x=none/\b dx=none/\dx≠x/\H=upd (upd b dx Qhc) x QuA ∧
  aB W b/\(∀c o,b c=some o->ju o=true->W c=some o)/\ay K CL W Qcn us/\(arg a).length+1=n/\Pre a/\ny CL W ∧
  ∀H' W' fp,aB b H'->aB W W'->aB W' H'->(∀c o,W' c=some o->W c=none->b c=none)->(∀c o,H' c=some o->ju o=true->W' c=some o) →
   bD K CL H' W' Qjf Qdi fp->fp.Nodup->(∀c∈fp,W' c=none/\b c=none)->Q .non H'
variable{A:Type}{k:Nat}{f:Addr}{arg:Qaj}{Pre:Q2}
def aeL{res:Qdv}(a:A)(M:Mk X.K (CL c) f)(F:QpC)(s:QgY)(hm:X.mg x=some QgT)(v:Qgy)
  (h:QfX) (hn:Qi9) (t:Pre a) (z:T.cX QbL=true) (u:QaA)
  (o:AD x:=by decide) (he:Qav:=by exact aZ rfl) (hpl:QaN:=by rfl) :
  bY X CL b QbW U Qjf δ1:=λH Z Y ts vs Q S kk=>
 cz (Jk M F s u hm v .nil Ds MG o he hpl) (h H Z Y ts vs _ S λus H1 Z1 j k1 g r x dx p d ne=>by
  rw[js];refine⟨H1,H1,a,x,dx,us,rfl,p,d,ne,rfl,.refl _,λ_ _ q _=>q,r,hn,t,g.Nh,λH' W' fp i ww m nw tp rt nd own=>⟨rfl,?_⟩⟩;obtain⟨Z',l,y⟩:=g.back i g.zh ww m nw tp rt nd own (.inr (‹_›));exact kk _ H' Z' (j.trans l) (k1.trans i) y)
theorem aae{res:Qdv}(a:A)(M:Mk X.K (CL c) f)(F:QpC)(r:QgY)(hm:X.mg x=some QgT)(u:Qgy)
  (h:QhX) (hn:Qi9) (s:Pre a) (t:QaA)
  (p:AD x:=by decide) (he:Qav:=by exact aZ rfl) (hpl:QaN:=by rfl) :
  bY X CL b QbW U Qjf δ1:=λH Z Y ts vs Q S kk=>
 cz (Jk M F r t hm u .nil Ds MG p he hpl) (h H Z Y ts vs _ S λus H1 Z1 hl l k1 d x dx q g ne=>by
  rw[js];have j:us.length=(arg a).length:=by grind
  have v:=d.drops (by simp[j]);refine⟨Z1,H1,a,x,dx,us,rfl,q,g,ne,rfl,d.zh,d.tp,d.CF j,hn,s,d.QH,λH' W' fp i ww o nw tp rt nd own=>⟨rfl,?_⟩⟩;obtain⟨Z',m,y⟩:=v.back i Qr ww o nw tp rt nd own Qae;exact kk _ H' Z' (l.trans m) (k1.trans i) y)
def CJ{arg:Qaj}{Pre:Q2}{res:Qdv}(F:Qdr)(S:Qds)
  (I:∀(eB:Value) (l:Qas) (outer:D1) (s:Qb) (H:Hp) (E:XK) (b:Bx) (a:A) (y:Addr),fj k Qvr->Pre a →
   cQ (tN oj P w K mg base N qual QaX f eB l outer s H E).Qe CL b Qbr (some QuB::((arg a).map Qiq++List.replicate (N.length-((arg a).length+1)) none))
    {nx:=λU=>U[0]? = some (some (.pin y Qjf)),rt:=λ_ _=>False}) :
  dz P w K mg base oj QaM f fd ps (q4 K CL c ps.length arg Pre res):=by
 refine JA F S (λvs H Q E h=>?_) (λeB l outer s H vs Q E _ D h=>?_)
 .obtain⟨W,j,a,y,dx,us,rfl,_,_,_,_,_,_,r,hl,_⟩:=h;rw[mi,<- r.length];exact hl
 .obtain⟨W,j,a,y,dx,us,rfl,m,n,ne,rfl,u,tp,r,hl,G,tb,kk⟩:=h;have old:∀{d:Addr} {o:HO},j d=some o->upd (upd j dx (.own y)) y QuA d=some o:=λ{d o} q=>by
   rw[au (aM q m),au (aM q n)];exact q
  refine⟨_,UC,I eB l outer s _ E ⟨j,W⟩ a y D G _ W _ [] [] _ ⟨⟨[y]++[],[],?_,.nil,Wp,λd hd=>?_⟩,λd o q=>old q,.refl _,λd o q=>old (u d o q),λd o q z=>?_,λd o q i=>?_,tb⟩ ⟨λU' Y' H' Z' s' g e=>?_,λt v H' Z' U' Y' s' g e=>e.elim,λ_ _ _ _ _ _ e=>e.elim,λ_ _ _ _ _ _ e=>e.elim⟩⟩
  .unfold L2.start;rw[kn,mi,mv,<- r.length];exact .cons (.pin (.ins aC .nil)) (ku _ r)
  .have:d=y:=by simpa using hd
   subst this;exact⟨Jv u m,m⟩
  .have C:W d=some o:=q;have p:W d=none:=z;rw[C]at p;cases p
  .by_cases h1:d=y
   .subst h1;rw[aC]at q;cases q;cases i
   .rw[au h1]at q;by_cases h2:d=dx
    .subst h2;rw[aC]at q;cases q;cases i
    .rw[au h2]at q;exact tp d o q i
  .obtain⟨fp,gp,J,_,nd,own⟩:=g.rep;obtain⟨v,f1,f2,L,hv,B,rt,_,_⟩:=J.get e;subst B;replace rt:=rt.QF;obtain⟨rfl,rt⟩:=rt;refine kk H' Z' f2 g.bh g.zz g.zh g.new g.tp rt ?_ λd hd=>own d (by simp[hd]);have h1:=(l2.1 nd).1;exact(l2.1 (l2.1 h1).2.1).1
variable{body:CI}{ds JK:BA}
theorem CK(g:Gx X)(P:FA)(m:Nat)(h0:P m U)
  (hs:∀m U,P m U->∃p δ1,sR X CL b e U p δ1 ∧
   (p=true->cQ X CL b body δ1 {nx:=λU2=>∃a,a<m/\P a U2,rt:=DD.rt,bk:=λU2=>cQ X CL b dQ U2 DD,ct:=λU2=>∃a,a<m/\P a U2})/\(p=false->cQ X CL b dQ δ1 DD)) :
  cQ X CL b (.While e body [] pos::dQ) U DD:=bS λH Z Y ts vs E S M=>
 lT (Zh g.xe q5 UC) (by
  refine⟨λm Y H=>∃Z2 U2,aB Z Z2/\bq X.K CL b H Z2 U2 Y ts vs/\P m U2,⟨m,Z,U,.refl _,S,h0⟩,?_⟩;rintro m Y H ⟨Z2,U2,f,k,p2⟩;obtain⟨p,δ3,j,h1,h2⟩:=hs m U2 p2;refine j H Z2 Y ts vs _ k λi Z3 d k3 h=>?_;cases p with
  | true=>
   refine⟨ _,λY' H' q=>q,?_⟩;refine h1 rfl i Z3 Y ts vs _ h ⟨λU' Y' H' Z' s' c ⟨a,l,q⟩=>⟨a,l,Z',U',f.trans Qnm,c,q⟩,λt v H' Z' U' Y' s' c q=>M.rt t v H' Z' U' Y' Qv2 c q,
    λU' Y' H' Z' s' c q=>M.nx U' Y' H' Z' Qv2 c q,λU' Y' H' Z' s' c ⟨a,l,q⟩=>⟨a,l,Z',U',f.trans Qnm,c,q⟩⟩
  | false=>
   exact M.nx δ3 Y i Z3 (f.trans d) h (h2 rfl))
def aom(K:Frag):R2:=λx y H Q=>∃l b xs zs,x=.ref l/\y=.ref b/\mJ K H l xs/\mJ K H b zs/\xs.length+zs.length<=sizeLine/\∀p,H p=none->Q QbM (upd H p QrS)
theorem aeM:BD X QgK (aom X.K):=by
 intro pins s Y H x y v u Q I k j h;obtain⟨l,b,xs,zs,rfl,rfl,p,t,hz,q⟩:=h;cases k;cases j;obtain⟨its,r,pl,_⟩:=I.list p;obtain⟨i,f,d,_⟩:=I.list t;have e1:=r.length;have e2:=f.length;obtain⟨⟨D,dd,A,sl⟩,g,o,n,hd⟩:=pl.isList;obtain⟨⟨C,e,z,c⟩,a,B,m,hd2⟩:=d.isList;cases o;cases B;cases hd;cases hd2;refine concat_meets ⟨_,g,rfl⟩ ⟨_,a,rfl⟩ noFill_list_add seq_list_add PySem.F.slot_list_add PySem.F.entry_list_add (PySem.F.args_list_add_2 _ _)
  (list_addW l b _ _ n m dd e sl c WB) ⟨g,a,?_⟩
 have w:its.toArray++i.toArray=(its++i).toArray:=by simp
 rw[w];exact⟨.ref _,_,I.NJ (r.append f) WA,rfl,q _ I.fresh⟩
theorem ay.app{ds JK:BA}{a:B0}(h:QfG)(b:ay K CL Z JK a):ay K CL Z (ds++JK) (vs++a):=
 ay.ind (P:=λds vs=>ay K CL Z (ds++JK) (vs++a)) b (λr _ i=>.cons r i) h
def qO(h1:QlU)(h2:cN X CL b e2 δ1 (.lst JK) U2)(i1:Qdu)(m:D.bf JK=true)(hz:QlE) :
  bY X CL b Qga U (.lst ((ds++JK).map T.sh)) U2:=λH Z Y ts vs Q S k=>
 cz (M4 aeM cL cL) (h1 H Z Y ts vs _ S λv1 H1 Z1 i k1 r l=>h2 H1 Z1 Y ts vs _ r λv2 H2 Z2 h k2 g j=>by
  have d:=l.mono k2;obtain⟨_,_,rfl,o,f⟩:=d.gT;obtain⟨_,_,rfl,e,a⟩:=j.gT;refine⟨_,_,_,_,rfl,rfl,o,e,by rw[<- f.length,<- a.length];exact hz,λp n=>?_⟩;have rc:=ay.app (ay.m7 g.tp i1 f) (ay.m7 g.tp m a);obtain⟨c,q⟩:=(bq.qg rc g).nB (g0:=[]) (by simp[f.length,a.length]) n;exact k _ _ _ (i.trans h) QsO q)
def boot_max:bootBuiltins "max" = some QuT:=by decide +kernel
def boot_str:bootBuiltins "str" = some Qn6:=by decide +kernel
def aeN{i j:Int}(g:Gx X)(hm:X.mg "max" = none)(e:Gl X "max")(h:ZP X CL b [e1,e2] U [.int i,.int j] δ1)(hs:Qp5:=by exact aZ rfl)(hpl:(backTo pos (starEach [e2] X.env)).any (·.1)=false:=by rfl) :
  bY X CL b (.Call (.Name "max" pp) [e1,e2] [] pos) U (.sh Qqv) δ1:=λH Z Y ts vs Q S k=>
 cz (lC (Wu g.calm) e hm boot_max MG (he:=hs) (hpl:=hpl)) (h H Z Y ts vs _ S λus H1 Z1 a k1 f r=>by
  cases r with
  | cons d r=>
   cases r with
   | cons c r=>
    cases r;rw[d.sc rfl,c.sc rfl];exact⟨i,j,rfl,k _ H1 Z1 a k1 (f.push Qbq)⟩)
def mL{i:Int}(hm:X.mg "str" = none)(c:Gl X "str")(h:cN X CL b e U Qba δ1)(hi:i.natAbs.log2<1920)(hs:Qan:=by exact aZ rfl) :
  bY X CL b (.Call (.Name "str" pp) [e] [] pos) U (.sh Qt4) δ1:=λH Z Y ts vs Q S k=>
 cz (jz Jf c hm boot_str QaH (he:=hs)) (h H Z Y ts vs _ S λv H1 Z1 a k1 d r=>r.sc rfl▸⟨i,rfl,hi,k _ H1 Z1 a k1 (d.push (.str _))⟩)
structure Fm(X:Cx)(CL:BM)(x:Str)(k n:Nat){A:Type}(arg:Qaj)(Pre:Q2)(res:Qdv):Prop where
 ex:∃f fd ps,Mk X.K (CL x) f/\dz X.prog X.w X.K X.mg X.base oj k f fd ps (q4 X.K CL x n arg Pre res)/\X.mg x=some (.ref (CL x))/\Binds X.K fd ps []
 room:fj QaM X.A
structure Fq(X:Cx)(CL:BM)(c m:Str)(k n:Nat){A:Type}(arg:Qaj)(Pre:Q2)(res:QaU):Prop where
 ex:∃f fd ps,Meth X.K (CL c) m f/\dz X.prog X.w X.K X.mg X.base oj k f fd ps Qh8/\Binds X.K fd ps []
 room:fj k X.A
 cls:yE X.K (CL c)
noncomputable def JL(N:At)(y:Addr)(c:Str)(ds:BA):BB:=some QuB::(ds.map Qiq++List.replicate (N.length-(ds.length+1)) none)
section
variable{m:Str}{D:dw}
def mk_{arg:Qaj}{Pre:Q2}{res:Qdv}(a:A)(F:QlX)(g:QaA)(h:QfX)(d:Pre a)(i:T.cX QbL=true)(hn:Qi9:=by rfl)
  (c:AD x:=by decide) (he:Qav:=by exact aZ rfl) (hpl:QaN:=by rfl) :
  bY X CL b QbW U (.ins x QbL) δ1:=by
 obtain⟨f,fd,ps,M,j,m,b⟩:=F.ex;exact aeL a M j F.room m b h hn d i g c he hpl
def ME{arg:Qaj}{Pre:Q2}{res:Qdv}(a:A)(F:QlX)(g:QaA)(h:QhX)(d:Pre a)(hn:Qi9:=by rfl)
  (c:AD x:=by decide) (he:Qav:=by exact aZ rfl) (hpl:QaN:=by rfl) :
  bY X CL b QbW U (.ins x QbL) δ1:=by
 obtain⟨f,fd,ps,M,i,m,b⟩:=F.ex;exact aae a M i F.room m b h hn d g c he hpl
end
def vD{f:Str}{d:α}{fs:List (Str×α)}:((f,d)::fs).lookup f=some d:=by simp
def JM{f g:Str}{d:α}{fs:List (Str×α)}(h:(f==g)=false):((g,d)::fs).lookup f=fs.lookup f:=by
 rw[mf,h]
def yO{f:Str}:qN f t []=[(f,t)]:=rfl
def gO{f g:Str}{u:T}{fs:BS}(h:¬ g=f):qN f t ((g,u)::fs)=(g,u)::qN f t fs:=by
 rw[qN,bX h]
variable{d:L3.D}
theorem yP(x:Int):∀l:AT,sm Qdj (l.map V.int)=decide Qko
 | []=>rfl
 | y::l=>by
  have a:=yP x l;unfold sm at a ⊢;rw[kn,pf,a];by_cases h:y=x
  .subst h;simp[Zz]
  .have h':¬ x=y:=λe=>h e.symm;simp[Zz,h,h']
theorem ay.ints{K:Frag}{Z:Hp}:∀{l:AT} {vs:B0},ay K CL Z Qoc vs->vs=l.map V.int
 | [],_,r=>by
  have a:=r;cases a;rfl
 | y::l,_,r=>by
  have a:=r;cases a with
  | cons c b=>rw[c.sc rfl,ay.ints b];rfl
theorem jK:∀l:AT,(l.map V.int).all wC=true
 | []=>rfl
 | y::l=>by rw[kn,List.all_cons,jK l];rfl
noncomputable def DB(d:L3.D):Option BA:=match d with
 | .lst ds=>some ds
 | .tup ds=>some ds
 | _=>none
theorem bz.DB{ds:BA}(r:QcO)(h:L3.DB d=some ds):∃p us,v=.ref p/\(mJ K Z p us\/tL K Z p us)/\ay K CL Z ds us:=by
 cases r with
 | tup b a=>cases h;exact⟨_,_,rfl,.inr b,a⟩
 | lst b a=>cases h;exact⟨_,_,rfl,.inl b,a⟩
 | non=>cases h
 | bl=>cases h
 | int=>cases h
 | str=>cases h
 | any=>cases h
 | val=>cases h
 | jt=>cases h
 | dct=>cases h
 | ins=>cases h
 | j5=>cases h
variable{l:AT}
def CM{i:Int}(h1:QbF)(h2:Qmw)(hd:L3.DB d=some QbY)(hm:QtN) :
  sR X CL b Qlz U Qv3 U2/\bY X CL b Qlz U (.sh (.bl Qv3)) U2:=by
 constructor
 .intro H Z Y ts vs Q S k;refine yK (yC HC cL cL hm) (h1 H Z Y ts vs _ S λv1 H1 Z1 f k1 n a=>h2 H1 Z1 Y ts vs _ n λv2 H2 Z2 c k2 m h=>?_);obtain⟨p,us,rfl,j,g⟩:=bz.DB h hd;have e:=g.ints;subst e;refine⟨_,_,rfl,j,by rw[a.sc rfl];rfl,jK l,_,rfl,?_⟩;rw[a.sc rfl,yP];exact k H2 Z2 Qe8 Qac m
 .intro H Z Y ts vs Q S k;refine cz (Cz HC cL cL hm) (h1 H Z Y ts vs _ S λv1 H1 Z1 f k1 n a=>h2 H1 Z1 Y ts vs _ n λv2 H2 Z2 c k2 m h=>?_);obtain⟨p,us,rfl,j,g⟩:=bz.DB h hd;have e:=g.ints;subst e;refine⟨_,_,rfl,j,by rw[a.sc rfl];rfl,jK l,?_⟩;rw[a.sc rfl,yP];exact k _ H2 Z2 Qe8 Qac (m.push Qfi)
def yQ{i:Int}(h1:QbF)(h2:Qmw)(hd:L3.DB d=some QbY)(hm:Qf2) :
  sR X CL b QdB U (!decide Qon) U2/\bY X CL b QdB U (.sh (.bl (!decide Qon))) U2:=by
 constructor
 .intro H Z Y ts vs Q S k;refine yK (yC mK cL cL hm) (h1 H Z Y ts vs _ S λv1 H1 Z1 f k1 n a=>h2 H1 Z1 Y ts vs _ n λv2 H2 Z2 c k2 m h=>?_);obtain⟨p,us,rfl,j,g⟩:=bz.DB h hd;have e:=g.ints;subst e;refine⟨_,_,rfl,j,by rw[a.sc rfl];rfl,jK l,_,rfl,?_⟩;rw[a.sc rfl,yP];exact k H2 Z2 Qe8 Qac m
 .intro H Z Y ts vs Q S k;refine cz (Cz mK cL cL hm) (h1 H Z Y ts vs _ S λv1 H1 Z1 f k1 n a=>h2 H1 Z1 Y ts vs _ n λv2 H2 Z2 c k2 m h=>?_);obtain⟨p,us,rfl,j,g⟩:=bz.DB h hd;have e:=g.ints;subst e;refine⟨_,_,rfl,j,by rw[a.sc rfl];rfl,jK l,?_⟩;rw[a.sc rfl,yP];exact k _ H2 Z2 Qe8 Qac (m.push Qfi)
def aeO{l:At}(h1:QlT)(h2:Qmw)(hd:L3.DB d=some (l.map .str))(hm:Qf2) :
  sR X CL b QdB U (!decide Qko) U2/\bY X CL b QdB U (.sh (.bl (!decide Qko))) U2:=by
 constructor
 .intro H Z Y ts vs Q S k;refine yK (yC mK cL cL hm) (h1 H Z Y ts vs _ S λv1 H1 Z1 f k1 m a=>h2 H1 Z1 Y ts vs _ m λv2 H2 Z2 c k2 j h=>?_);obtain⟨p,us,rfl,i,g⟩:=bz.DB h hd;have e:=g.strs;subst e;refine⟨_,_,rfl,i,by rw[a.sc rfl];rfl,qL l,_,rfl,?_⟩;rw[a.sc rfl,JH];exact k H2 Z2 Qe8 Qac j
 .intro H Z Y ts vs Q S k;refine cz (Cz mK cL cL hm) (h1 H Z Y ts vs _ S λv1 H1 Z1 f k1 m a=>h2 H1 Z1 Y ts vs _ m λv2 H2 Z2 c k2 j h=>?_);obtain⟨p,us,rfl,i,g⟩:=bz.DB h hd;have e:=g.strs;subst e;refine⟨_,_,rfl,i,by rw[a.sc rfl];rfl,qL l,?_⟩;rw[a.sc rfl,JH];exact k _ H2 Z2 Qe8 Qac Qpi
variable{ds:BA}
def aL:Gf X CL b [] U (([]:BA).map T.sh) U:=bu
def aj(h1:Qir)(h2:Gf X CL b es δ1 Qcz U2)(hs:Qav:=by exact aZ rfl):Gf X CL b Qau U ((d::ds).map T.sh) U2:=aG h1 h2 hs
theorem e7(h:Qtg)(hl:Qb7):bY X CL b Qn7 U QdL δ1:=b8 h WA
def ig(l:At):D.bf (l.map L3.D.str)=true:=dZ Qcm _
def gX(h:Ql6):bY X CL b e U QeT δ1:=by
 have:=QI h
 rwa [T.cu,kU]at this
noncomputable def jc(h:QaJ)(q:t.cu=d):bY X CL b e U Qa3 δ1:=q▸QI h
def aeP(h:DD.bk U):cQ X CL b (.Break pos::dQ) U DD:=bS (ZV h)
def aj1(h:DD.ct U):cQ X CL b (.Continue pos::dQ) U DD:=bS (aeC h)
noncomputable def mE{d2:L3.D}(h:Qcw)(q:d=d2):cN X CL b e U d2 δ1:=q▸h
noncomputable def aH{t2:T}(h:QaJ)(q:t=t2):bY X CL b e U t2 δ1:=q▸h
structure JN(Z H Z' H':Hp):Prop where
 z:aB Z Z'
 h:aB H H'
 zh:aB Z' H'
 new:∀a o,Z' a=some o->Z a=none->H a=none
 tp:∀a o,H' a=some o->ju o=true->Z' a=some o
theorem JN.refl(zh:aB Z H)(tp:∀a o,H a=some o->ju o=true->Z a=some o):JN Z H Z H:=⟨.refl _,.refl _,zh,λa o q z=>WB,tp⟩
theorem JN.tup{p:Addr}(zh:aB Z H)(tp:∀a o,H a=some o->ju o=true->Z a=some o)(b:Qdt):JN Z H (upd Z p Qbc) (upd H p Qbc):=by
 have c:=zh.free b;refine⟨aB.upd c,aB.upd b,λa o q=>?_,λa o q z=>?_,λa o q i=>?_⟩
 .by_cases e:a=p
  .subst e;rw[aC]at q ⊢;exact q
  .rw[au e]at q ⊢;exact zh a o q
 .by_cases e:a=p
  .subst e;exact b
  .rw[au e,z]at q;cases q
 .by_cases e:a=p
  .subst e;rw[aC]at q ⊢;exact q
  .rw[au e]at q ⊢;exact tp a o q i
theorem bq.grow(S:Qao)(g:JN Z H Z' H'):bq K CL b H' Z' U Y ts vs:=by
 obtain⟨fp,gp,e,r,nd,k⟩:=S.rep;have old:=λa c=>(iw.1 c).elim (e.there a) (r.there a);have keep:∀a∈fp++gp,H' a=H a:=λa c=>by
  obtain⟨o,q⟩:=old a c;rw[q];exact g.h a o q
 refine⟨⟨fp,gp,e.mono g.z (λa c=>keep a QkD),r.mono g.z (λa c=>keep a (iF _ c)),nd,λa c=>⟨?_,(k a c).2⟩⟩,S.bh.trans g.h,S.zz.trans g.z,g.zh,λa o q z=>?_,g.tp,S.tab⟩
 .cases q:Z' a with
  | none=>rfl
  | some o=>
   obtain⟨u,d⟩:=old a c;rw[g.new a o q (k a c).1]at d;cases d
 .cases e2:Z a with
  | none=>exact S.bh.free (g.new a o q e2)
  | some u=>
   have:=g.z a u e2;rw[q]at this;cases this;exact S.new a o e2 z
noncomputable def UJ(U:BB):Cn->BA->BB
 | i::is,d::ds=>UJ Qi8 is ds
 | _,_=>U
noncomputable def DC(Y:L2.St):Cn->B0->L2.St
 | i::is,v::vs=>DC QeR is vs
 | _,_=>Y
theorem bq.sets{ps:BA}{ys:B0}:∀{is:Cn} {U:BB} {Y:L2.St},bq K CL b H Z U Y ts vs->ay K CL Z ps ys->(∀i∈is,i<U.length)->bq K CL b H Z QoE (DC Y is ys) ts vs:=by
 intro is
 induction is generalizing ps ys with
 | nil=>
  intro U Y S r _;cases ps<;>cases ys<;>exact S
 | cons i is c=>
  intro U Y S r hl;cases r with
  | nil=>exact S
  | cons r a=>exact c ((S.push r).set (hl i gk)) a (λj d=>by rw[List.length_set];exact hl j Qhr)
section
variable{ds:BA}
structure Aw(X:Cx)(CL:BM)(b:Bx)(δ1:BB)(Y:L2.St)(ts:Bn)(vs:B0)(Z H:Hp)(ds:BA)(J:It)(H1:Hp):Prop where
 ex:∃Z1,aB Z Z1/\aB H H1/\bq X.K CL b H1 Z1 δ1 Y ts vs/\(∀i H2,aB Z1 H2->i<ds.length->J.go i H2) ∧
  (∀i Z2 H2 x H',aB Z1 Z2->aB Z2 H2->(∀a o,H2 a=some o->ju o=true->Z2 a=some o)->i<ds.length->J.oe i H2 x H'->∃Z3 d,ds[i]? = some d/\JN Z2 H2 Z3 H'/\bz X.K CL Z3 d x)/\(∀H2,aB Z1 H2->J.stop ds.length H2)
def r3(X:Cx)(CL:BM)(b:Bx)(tg e:Expr)(U:BB)(ds:BA)(δ1:BB):Prop:=
 ∃a,PI X tg e a/\∀(H Z:Hp) (Y:L2.St) (ts:Bn) (vs:B0) (R:QgP),bq X.K CL b H Z U Y ts vs->(∀J H1,Aw X CL b δ1 Y ts vs Z H ds J H1->R J H1)->a Y H R
def UK(h:o6 X CL b tg iter U ds δ1):r3 X CL b tg iter U ds δ1:=by
 obtain⟨f,pi,hw⟩:=h;refine⟨f,pi,λH Z Y ts vs R S k=>hw H Z Y ts vs R S λJ H1 zz=>?_⟩;obtain⟨Z1,us,a,k1,m,g,go,c,st⟩:=zz;refine k J H1 ⟨Z1,a,k1,m,go,λi Z2 H2 x H' s1 s2 tp hi j=>?_,st⟩;obtain⟨e,l⟩:=c i H2 x H' (s1.trans s2) hi j;subst e;obtain⟨d,hd,rd⟩:=g.QD l;exact⟨Z2,d,hd,.refl s2 tp,rd.mono s1⟩
def xr(X:Cx)(CL:BM)(tg:Expr)(is:Cn)(parts:QjL):Prop:=
 ∃t:TG,PG X tg t/\∀(Z H:Hp) (d:D) (ps:BA) (x:V) (Y:L2.St) (Q:QuY),aB Z H->bz X.K CL Z d x->parts d=some ps->(∀ys,ay X.K CL Z ps ys->Q (DC Y is ys) H)->t x Y H Q
noncomputable def part1(d:D):Option BA:=some [d]
noncomputable def part2:D->Option BA
 | .tup [a,c]=>some [a,c]
 | _=>none
theorem WZ{d:D}{ps:BA}(h:part2 d=some ps):∃d1 d2,d=.tup [d1,d2]/\ps=[d1,d2]:=by
 unfold part2 at h;split at h
 .grind
 .cases h
theorem QO{d:D}{ps:BA}{x:V}{Q:QuY}(zh:aB Z H)(r:bz K CL Z d x)(e:part2 d=some ps)(k:∀ys,ay K CL Z ps ys->Q (DC Y [i,j] ys) H):NG K 2 (Zg (MY i) (Zg (MY j) NH)) x Y H Q:=by
 obtain⟨d1,d2,rfl,rfl⟩:=WZ e;obtain⟨_,_,rfl,f,a⟩:=r.lS;cases a with
 | cons c a=>
  cases a with
  | cons b a=>
   cases a;exact⟨_,_,rfl,aB.Gb zh f,rfl,_,_,rfl,_,_,rfl,rfl,k _ (.cons c (.cons b .nil))⟩
def aaf{px:Pos}(a:Qbs)(n:Qbl):xr X CL Qg4 [i] part1:=
 ⟨ _,vv a n.hi n.loc n.hf,λZ H d ps x Y Q zh r e k=>by
  cases e;exact k [x] (.cons r .nil)⟩
def CN{y:Str}{px py pt:Pos}(a:Qbs)(c:Qa6)(n:Qbl)(m:Ln X j y)(hs:(assignEach [.Name x px,.Name y py] X.env).map (·.2)=assign Qg4 X.env::(assignEach [.Name y py] X.env).map (·.2):=by rfl)(f:(assignEach [.Name y py] X.env).map (·.2)=assign Qip X.env::(assignEach [] X.env).map (·.2):=by rfl)
  (hn:(assignEach [.Name x px,.Name y py] X.env).length=2:=by rfl) (b:(assignEach [.Name x px,.Name y py] X.env).findIdx? (·.1)=none:=by rfl):xr X CL (.Tuple [.Name x px,.Name y py] k pt) [i,j] part2:=
 ⟨ _,ai9 c (MZ (vv a n.hi n.loc n.hf) (MZ (vv a m.hi m.loc m.hf) ad8 f) hs) hn b,λZ H d ps x Y Q zh r e k=>QO zh r e k⟩
theorem aeQ{D:dw}(is:Cn)(parts:L3.D->Option BA)(P:FA)(h:Qf4)(n:Qvs)(h0:QfK)(hl:∀j U,P j U->∀i∈is,i<U.length)
  (hs:∀j d U,ds[j]? = some d->P j U->∃ps,parts d=some ps/\cQ X CL b dQ QoE {nx:=P QF,rt:=D.rt,bk:=D.nx,ct:=P QF}) (hd:∀U,P ds.length U->D.nx U)
  (B:Qii) (C:Qa6) (x:Qcv:=by intro _;rfl) :
  WO X CL b (.For tg iter dQ [] pos) U D:=λH Z Y ts vs E S M=>by
 obtain⟨N,pi,hw⟩:=h;obtain⟨t,pg,n⟩:=n;refine lT (Qp B C pi pg UC x) (hw H Z Y ts vs _ S λJ H1 zz=>?_);obtain⟨Z1,f,k1,L,go,r,st⟩:=zz;refine⟨λj m Y H2=>m=ds.length-j/\j<=ds.length/\∃Z2 U2,aB Z1 Z2/\bq X.K CL b H2 Z2 U2 Y ts vs/\P j U2,⟨_,rfl,i8 _,Z1,δ1,.refl _,L,h0⟩,?_⟩;rintro j m Y H2 ⟨rfl,O,Z2,U2,s,c,p2⟩;by_cases l:j<ds.length
 .refine .inr ⟨go j H2 QgQ l,_,λY' H' h=>⟨ _,We,rfl,l,h⟩,λy H' u=>?_⟩;obtain⟨Z3,d,G,p,rd⟩:=r j Z2 H2 y H' s c.zh c.tp l u;obtain⟨ps,o,F⟩:=hs j d U2 G p2;have q:=c.grow p;refine n Z3 H' d ps y Y _ q.zh rd o λys g=>?_;have I:=q.sets g QjS;have s3:=s.trans p.z;exact F _ Z3 _ ts vs _ I ⟨λU' Y' H' Z' s' a k=>⟨Z',U',s3.trans s',a,k⟩,λt v H' Z' U' Y' s' a k=>M.rt t v H' Z' U' Y' QsP a k,λU' Y' H' Z' s' a k=>M.nx U' Y' H' Z' QsP a k,λU' Y' H' Z' s' a k=>⟨Z',U',s3.trans s',a,k⟩⟩
 .have e:j=ds.length:=by lia
  subst e;exact .inl ⟨st H2 QgQ,M.nx U2 Y H2 Z2 (f.trans s) c (hd U2 p2)⟩
def QS{D:dw}{is:Cn}{parts:L3.D->Option BA}(g:Gx X)(a:Qvs)(P:FA)(h:Qf4)(h0:QfK)(hl:∀j U,P j U->∀i∈is,i<U.length)
  (hs:∀j d U,ds[j]? = some d->P j U->∃ps,parts d=some ps/\cQ X CL b body QoE {nx:=P QF,rt:=D.rt,bk:=λU2=>cQ X CL b dQ U2 D,ct:=P QF}) (hd:∀U,P ds.length U->cQ X CL b dQ U D) (c:Qcv:=by intro _;rfl) :
  cQ X CL b (.For tg iter body [] pos::dQ) U D:=
 bS (aeQ is _ P h a h0 hl hs hd g.xe g.calm c)
end
structure qP(X:Cx)(scope:Scope)(xs:At)(Nc:At)(ix:Cn):Prop where
 kind:scope.kind=.function
 As:∀y∈scope.names,y.2 ≠ .cell
 nd:Nc.Nodup
 names:∀y∈scope.names,y.2=.local->scope.names.lookup y.1=some .local
 own:∀x∈xs,scope.names.lookup x=some .local
 frees:∀y∈scope.names,y.2=.free->scope.names.lookup y.1=some .free/\Qqc
 hd:Nc=xs++ix.filterMap (X.N[·]?)
 rb:∀i∈ix,∃y,X.N[i]? = some y/\scope.names.lookup y=some .free
noncomputable def W2(Y:L2.St)(ix:Cn)(os:Qhd):L2.St:=os++ix.map λi=>(Y[i]?).getD none
variable{xs:At}{h':Heap}
theorem Nq(sc:Qei)(I:QE)(x:∀b∈fp,lR X pins H b/\b<s.heap.objs.size){m:Bi}{tk:Nat}
  (hn:h'.Ns s.heap.objs.size m) (d:∀b o,s.heap.get? b=some o->h'.get? b=some o) :
  Inv QqB [] (W2 Y ix Qrl) H {s with heap:=h',toks:=tk}:=by
 have frees:∀y∈scope.names,y.2=.free->∃c,X.env.cells.lookup y.1=some c:=λy G e=>I.ok.has y.1 (sc.frees y G e).2;have sub:∀{y:Str} {c:Addr},(eO X.env scope.names []).lookup y=some c->X.env.cells.lookup y=some c:=λ{y c} e=>qK frees (λ_ _ z=>by cases z) e;have hlen:(W2 Y ix Qrl).length=Nc.length:=by
  have all:∀l:Cn,(∀i∈l,∃y,X.N[i]? = some y/\scope.names.lookup y=some .free)->(l.filterMap (X.N[·]?)).length=l.length:=by
   intro l
   induction l with
   | nil=>intro _;rfl
   | cons i r F=>
    intro h;obtain⟨y,e,_⟩:=h i gk;rw[m4,e];show _+1=_+1;rw[F λj C=>h j (ij _ C)]
  unfold W2;rw[sc.hd,ke,ke,cK,pz,all ix sc.rb]
 have C0:s.heap.get? s.heap.objs.size=none:=Heap.get?_none_of_le (ik _);refine⟨⟨I.ok.mod,sc.kind,I.ok.glob,I.ok.blt,ik _,λy z c h1 h2=>I.ok.inj y z c (sub h1) (sub h2),λy G=>?_,λy c hf _=>(by cases (show false=true from hf)),I.ok.hd,I.ok.frames,.inl rfl,λb g=>⟨kr (x b g).2,λy c e=>(x b g).1.2.2.2.2.1 y c Qhu⟩,I.bs,ky I.ok.YV I.sz,λb o e g=>?_,λb g hf=>?_,I.stack,I.Cw⟩,
  rfl,I.bare,Un.kept d,⟨m,hn,λi y v h1 h2 h3=>?_⟩,λy c e=>?_,I.cR.fresh (ik _),λy c e=>I.lB y c Qhu,λp W=>absurd (show p∈([]:BC) from W) Wp,I.cR.kept d,hlen⟩
 .
  have B:(relabel scope X.env).names.lookup y=some .cell\/(relabel scope X.env).names.lookup y=some .free:=G;cases e:scope.names.lookup y with
  | none=>
   have:=mD (env:=X.env) e;obtain q|q:=B<;>(rw[show(relabel scope X.env).names.lookup y=none from this]at q;cases q)
  | some k=>
   have q:=g8 (env:=X.env) e;have d:k=.free:=by
    by_cases d:k=.free
    .exact d
    .have g:Qm7=false:=by simpa using d
     rw[bX (by rw[g];simp)]at q;have V:k ≠ .cell:=λz=>by
      subst z;exact sc.As _ (pw e) rfl
     obtain z|z:=B
     .rw[show(relabel scope X.env).names.lookup y=some k from q]at z;exact absurd (l5 z) V
     .rw[show(relabel scope X.env).names.lookup y=some k from q]at z;exact absurd (l5 z) d
   subst d;exact nF e
 .
  rcases(x b g).1.2.2.2.1 with z|z
  .exact I.ok.Qk b o e z
  .exact absurd (mm (j0 e) (ky I.ok.YV z)) (tI _)
 .obtain z|z:=fP.1 (I.Jd b hf)
  .exact(x b g).1.2.1 z
  .exact(x b g).1.2.2.1 z
 .
  unfold W2 at h2;by_cases hi:i<xs.length
  .rw[wz (by rw[pz];exact hi),LH,cq hi]at h2;cases h2
  .obtain⟨n,rfl⟩:∃n,i=xs.length+n:=⟨i-xs.length,We⟩;rw[y1 (by rw[pz];lia),pz,Nat.add_sub_cancel_left,j2]at h2;cases E:ix[n]? with
   | none=>rw[E]at h2;cases h2
   | some j=>
    rw[E]at h2;have t:(Y[j]?).getD none=some v:=l5 h2;have C:Y[j]? = some QaQ:=by
     cases q:Y[j]? with
     | none=>rw[q]at t;cases t
     | some o=>rw[q]at t;exact congrArg some t
    obtain⟨f,A,w⟩:=sc.rb j (kA E);have L:Nc[xs.length+n]? = some f:=by
     have all:∀(l:Cn) (i:Nat),(∀j∈l,∃y,X.N[j]? = some y/\scope.names.lookup y=some .free)->l[i]? = some j->(l.filterMap (X.N[·]?))[i]? = some f:=by
      intro l
      induction l with
      | nil=>intro i _ h;simp at h
      | cons a r F=>
       intro i h hi;obtain⟨ya,M,_⟩:=h a gk;rw[m4,M];cases i with
       | zero=>
        simp at hi;subst hi;rw[A]at M;cases M;rfl
       | succ i=>exact F i (λj C=>h j (List.mem_cons_of_mem _ C)) (by simpa using hi)
     rw[sc.hd,y1 We,Nat.add_sub_cancel_left];exact all ix n sc.rb E
    have ey:f=y:=by
     have D:Nc[xs.length+n]? = some y:=h1;rw[L]at D;exact l5 D
    subst ey;have P:=(sc.frees (f,.free) (pw w) rfl).2;have O:r0 X.env.scope f:=P.elim Qss QrT;obtain⟨m0,Z,K⟩:=I.loc;obtain⟨u,U,lk⟩:=K j f v A C O;refine⟨u,U,?_⟩;obtain⟨kk,_⟩|⟨_,c,hc,T⟩:=lk
    .obtain z|z:=P
     .rw[kk]at z;cases z
     .rw[kk]at z;cases z
    .obtain⟨R,S⟩:=nF (env:=X.env) (cs:=[]) w;have:R=c:=by
      have:=sub S;rw[hc]at this;exact(l5 this).symm
     subst this;obtain⟨o,J,hd⟩:=T;refine .inr ⟨?_,R,S,o,d _ _ J,hd⟩;have q:=g8 (env:=X.env) w;show(relabel scope X.env).names.lookup f=some .cell\/(relabel scope X.env).names.lookup f=some .free;rw[show(relabel scope X.env).names.lookup f=_ from q];split
     .exact .inl rfl
     .exact .inr rfl
 .obtain⟨v,o,J,hd⟩:=I.cell y c Qhu;exact⟨v,o,d _ _ J,hd⟩
def LB(X:Cx)(tg elt:Expr)(ifs:Ch)(n:Nat)(Y:L2.St)(ix:Cn)(D:Addr)(N:Qkh)(e:V)(os:Qhd)(g:Hp):Prop:=
 ∃t:TG,PG X tg t/\t e (W2 Y ix os) g λa f=>∃b,b.length=n/\a=W2 Y ix b/\J1 X ifs a f λok d=>
  if ok=true then yJ X elt a d λy c=>∃acc,c D=some (.lst acc)/\acc.length<sizeLine/\N (upd c D (.lst (acc++[y]))) else N d
variable{it:Addr}{E:BN}
def DE{J:It}{tn:QiY}{G:Addr->Hp->Prop}{RR:QqG}
  (sc:Qei) (hc:Qa6) (I:QE) (l:Qrm) (st:tn 0 s.heap) (hf:∀b∈fp,lR X pins H b)
  (loop:∀D,H D=none->∃W:Nat->Nat->Hp->Prop,(∃m,W 0 m Qv4)/\∀i m H2,W i m H2->(J.stop i H2/\G D H2) ∨
   (J.go i H2/\∃N:Hp->Prop,(∀H',N H'->∃m',m'<m/\W Qbe m' H')/\∀L H3,J.oe i H2 L H3->∀C s0 H0 f0 os,os.length=xs.length->LB Qr7 tg elt ifs xs.length Y ix D N L os H3))
  (aI:∀D C s' H',(∃m,s'.heap.Ns C m)->(∃o,s'.heap.get? C=some o/\∀v,o.data ≠ .cell v)->H' C=none->(C≠X.env.locals/\C∉X.fs/\X.iE.heap.objs.size<=C/\(∀y c,X.env.cells.lookup y=some c->c≠C)/\∀q∈X.pn++pins,q.1≠C)->(∀h',Heap.SameBut C s'.heap h'->Inv X pins Y H' {s' with heap:=h'})->G D H'->RR Qfn C Qj4 s') :
  wpAny Qe X.A Qou (λacc O=>wpAny Qe X.A Qpu (λaa M=>
   codeAny Qe X.A (.compStart Qdz 0 QbJ acc {aa with scope:=relabel scope X.env}) (RR acc aa.locals) M) E O) E s:=by
 refine wpAny_newObj_type ?_;have F:Inv X pins Y QhI {s with heap:=s.heap.push {cls:=.type "list",dict:=none,data:=.seq ([]:B2).toArray}}:=
  I.laid (t':=s.toks) Qmu (ik _) ⟨by show 0<=sizeLine;exact i8 _,[],0,.nil,l6 _ rfl⟩
 have hD:H s.heap.objs.size=none:=I.cR.fresh (ik _);obtain⟨W,⟨m0,w0⟩,turn⟩:=loop _ hD;have j:∀b∈fp,lR X pins QhI b/\b<(s.heap.push {cls:=.type "list",dict:=none,data:=.seq ([]:B2).toArray}).objs.size:=λb a=>by
  obtain⟨f0,f1⟩:=hf b a;obtain⟨o,ho,_⟩:=l.obj 0 _ st b a;have j4:=j0 ho;refine⟨⟨by rw[au (kr j4)];exact f0,f1⟩,?_⟩;rw[Heap.size_push];exact Nat.lt_succ_of_lt j4
 have S:tn 0 (s.heap.push {cls:=.type "list",dict:=none,data:=.seq ([]:B2).toArray}):=l.keep 0 _ _ st λb _ o e=>ka _ e;generalize ag:({s with heap:=s.heap.push {cls:=.type "list",dict:=none,data:=.seq ([]:B2).toArray}}:Shared)=s3 at F ⊢;have ax:s3.heap=s.heap.push {cls:=.type "list",dict:=none,data:=.seq ([]:B2).toArray}:=by rw[<- ag]
 rw[<- ax]at j S;refine wpAny_newFunctionEnv sc.As (by intro y hy;simp at hy) (λh bb ba=>?_) sc.kind;have old:∀b o,s3.heap.get? b=some o->h.get? b=some o:=λb o e=>(ba.2 b Qg8).trans Qfs;have J0:=Nq (tk:=s3.toks+([]:DO).length) sc F j bb old;have R:tn 0 h:=l.keep 0 _ _ S λb _ o e=>old b o e;have Z:∀s4:Shared,s4={s3 with heap:=h,toks:=s3.toks+([]:DO).length}->codeAny Qe X.A (.compLoop Qdz 0 QbJ QcX (compEnvC scope Qca s3.heap.objs.size X.env)) (RR QcX s3.heap.objs.size) s4:=by
  rintro s4 rfl;have f:∀{H':Hp},(∀b∈fp,H' b=none)->∀b∈fp,lR Qen [] H' b:=λ{H'} hn b a=>by
   obtain⟨⟨f0,f1,f2,f3,f4,f5⟩,j4⟩:=j b a;refine⟨hn b a,kr j4,λz=>?_,.inl a,λy c e=>f4 y c (qK (λy hy e=>I.ok.has y.1 (sc.frees y hy e).2) (λ_ _ z=>by cases z) e),λp hp=>absurd (show p∈([]:BC) from hp) Wp⟩;obtain q|q:=fP.1 (F.Jd b z)
   .exact f1 q
   .exact f2 q
  refine JB (λn s'=>∃i o H',o.length=xs.length/\Inv Qen [] (W2 Y ix o) H' s'/\tn i s'.heap/\(∀b∈fp,H' b=none)/\W i n H') ?_ m0 ⟨0,_,_,pz,J0,R,λb a=>(j b a).1.1,w0⟩;rintro n s5 ⟨i,o5,H5,af,I5,P,V,w5⟩;obtain⟨stop,g⟩|⟨go,N,hN,step⟩:=turn i n H5 w5
  .refine dP (l.done Qen rfl rfl rfl hc i [] s5 _ H5 _ I5 (f V) P stop) λr s6 zz=>?_;obtain⟨hr,I6⟩:=zz;subst hr;obtain⟨m6,U,_⟩:=I6.loc;obtain⟨oc,bo,bp,aw,az,_⟩:=id U;have k:=F.Di (ik s3.heap.objs.size) (H':=λ_=>none) rfl;refine aI _ _ s6 H5 ⟨m6,U⟩ ⟨oc,aw,λv z=>by rw[az]at z;cases z⟩ I6.free ⟨k.2.1,k.2.2.1,?_,k.2.2.2.2.1,k.2.2.2.2.2⟩ (λh' ar=>WQ F (λb a=>(j b a).1) I6 ar) g;exact F.sz
  .refine dP (l.item Qen rfl rfl rfl hc i [] s5 _ H5 _ I5 (f V) P go) λr s6 zz=>?_;obtain⟨u,hr,h6⟩:=zz;subst hr;refine dP h6 λ_ s7 zz=>?_;obtain⟨L,H7,I7,r7,y7,B,aT⟩:=zz;have bc:=I7.pinned (f aT) (l.obj _ _ B);obtain⟨t,hg,ht⟩:=step L _ y7 s3.heap.objs.size s3 QhI fp o5 af;refine dP (hg _ s7 _ H7 L u _ bc r7 ht) λ_ s8 zz=>?_;obtain⟨bj,H8,I8,T,ae,e8,h8⟩:=zz;subst e8;refine dP (ZW I8 h8 rfl) λok s9 zz=>?_;obtain⟨H9,I9,q9⟩:=zz;have again:∀{x:Hp} {sa:Qb},Inv Qen ([]++Dj fp s7.heap) (W2 Y ix T) x sa->N x->∃m,m<n/\∃i o H',o.length=xs.length/\Inv Qen [] (W2 Y ix o) H' sa/\tn i sa.heap/\(∀b∈fp,H' b=none)/\W i m H':=λ{x sa} Ia na=>by
    obtain⟨m',hm,wa⟩:=hN x na;refine⟨m',hm,i+1,T,x,ae,Ia.tM,l.keep _ _ _ B λb a o e=>(Ia.pin (b,o) Quc).1,λb a=>?_,wa⟩;obtain⟨o,e,d⟩:=l.obj _ _ B b a;exact(Ia.pin (b,o) Quc).2.1
   cases ok with
   | false=>
    rw[bX l9]at q9 ⊢;exact again I9 q9
   | true=>
    rw[cq rfl]at q9 ⊢;refine dP (q9 _ s9 I9) λv sa zz=>?_;obtain⟨y,x,Ia,ra,acc,Ci,hlen,na⟩:=zz;refine dP (vA (X:=dD X scope Nc s3.heap.objs.size s3 QhI fp) _ sa _ x QcX [y] QcX [v] (λ_ Hb=>Hb=upd x s.heap.objs.size (.lst (acc++[y]))) Ia rfl (.cons ra .nil) ⟨_,acc,y,rfl,rfl,Ci,hlen,rfl⟩) λ_ sb zz=>?_;obtain⟨_,Hb,Ib,_,eb⟩:=zz;subst eb;exact again Ib na
 exact codeAny_compStart_list (Z _ rfl) (l.self _ 0 _ _ _ R (Z _ rfl))
noncomputable def W3(ps:BA):BB:=ps.map λp=>some (.sh p)
theorem HP:∀{ys:B0} {os:Qhd} {pre r:L2.St},os.length=ys.length->DC (pre++(os++r)) (List.range' pre.length ys.length) ys=pre++(ys.map some++r)
 | [],os,pre,r,h=>by
  have:=List.length_eq_zero_iff.1 h;subst this;rfl
 | y::ys,os,pre,r,h=>by
  match os,h with
  | o::os,h=>
   show DC _ _ ys=_;have:=HP (pre:=pre++[some y]) (r:=r) (by simpa using h);simp_all
def aeT:∀{ps:BA} {ys:B0} {δc:BB} {a:L2.St},ay K CL Z ps ys->fH K CL H Z δc a []->fH K CL H Z Qe7 (ys.map some++a) []:=λ{ps ys δc a} h e=>
 ay.ind (P:=λps ys=>fH K CL H Z Qe7 (ys.map some++a) []) e (λr _ i=>.cons (.sh r) i) h
section
variable{W1:Hp}{δc:BB}{J:It}{ds:BA}{p:QhE}{g:D->T}{parts:QjL}
def Ax(X:Cx)(CL:BM)(scope:Scope)(Nc:At)(n:Nat)(tg:Expr)(parts:QjL)(ifs:Ch)(elt:Expr)(δc:BB)(ds:BA)(p:QhE)(g:D->T):Prop:=
 ∀C s0 a f0 b,xr QlK CL tg Qvt parts/\∀d,d∈ds->∃ps,parts d=some ps/\ps.length=n/\GI QlK CL b ifs Qe7 (p d)/\(p d=true->bY QlK CL b elt Qe7 (g d) Qe7)
structure GW(K:Frag)(CL:BM)(H W1:Hp)(D:Addr)(l:Bn)(k:Nat)(H2 Z2:Hp)(Qg:B0)(fp:BY):Prop where
 a1:aB H H2
 a2:aB W1 Z2
 a3:aB Z2 H2
 a4:Z2 D=none
 a5:∀a o,Z2 a=some o->W1 a=none->H a=none
 a6:∀a o,H2 a=some o->ju o=true->Z2 a=some o
 a7:H2 D=some (.lst Qg)
 a8:aQ K CL H2 Z2 l Qg fp
 a9:fp.Nodup
 b1:D∉fp
 b2:∀a∈fp,Z2 a=none/\H a=none
 b3:Qg.length<=k
theorem xC(S:Qf8)(zw:aB Z W1)(wh:aB W1 H)(tp:∀a o,H a=some o->ju o=true->W1 a=some o)
  (aT:∀H',fH X.K CL H' W1 δc (ix.map λi=>(Y[i]?).getD none) []) (inner:Ax X CL scope Nc n tg parts ifs elt δc ds p g)
  (aI:∀i H2,aB W1 H2->i<ds.length->J.go i H2)
  (hy:∀i Z2 H2 x H',aB W1 Z2->aB Z2 H2->(∀a o,H2 a=some o->ju o=true->Z2 a=some o)->i<ds.length->J.oe i H2 x H'->∃Z3 d,ds[i]? = some d/\JN Z2 H2 Z3 H'/\bz X.K CL Z3 d x)
  (oh:∀H2,aB W1 H2->J.stop ds.length H2) (hlen:Qb7) (c:W1=Z\/∀d∈ds,(g d).clean=true) :
  ∀D,H D=none->∃W:Nat->Nat->Hp->Prop,(∃m,W 0 m Qv4)/\∀i m H2,W i m H2->(J.stop i H2/\∃Z2,aB Z Z2/\aB H H2/\bq X.K CL b H2 Z2 U Y Qlj QoY) ∨
   (J.go i H2/\∃N:Hp->Prop,(∀H',N H'->∃m',m'<m/\W Qbe m' H')/\∀xv k,J.oe i H2 xv k->∀C s0 H0 f0 os,os.length=n->LB Qr7 tg elt ifs n Y ix D N xv os k):=by
 intro D hD;have wD:W1 D=none:=wh.free hD;refine⟨λi m H2=>m=ds.length-i/\i<=ds.length/\∃Z2 Qg fp,GW X.K CL H W1 D (((ds.take i).filter p).map g) i H2 Z2 Qg fp,⟨ds.length,rfl,i8 _,W1,[],[],aB.upd hD,.refl _,wh.trans (aB.upd hD),wD,λa o q z=>?_,λa o q i=>?_,aC,.nil,nc,Wp,Wp,Wp⟩,?_⟩
 .rw[q]at z;cases z
 .by_cases f:a=D
  .subst f;rw[aC]at q;cases q;cases i
  .rw[au f]at q;exact tp a o q i
 .rintro i m H2 ⟨rfl,hi,Z2,Qg,fp,hh,R,zh,zD,nw,I,E,T,nd,nD,own,bb⟩;by_cases j4:i<ds.length
  .refine .inr ⟨aI i H2 (R.trans zh) j4,λH'=>∃Z2 Qg fp,GW X.K CL H W1 D (((ds.take Qbe).filter p).map g) Qbe H' Z2 Qg fp,λH' h=>⟨ds.length-Qbe,We,rfl,j4,h⟩,λxv k y C s0 H0 f0 os Y4=>?_⟩;obtain⟨Z3,d,hd,w,rd⟩:=hy i Z2 H2 xv k R zh I j4 y;have O:∀a,Z2 a=none->(∃o,H2 a=some o)->Z3 a=none:=λa e ⟨o,e2⟩=>by
    cases q:Z3 a with
    | none=>rfl
    | some u=>rw[w.new a u q e]at e2;cases e2
   have ae:∀a o,Z3 a=some o->W1 a=none->H a=none:=λa o q z=>by
    cases e:Z2 a with
    | none=>exact hh.free (w.new a o q e)
    | some u=>
     have:=w.z a u e;rw[q]at this;cases this;exact nw a o e z
   have l:aQ X.K CL k Z3 (((ds.take i).filter p).map g) Qg fp:=T.mono w.z λa f=>by
    obtain⟨o,e⟩:=T.there a f;rw[e];exact w.h a o e
   have B:∀a∈fp,Z3 a=none/\H a=none:=λa f=>⟨O a (own a f).1 (T.there a f),(own a f).2⟩;have G:Z3 D=none:=O D zD ⟨_,E⟩;have j:k D=some (.lst Qg):=w.h D _ E;have s:=hh.trans w.h;have A:=R.trans w.z;have V:=w.zh;have aw:=w.tp;clear own nw T zD E hh R zh I w O;have Cj:d∈ds:=kA hd;have Ai:ds.take Qbe=ds.take i++[d]:=by rw[rk,hd];rfl
   obtain⟨jj,W4⟩:=inner C s0 H0 f0 ⟨k,Z3⟩;obtain⟨ps,az,hpl,it,ie⟩:=W4 d Cj;obtain⟨t,pg,ht⟩:=jj;refine⟨t,pg,ht Z3 k d ps xv _ _ V rd az λys aa=>?_⟩;have M:ys.length=n:=by rw[<- aa.length];exact hpl
   have es:DC (W2 Y ix os) Qvt ys=W2 Y ix QsQ:=by
    have:=HP (ys:=ys) (os:=os) (pre:=[]) (r:=ix.map λi=>(Y[i]?).getD none) (by rw[Y4,M]);rw[M]at this;exact this
   refine⟨ys.map some,by rw[cK];exact M,es,?_⟩;rw[es];have S0:bq X.K CL ⟨k,Z3⟩ k Z3 Qe7 Qv5 [] []:=
    ⟨⟨[],[],aeT aa ((aT k).mono A λa f=>by cases f),.nil,nc,λa f=>by cases f⟩,.refl _,.refl _,V,λa o q z=>(by have z':Z3 a=none:=z;rw[show Z3 a=some o from q]at z';cases z'),aw,(S.QH.mono zw).mono A⟩
   refine it.UL S0 λH4 Z4 P L S4=>?_;have ba:∀a∈fp,H4 a=k a:=λa f=>by
    obtain⟨o,e⟩:=l.there a f;rw[e];exact L a o e
   have ar:∀a,Z3 a=none->(∃o,k a=some o)->Z4 a=none:=λa e ⟨o,e2⟩=>by
    cases q:Z4 a with
    | none=>rfl
    | some u=>
     have:=S4.new a u q e;rw[show k a=none from this]at e2;cases e2
   cases hp:p d with
   | false=>
    refine QB ⟨Z4,Qg,fp,s.trans L,A.trans P,S4.zh,ar D G ⟨_,j⟩,λa o q z=>?_,S4.tp,L D _ j,?_,nd,nD,λa f=>⟨ar a (B a f).1 (l.there a f),(B a f).2⟩,We⟩
    .cases e:Z3 a with
     | none=>exact s.free (S4.new a o q e)
     | some u=>
      have:=P a u e;rw[q]at this;cases this;exact ae a o e z
    .rw[Ai,p4,wx (by simp[hp]),tf,js];exact l.mono P ba
   | true=>
    refine QC ((ie hp) H4 Z4 Qv5 [] [] _ S4 λyv H5 Z5 z5 k5 S5=>⟨Qg,k5 D _ (L D _ j),We,?_⟩);obtain⟨f1,g1,e1,r1,af,ag⟩:=S5.rep;cases r1 with
    | @cons _ _ _ _ fy fn ry rn=>
     cases rn;rw[js]at af ag;have ax:fy.Nodup:=(l2.1 af).2.1;have F:∀a∈fy,Z5 a=none/\k a=none:=λa f=>ag a (iF _ f);have QT:∀a,Z3 a=none->(∃o,k a=some o)->Z5 a=none:=λa e ⟨o,e2⟩=>by
      cases q:Z5 a with
      | none=>rfl
      | some u=>
       have:=S5.new a u q e;rw[show k a=none from this]at e2;cases e2
     have yD:∀a∈fy,a≠D:=λa f e=>by
      subst e;rw[(F a f).2]at j;cases j
     have bc:H5 D=some (.lst Qg):=k5 D _ (L D _ j);have sD:aB H (upd H5 D (.lst (Qg++[yv]))):=λa o q=>by
      rw[au (aM q hD)];exact k5 a o (L a o (s a o q))
     refine⟨Z5,Qg++[yv],fp++fy,sD,A.trans (P.trans z5),λa o q=>?_,QT D G ⟨_,j⟩,λa o q z=>?_,λa o q im=>?_,aC,?_,?_,?_,λa f=>?_,?_⟩
     .rw[au (aM q (QT D G ⟨_,j⟩))];exact S5.zh a o q
     .cases e:Z3 a with
      | none=>exact s.free (S5.new a o q e)
      | some u=>
       have:=z5 a u (P a u e);rw[q]at this;cases this;exact ae a o e z
     .by_cases f:a=D
      .subst f;rw[aC]at q;cases q;cases im
      .rw[au f]at q;exact S5.tp a o q im
     .rw[Ai,p4,wt hp,tf,i5];refine aQ.app (l.mono (P.trans z5) λa f=>?_) (by
       have:=aQ.cons (fp:=fy) (gp:=[]) (ry.mono Qr λa f=>au (yD a f)) (aQ.nil (H:=upd H5 D (.lst (Qg++[yv]))) (Z:=Z5))
       rwa [js]at this)
      have:a≠D:=λe=>nD (e▸f);rw[au this];obtain⟨o,e⟩:=l.there a f;rw[e];exact k5 a o (L a o e)
     .refine l2.2 ⟨nd,ax,λa f a' YZ e=>?_⟩;subst e;obtain⟨o,e⟩:=l.there a f;rw[(F a YZ).2]at e;cases e
     .intro h;obtain h|h:=iw.1 h
      .exact nD h
      .exact yD D h rfl
     .obtain h|h:=iw.1 f
      .exact⟨QT a (B a h).1 (l.there a h),(B a h).2⟩
      .exact⟨(F a h).1,s.free (F a h).2⟩
     .rw[ke,rr];lia
  .have e:i=ds.length:=by lia
   subst e;refine .inl ⟨oh H2 (R.trans zh),?_⟩;rw[md]at T;obtain⟨Z',z',S'⟩:=S.back (H':=H2) (W:=W1) (W':=Z2) (t:=.lst ((ds.filter p).map g)) (v:=.ref D) (fp:=D::fp) hh zw R zh nw I (.lst E T) (l4.2 ⟨nD,nd⟩) (λa f=>by
    obtain h|h:=fP.1 f
    .subst h;exact⟨zD,hD⟩
    .exact own a h) (c.imp id λc=>by
     rw[Av];exact Dw λd hd=>c d (l7.1 hd).1)
   exact⟨Z',z',hh,S'⟩
end
variable{δc:BB}{ds:BA}{p:QhE}{g:D->T}{parts:QjL}
def HQ{J:It}{tn:QiY}{H1:Hp}{RR:QqG}
  (sc:Qei) (G:Qa6) (C:Aw X CL b δ1 Y ts vs Z H ds J H1) (I:L2.Inv X pins Y H1 s) (M:Qrm) (st:tn 0 s.heap) (hf:∀b∈fp,lR X pins H1 b)
  (L:(δc=Dy δ1 ix/\∀d∈ds,(g d).clean=true)\/δc=Nj δ1 ix) (inner:QhN) (hlen:Qb7)
  (l:∀D C s' H' Z',(∃m,s'.heap.Ns C m)->(∃o,s'.heap.get? C=some o/\∀v,o.data ≠ .cell v)->H' C=none->(C≠X.env.locals/\C∉X.fs/\X.iE.heap.objs.size<=C/\(∀y c,X.env.cells.lookup y=some c->c≠C)/\∀q∈X.pn++pins,q.1≠C)->(∀h',Heap.SameBut C s'.heap h'->L2.Inv X pins Y H' {s' with heap:=h'})->aB Z Z'->aB H H'->bq X.K CL b H' Z' δ1 Y Qlj QoY->RR Qfn C Qj4 s') :
  wpAny Qe X.A Qou (λacc h=>wpAny Qe X.A Qpu (λk f=>
   codeAny Qe X.A (.compStart Qdz 0 QbJ acc {k with scope:=relabel scope X.env}) (RR acc k.locals) f) E h) E s:=by
 obtain⟨Z1,x,k1,a,go,n,j⟩:=C.ex;have lp:∀D,H1 D=none->∃W:Nat->Nat->Hp->Prop,(∃m,W 0 m (upd H1 D Qj5))/\∀i m H2,W i m H2->(J.stop i H2/\∃Z2,aB Z1 Z2/\aB H1 H2/\bq X.K CL b H2 Z2 δ1 Y Qlj QoY) ∨
   (J.go i H2/\∃N:Hp->Prop,(∀H',N H'->∃t,t<m/\W Qbe t H')/\∀r u,J.oe i H2 r u->∀C s0 P f0 os,os.length=xs.length->LB (dD X scope Nc C s0 P f0) tg elt ifs xs.length Y ix D N r os u):=by
  obtain⟨e,cl⟩|e:=L
  .subst e;exact xC a a.zh Qr Qud (yM a ix) inner (λi H2 s=>go i H2 Qn1) (λi Z2 H2 y H' s=>n i Z2 H2 y H' Qn1) (λH2 s=>j H2 Qn1) hlen (.inr cl)
  .subst e;exact xC a Qr a.zh a.tp (Nk a ix) inner go n j hlen Qae
 exact DE sc G I M st hf lp λD C s' H' m io B ch ci ⟨Z',z,F,O⟩=>l D C s' H' Z' m io B ch ci (x.trans z) (k1.trans F) O
def tU(sc:Qei)(I:Qa7):closureFor scope X.env=pure Qca:=
 oX λy a e=>I.ok.has y.1 (sc.frees y a e).2
def DF(sc:Qei)(j:Qa6)(h:Qf4)(l:(δc=Dy δ1 ix/\∀d∈ds,(g d).clean=true)\/δc=Nj δ1 ix)(inner:QhN)(hlen:Qb7)
  (hs:Qcv:=by intro _;rfl):bY X CL b Qdz U QfZ δ1:=λH Z Y ts vs Q S k pins s I=>by
 obtain⟨r,pi,hw⟩:=h;refine Ja rfl hs (tU sc I) sc.kind sc.names ?_;refine dP (pi pins s Y H _ I (hw H Z Y ts vs _ S λJ H1 C=>C)) λv s1 h1=>dP h1 λi s2 zz=>?_;obtain⟨it,fp,tn,J,H1,e,q,n,st,hf,C⟩:=zz;subst e;refine HQ sc j C q n st hf l inner hlen λD u s' H' Z' m io t ch ci c f o=>?_;obtain⟨m,hn⟩:=m;exact⟨m,hn,λh' a=>⟨.ref D,H',ci h' a,rfl,k _ H' Z' c f o⟩⟩
variable{y:Str}
def aeV{E:Ends}{D' a:Addr}{s':Qb}{py:Pos}(I:Qbs)(hi:X.N[i]? = some y)(F:Loc X.env.scope y)(j:AM X y)(m:∃m,s'.heap.Ns a m)(io:∃s,s'.heap.get? a=some s/\∀v,s.data ≠ .cell v)(D:H' a=none)
  (ch:a≠X.env.locals/\a∉X.fs/\X.iE.heap.objs.size<=a/\(∀y c,X.env.cells.lookup y=some c->c≠a)/\∀q∈X.pn++pins,q.1≠a) (ci:∀h',Heap.SameBut a s'.heap h'->L2.Inv X pins Y H' {s' with heap:=h'}) (q:E.nx Qv6 H') :
  compPost Qe X.A X.xe Qod QqU Qg2 a Qj4 s':=by
 obtain⟨m,hn⟩:=m;obtain⟨o,t,C⟩:=io;have x:L2.Inv X pins Y H' s':=ci s'.heap (.refl ..);have L:L2.Inv X (pins++[(a,o)]) Y H' s':=x.Cy λq h=>by
  obtain z|z:=iw.1 h
  .exact x.pin q (iF _ z)
  .have e:q=(a,o):=by simpa using z
   subst e;exact⟨t,D,ch.1,ch.2.1,C⟩
 show wpAny _ X.A (assign Qip X.env Qg2) _ _ s';have G:PG X Qip (MY i):=vv I hi F j;refine dP (G _ s' Y H' Qg2 Qg2 (λd B=>d=Y.set i QsR/\B=H') L rfl ⟨rfl,rfl⟩) λ_ r zz=>?_;obtain⟨d,B,n,J,l⟩:=zz;subst J;subst l;obtain⟨k,f,_⟩:=n.pin (a,o) (iF _ (iF _ Wp));refine⟨m,hn.at' λo' u=>by rw[t]at u;cases u;exact k,λh' g=>?_⟩;have K:L2.Inv X pins Qv6 _ r:=n.Cy λq h=>n.pin q (iF _ (i4 _ h));have p:=K.turned (it:=a) (h':=h') (t':=r.toks) (λb o H e=>(g.2 b H).trans e) f ch.1.symm.symm (.inr ch.2.2.1) ch.2.2.2.1 ch.2.2.2.2;exact⟨_,_,p,q⟩
def aeW{D:dw}{py a:Pos}(i:Nat)(sc:Qei)(q:Qa6)(h:Qf4)(r:(δc=Dy δ1 ix/\∀d∈ds,(g d).clean=true)\/δc=Nj δ1 ix)(inner:QhN)(hlen:Qb7)
  (k:D.nx (δ1.set i (some QfZ))) (hl:QcQ) (t:Qbs) (hi:X.N[i]? = some y) (n:Loc X.env.scope y) (c:AM X y)
  (z:swapsWith Qdz (some Qip) a.line X.env=pure true)
  (hs:Qcv:=by intro _;rfl):WO X CL b (.Assign [.Name y py] Qdz a) U D:=λH Z Y ts vs E S M pins s I=>by
 obtain⟨F,pi,hw⟩:=h;rw[exec_Assign_Name_used _ _ _ _ z];refine ec (wpAny_standAt (ec ?_));show wpAny _ X.A (do let _ ← comprehension Qdz scope X.env _ Qou false Qvh Qod) _ _ s;refine ec (la (Ja (use:=some Qpy) (Q:=λ_ s'=>SP X pins E .next s') rfl hs (tU sc I) sc.kind sc.names ?_) (λ_ s' o=>i2 (i2 o)) λ_ _ e=>e);refine dP (pi pins s Y H _ I (hw H Z Y ts vs (λJ H1=>Aw X CL b δ1 Y ts vs Z H ds J H1) S λJ H1 C=>C)) λv s1 h1=>dP h1 λl s2 zz=>?_;obtain⟨it,fp,tn,J,H1,e,B,u,st,hf,C⟩:=zz;subst e;refine HQ (RR:=λacc C=>compPost Qe X.A X.xe Qod QqU acc C) sc q C B u st hf r inner hlen λD' K s' H' Z' m io j ch ci f G x=>?_;exact aeV t hi n c m io j ch ci (M.nx _ _ _ Z' f (x.set hl) k)
variable{pos':Pos}
def aj8{D:dw}(c:Gx X)(n:Qbl)(sc:Qei)(h:Qf4)
  (e:(δc=Dy δ1 ix/\∀d∈ds,(g d).clean=true)\/δc=Nj δ1 ix) (inner:QhN) (hlen:Qb7) (k:cQ X CL b dQ (δ1.set i (some QfZ)) D) (hl:QcQ)
  (a:swapsWith QkW QhL pos.line X.env=pure true\/swapsWith QkW QhL pos.line X.env=pure false) (hs:Qcv:=by intro _;rfl) :
  cQ X CL b (.Assign [.Name x pos'] QkW pos::dQ) U D:=by
 obtain a|a:=a
 .exact bS (aeW i sc c.calm h e inner hlen k hl c.nd n.hi n.loc n.hf a hs)
 .exact bS (QL i (DF sc c.calm h e inner hlen hs) k hl c.nd n.hi n.loc a n.hf)
noncomputable def MF(scope:Scope)(xs a:At):Bool:=
 scope.kind == .function&&xs.all (λy=>scope.names.lookup y==some .local)&&a.all Qqt&&decide ((xs++a).Nodup) &&
  scope.names.all λy=>y.2 != .cell&&(y.2 != .local || scope.names.lookup y.1==some .local)&&(y.2 != .free || Qqd)
theorem aeX{d:At}(c:Z6 X ix d)(ok:MF scope xs d=true):qP X scope xs (xs++d) ix:=by
 unfold MF at ok;simp only[lj,me,vk,rq]at ok;obtain⟨⟨⟨⟨h1,h2⟩,h⟩,g⟩,b⟩:=ok;have j:∀y∈d,X.env.kindOf y=some .cell\/X.env.kindOf y=some .free:=by
  clear h g b
  induction c with
  | nil=>intro y a;cases a
  | cons n k r f=>
   intro y a;obtain e|a:=fP.1 a
   .subst e;exact k
   simp_all
 refine⟨h1,λy a e=>?_,g,λy a e=>?_,h2,λy a e=>?_,?_,λi hi=>?_⟩
 .have:=(b y a).1.1;rw[e]at this;simp at this
 .have:=(b y a).1.2;rw[e]at this;simpa using this
 .have:=(b y a).2;simp_all
 .congr 1;clear h g b j
  induction c with
  | nil=>rfl
  | cons n k r f=>rw[m4,n.hi,<- f]
 .clear g b j
  induction c with
  | nil=>cases hi
  | @cons l y ix ys n k r f=>
   obtain e|hi:=fP.1 hi
   .subst e;exact⟨y,n.hi,h y gk⟩
   .exact f QvL hi
variable{C:Addr}
def QV(h1:Nc[i]? = some x)(h2:Qie)(hd:AD x:=by decide)(iV:AE x:=by decide):Ln QbG i x:=
 ⟨ZZ h1 h2 hd iV,.inl QlH,.inr QlH⟩
def To(K:Frag)(a:Addr):It:=
 ⟨λi H=>∃xs x,mJ K H a xs/\xs[i]? = some x,λi H x H'=>∃T y,H T=none/\x=.ref T/\(∀xs,mJ K H a xs->xs[i]? = some y)/\H'=upd H T (.tup [.int i,y]),λi H=>∃xs,mJ K H a xs/\xs.length<=i⟩
theorem HR(I:Qa7)(fp:QgZ)(new:dU X.prog X.w Qbz s.heap a o):L2.Inv X pins Y Qbz s:=by
 have hn:=fp.1;refine I.step (ch:=[a]) (λb f=>?_) (λb o _ _ _ e _=>e) (λb o _ _ _ e _=>⟨ _,e⟩) (λb o d _ n=>by rw[au λz=>d (by simp[z])];exact n)
  (λb o _ e=>⟨o,e⟩) (λb xs e=>au Qfh▸e) (λb o u e=>au Qfh▸e) (λb ps e=>⟨#[],by rw[au Qfh,e];simp⟩) (λm hm=>hm) (λb u e=>?_) I.bare
 .have e:=by simpa using f
  subst e;exact⟨fp.2.2.2.1,fp.2.1,fp.2.2.2.2.1,fp.2.2.2.2.2⟩
 .by_cases z:b=a
  .subst z;rw[aC]at e;grind
  .rw[au z]at e;exact(I.cR b u e).yz (λ_ _ _ q=>q) (λc q=>au QcI▸q) (λc xs q=>au QcI▸q) λc z q=>au QcI▸q
def W5{t':Nat}{S:BY}(I:Qa7)(hf:∀b∈S,lR X pins H b)(k:∀b o,b∉S->s.heap.get? b=some o->h'.get? b=some o):L2.Inv X pins Y H {s with heap:=h',toks:=t'}:=by
 have n:∀b u,H b=some u->b∉S:=λb u e z=>by rw[(hf b z).1]at e;cases e
 refine I.step (ch:=S) (λb f=>?_) (λb o _ _ a e _=>k b o a e) (λb o _ _ a e _=>⟨_,k b o a e⟩) Qtv (λb o a e=>⟨o,k b o a e⟩) Qus QgC (λb ps e=>⟨#[],by rw[e];simp⟩) (λm hm=>?_) (λb u e=>?_) I.bare
 .obtain⟨_,f1,_,h,f4,g⟩:=hf b f;exact⟨h,f1,f4,g⟩
 .obtain⟨o,es,ep,d,r⟩:=hm;exact⟨o,es,ep,k _ o (λz=>(hf _ z).2.1 rfl) d,r⟩
 .exact(I.cR b u e).yz (λc v a q=>k c v (by obtain z|z:=a<;>first|(rw[z];exact n b u e)|exact n c _ z) q) QcE λ_ _ q=>q
variable{elts:Ch}{kk:Nat}{pt:Pos}
theorem W6(a e it:Addr)(F:e≠it):Turn P w K QiO (To K a) [e,it] e (λi h=>(∃old,PySem.IsEnum h e it i old)/\h.IsListIter it a i) where
 mem:=by simp
 obj:=λi h st b f=>by
  obtain⟨⟨old,he⟩,hit⟩:=st;obtain z|z:=fP.1 f
  .subst z;exact⟨_,he,λv z=>by
    have J:Data.fields _=Data.cell v:=z;cases J⟩
  .have z:b=it:=by simpa using z
   subst z;obtain⟨o,e,c,d⟩:=hit;exact⟨o,e,λv z=>by rw[d]at z;cases z⟩
 keep:=λi h h' st k=>by
  obtain⟨⟨old,he⟩,hit⟩:=st;exact⟨⟨old,k e Wp _ he⟩,hit.at λo q=>k it Wp o q⟩
 item:=by
  intro X B hw C G i pins s Y H E I hf st r;subst B hw C;obtain⟨xs,x,l,n⟩:=r;obtain⟨its,m,p,hz⟩:=I.list l;obtain⟨u,N,L⟩:=m.get n;obtain⟨⟨old,he⟩,hit⟩:=st;have fe:=hf e Wp;have fi:=hf it Wp;have g:H s.heap.objs.size=none:=I.cR.fresh (ik _);have V:=I.Di (ik s.heap.objs.size) g;refine PySem.wpAny_pyNext_enum_item he hit p.isList (x:=u) (by simpa using N) F λh' O D T hsz R=>⟨_,rfl,?_⟩;refine PySem.wpAny_letOwnedTupleGo_enum O λh2 t j=>?_;replace j:Heap.SameBut e h' h2:=j;have eT:e<s.heap.objs.size:=j0 he;have keep:∀b o,b≠e->b≠it->s.heap.get? b=some o->h2.get? b=some o:=λb o h1 U q=>(j.2 b h1).trans (R b o h1 U q);have A:h2.get? s.heap.objs.size=some {cls:=.type "tuple",data:=.seq #[.int i s.toks,u]}:=(j.2 _ (Nat.ne_of_gt eT)).trans T;have I1:L2.Inv X pins Y H {s with heap:=h2,toks:=s.toks+1}:=W5 (S:=[e,it]) I hf λb o f=>keep b o (λz=>f (by simp[z])) λz=>f (by simp[z]);have I':=HR (a:=s.heap.objs.size) (o:=.tup [.int i,x]) I1 V ⟨lx (cj Qaz),[.int i s.toks,u],.cons ⟨s.toks,rfl⟩ (.cons L .nil),⟨_,A,rfl,_,rfl⟩⟩;have ei:((i+1:Nat):Int)=(i:Int)+1:=by lia
  refine⟨.ref s.heap.objs.size,_,I',rfl,⟨_,x,g,rfl,λys M=>by rw[I.Dg M l];exact n,rfl⟩,⟨⟨u,by rw[ei];exact t⟩,D.at λo q=>(j.2 it (ml F)).trans q⟩,λb f=>?_⟩;have y:=hf b f;obtain⟨o,Wk,_⟩:∃o,s.heap.get? b=some o/\True:=by
   obtain z|z:=fP.1 f
   .subst z;exact⟨_,he,trivial⟩
   .have z:b=it:=by simpa using z
    subst z;obtain⟨o,q,_⟩:=hit;exact⟨o,q,trivial⟩
  rw[au (kr (j0 Wk))];exact y.1
 done:=by
  intro X B hw C G i pins s Y H E I hf st r;subst B hw C;obtain⟨xs,l,n⟩:=r;obtain⟨its,m,p,hz⟩:=I.list l;obtain⟨⟨old,he⟩,hit⟩:=st;obtain⟨f0,f1,f2,Z,f4,W⟩:=hf it Wp;have hl:=m.length;exact PySem.wpAny_pyNext_enum_end (I.ok.hd G) he hit p.isList WE λh' eb=>⟨rfl,I.turned (t':=s.toks) (λb o f e=>eb b o f e) f0 f1 Z f4 W⟩
 self:=λ_ _ _ _ _ st h=>by
  obtain⟨⟨old,he⟩,_⟩:=st;exact PySem.wpAny_pyIter_enum he h
def aoq(K:Frag)(ta:TA):TI:=λY H R=>ta Y H λvs H1=>∃a xs,vs=[.ref a]/\mJ K H1 a xs/\R (To K a) H1
theorem aeZ{a:Expr}{ta:TA}{p:Pos}(j:QnL)(hm:QmJ)(m:PA X [a] ta)(hs:AC X a []):PI X QiO (.Call (.Name "enumerate" p) [a] [] pos) (aoq X.K ta):=by
 intro pins s Y H R I h;refine Call_ (ni I j hm boot_enumerate (tR (dP QlW λus s1 zz=>?_) hs rfl));obtain⟨vs,H1,c,f,q1⟩:=zz;obtain⟨l,xs,e,g,q⟩:=q1;subst e;cases f with
 | cons r d=>
  cases d;cases r;obtain⟨its,o,p,hz⟩:=c.list g;refine PySem.call_enumerate_list p.isList λh' he hit hsz i=>?_;have n:=c.kept (t':=s1.toks) i;refine PySem.wpAny_pyIter_enum he ?_;refine⟨ _,_,_,_,H1,rfl,n,W6 l _ _ (Nat.succ_ne_self _),⟨⟨_,he⟩,hit⟩,λb k=>?_,q⟩;obtain z|z:=fP.1 k
  .subst z;exact c.Di (n2 _) (c.cR.fresh (n2 _))
  .have z:=by simpa using z
   subst z;exact c.Di (ik _) QiK
noncomputable def DG(ds:BA):BA:=(List.range ds.length).map λ(i:Nat)=>.tup [.int i,ds.getD i .non]
def HS(ds:BA):(DG ds).length=ds.length:=by simp[DG]
def W7{ds:BA}{d:D}(h:ds[i]? = some d):(DG ds)[i]? = some (.tup [.int i,d]):=by
 have hi:=(lr.1 h).1;unfold DG;rw[j2,oI hi];show some (D.tup _)=_;rw[kq,h];rfl
variable{ds:BA}
theorem ae0(hm:QmJ)(h:Ql7)(o:QnL)(hs:Qan:=by exact aZ rfl):r3 X CL b QiO QqC U (DG ds) δ1:=by
 refine⟨_,aeZ o hm QaH hs,λH Z Y ts vs R S k=>h H Z Y ts vs _ S λv H1 Z1 l k1 f=>?_⟩;obtain⟨fp,gp,_,r,_,_⟩:=f.rep;cases r with
 | cons r _=>
  replace r:=r.F4;obtain⟨rfl,r⟩:=r;obtain⟨a,us,rfl,c,g⟩:=r.gT;have hl:=g.length;refine⟨a,us,rfl,f.zh.seq c,k _ _ ⟨Z1,l,k1,f.pop,λi H2 s hi=>?_,λi Z2 H2 x H' s1 s2 tp hi m=>?_,λH2 s=>?_⟩⟩
  .rw[HS]at hi;have q:i<us.length:=hl▸hi;exact⟨us,_,s.seq c,kf q⟩
  .obtain⟨T,y,p,rfl,n,rfl⟩:=m;obtain⟨d,hd,rd⟩:=g.QD (n us ((s1.trans s2).seq c));have j:=JN.tup (xs:=[.int i,y]) s2 tp p;exact⟨_,_,W7 hd,j,.tup (tL.of aC) (.cons Qbq (.cons ((rd.mono s1).mono j.z) .nil))⟩
  .rw[HS];exact⟨us,s.seq c,by simp_all ⟩
noncomputable def insI(x:Int):AT->AT
 | []=>[x]
 | y::l=>if x<=y then x::y::l else y::insI x l
def sortI:AT->AT
 | []=>[]
 | x::l=>insI x (sortI l)
theorem insI_perm(x:Int):∀l,(insI x l).Perm (x::l)
 | []=>.refl _
 | y::l=>by
  rw[insI];split
  .exact .refl _
  .exact((insI_perm x l).cons y).trans (.swap x y l)
theorem sortI_perm:∀l,(sortI l).Perm l
 | []=>.refl _
 | x::l=>(insI_perm x _).trans ((sortI_perm l).cons x)
def gP{x:Int}:x∈sortI l↔x∈l:=(sortI_perm l).mem_iff
def kB(l:AT):(sortI l).length=l.length:=(sortI_perm l).length_eq
theorem BK(x:Int):∀{l:AT},l.Pairwise (· <= ·)->(insI x l).Pairwise (· <= ·)
 | [],_=>o1 _ _
 | y::l,h=>by
  rw[insI];obtain⟨h1,h2⟩:=mT.1 h;split
  .rename_i e;refine mT.2 ⟨λz hz=>?_,h⟩;obtain rfl|hz:=fP.1 hz
   .exact e
   .exact Int.le_trans e (h1 z hz)
  .refine mT.2 ⟨λz hz=>?_,BK x h2⟩;obtain rfl|hz:=fP.1 ((insI_perm x l).mem_iff.1 hz)
   .lia
   simp_all
theorem jL:∀l,(sortI l).Pairwise (· <= ·)
 | []=>.nil
 | x::l=>BK x (jL l)
theorem BL:∀{a b:AT},a.Perm b->a.Pairwise (· <= ·)->b.Pairwise (· <= ·)->a=b
 | [],b,p,_,_=>(List.nil_perm.1 p).symm
 | x::a,[],p,_,_=>absurd p.length_eq Wp
 | x::a,y::b,p,d,c=>by
  obtain⟨a1,a2⟩:=mT.1 d;obtain⟨b1,b2⟩:=mT.1 c;have e:x=y:=by
   have h1:=p.mem_iff.1 gk;have h2:=p.mem_iff.2 gk;obtain e|h1:=fP.1 h1
   .exact e
   .obtain e|h2:=fP.1 h2
    .exact e.symm
    .exact Int.le_antisymm (a1 y h2) (b1 x h1)
  subst e;rw[BL (List.Perm.cons_inv p) a2 b2]
def DH{z:AT}(p:z.Perm l)(s:z.Pairwise (· <= ·)):z=sortI l:=BL (p.trans (sortI_perm l).symm) s (jL l)
theorem qQ:∀{us:B2} {ns:AT},IntsAre us ns->Vals QcC us
 | _,_,.nil=>.nil
 | _,_,.cons n t r=>.cons ⟨t,rfl⟩ (qQ r)
theorem JQ:nj X QiH (λxs H Q=>∃p ns,xs=[.ref p]/\mJ X.K H p (ns.map .int)/\ns.length<64/\∀l,H l=none->Q Qfk (upd H l (.lst ((sortI ns).map .int)))):=by
 intro pins s Y H xs us Q I r h;obtain⟨p,ns,rfl,d,hl,q⟩:=h;obtain⟨u,rfl,b⟩:=vals1 r;cases b;obtain⟨its,a,pl,hz⟩:=I.list d;have hlen:=a.length;rw[cK]at hlen;refine sorted_ints pl.isList (intsAre_of a) We λout c a1 a2 a3=>?_;obtain⟨e,he⟩:=sortedAll_at _ its out;have e2:=DH a2 a3;subst e2;refine⟨.ref _,_,I.laid Qrt (n2 _) (show dU _ X.w _ _ _ Qfo from⟨?_,_,e,qQ a1,?_⟩),rfl,q _ QmD⟩
 .rw[cK,kB];simp_all
 omega
def qR:bootBuiltins "sorted" = some QiH:=by decide +kernel
theorem Ay(h:ay K CL Z Qoc us):us=l.map V.int:=by
 refine ay.ind (P:=λds us=>∀l,ds=l.map D.int->us=l.map V.int) ?_ ?_ h l rfl
 .simp_all
 .intro d v ds vs r _ i l e;cases l with
  | nil=>cases e
  | cons a l=>
   injection e with e1 e2;subst e1;rw[i l e2];cases r;rfl
theorem ints_rep{K:Frag}{Z:Hp}:∀(l:AT),ay K CL Z Qoc (l.map V.int)
 | []=>.nil
 | _::l=>.cons Qbq (ints_rep l)
def nH(hm:Qi2)(h:QrD)(hl:l.length<64)(j:QjM)(hs:Qan:=by exact aZ rfl):bY X CL b (.Call QmK [e] [] pos) U (.lst (((sortI l).map D.int).map T.sh)) δ1:=λH Z Y ts vs Q S k=>
 cz (lC JQ j hm qR QaH (he:=hs)) (h H Z Y ts vs _ S λv H1 Z1 d k1 n r=>by
  obtain⟨a,us,rfl,g,f⟩:=r.gT;have:=Ay f;subst this;refine⟨a,l,rfl,g,hl,λp i=>?_⟩;obtain⟨c,m⟩:=(bq.qg (ints_rep _) n).nB (g0:=[]) Wp i;exact k _ _ _ d Qco m)
def QW:typeLookup Qrc "__len__" = pure none:=by kernel_rfl
def aam:typeLookup Qrc "__length_hint__" = pure (some (.builtin "list_reverseiterator.__length_hint__")):=by kernel_rfl
variable{A:Qas}
def aan{l:Addr}{i:Int}{Q:Qmh}(e:s.heap.IsRevIter it l i)(h:Q false s):wpAny Qah A (Builtin.List.listLengthHint QbJ) Q E s:=by
 unfold Builtin.List.listLengthHint;refine ec (tj e.typeIs QW ?_);refine ec (tj e.typeIs aam ?_);generalize c:("list_reverseiterator.__length_hint__":String)=d
 wp_delta
 rw[show splitId d=some ("list_reverseiterator","__length_hint__") from by subst c;decide +kernel];subst c;refine ec (wpAny_isInstance (T:="list_reverseiterator") (b:=true) e.typeIs (by rw[isSubtype_type];kernel_rfl) ?_);refine wpAny_ite_split Qce (λ_=>?_);refine wpAny_ite_split (λ_=>?_) (λa=>absurd Wl a);refine wpAny_ite_split (λa=>absurd a Wl) (λ_=>?_);exact i2 h
variable{items:Cl}
theorem QX{l:Addr}(C:Qeb)(n:QkZ)(hl:Qmx)(B:l≠it)(hlen:QmZ)(S:Addr)(res:Value)(c₀:Nat)
  (x:s.heap.get? S=some {cls:=.type "list",data:=.seq #[] c₀}) (d:S≠it) (k:S≠l)
  (D:∀h' tk m g,(∀b o,b≠S->b≠it->s.heap.get? b=some o->h'.get? b=some o)->h'.get? S=some {cls:=.type "list",dict:=none,data:=.seq m g,slots:=#[]} →
   ItemsOf (λi v=>items[items.size-1-i]? = some v) m items.size->R (.ok (.ret res)) {s with heap:=h',toks:=tk}) :
  wpAny Qah A.in1 (Builtin.List.listExtendWith (.ref S) QbJ res)
   (λfin s'=>match fin with | .done f=>R (.ok f) s' | .again g=>g.quiet=true/\codeAny (model prog w) A g R s') (λe s'=>R (.error e) s') s:=by
 have W:=(Walks.listRev (prog:=prog) (w:=w) (A:=A.in1) C it l B items).toS;have t:S∉[it,l]:=λh=>by
  obtain e|h:=fP.1 h
  .exact d e
  .exact k (kx.1 h)
 have e0:(items.size:Int)-1=(items.size:Int)-1-((0:Nat):Int):=by lia
 have key:∀(h:Heap) (c₁ tk:Nat),(∀b o,b≠S->s.heap.get? b=some o->h.get? b=some o) →
   h.get? S=some {cls:=.type "list",data:=.seq #[] c₁}->codeAny Qah A (.builtin "list.extend.loop" ⟨[.ref S,.ref it,res],[]⟩) R {s with heap:=h,toks:=tk}:=by
  intro h c₁ tk p c;have hit:h.IsRevIter it l ((items.size:Int)-1-((0:Nat):Int)):=e0▸n.at λo q=>p it o (ml d) q;have H:h.IsList l items:=hl.at λo q=>p l o (ml k) q;refine codeAny_extend_loopS W hlen S t res items.size 0 _ #[] c₁ rfl (i8 _) ⟨i8 _,hit,H⟩ c (ItemsOf.nil _) λs' m g hm u I=>?_;rw[Moved.eq_with hm];refine D s'.heap s'.toks m g (λb o j r e=>hm.heap b o (λy=>?_) (p b o j e)) u I;obtain G|y:=fP.1 y
  .exact j G
  .exact r (kx.1 y)
 unfold Builtin.List.listExtendWith;refine ec (wpAny_typeOf (T:="list_reverseiterator") n.typeIs ?_);have h1:Builtin.List.listSameRef (.ref S) QbJ=false:=by simp[Builtin.List.listSameRef,d]
 have h2:(Value.type "list_reverseiterator" == Value.type "list")=false:=by decide
 have E:(Value.type "list_reverseiterator" == Value.type "tuple")=false:=by decide
 simp only[h1,h2,E,vw,pj,n3];refine ec (wpAny_pyIter_revIter n ?_);refine ec (tG (aan n ?_));refine wpAny_ite_split (λ_=>?_) (λ_=>i2 ⟨plainId_quiet F.plain_extend_loop _,key _ c₀ _ (λb o _ e=>e) x⟩);refine ec (wpAny_rule ?_);refine ec ?_;show wpAny _ _ (updateSeq S (·.push .none) >>= λ_=>updateSeq S (·.pop)) _ _ _;refine ec (wpAny_updateSeq x rfl ?_);have z:=vr (Obj.mapSeq (·.push Value.none)) x rfl;refine wpAny_updateSeq (hz:=by seq_fits) z rfl ?_;have a:=vr (Obj.mapSeq (·.pop)) z rfl;refine i2 ⟨plainId_quiet F.plain_extend_loop _,key _ _ _ (λb o j e=>?_) a⟩;exact(vu _ _ (ml j)).trans ((vu _ _ (ml j)).trans e)
def Gg{l:Addr}(t:Qeb)(p:QkZ)(hl:Qmx)(n:l≠it)(hlen:QmZ)(S:Addr)
  (m:s.heap.get? S=some {cls:=.type "list",data:=.seq #[]}) (d:S≠it) (c:S≠l)
  (u:∀h' tk g a,(∀b o,b≠S->b≠it->s.heap.get? b=some o->h'.get? b=some o)->h'.get? S=some {cls:=.type "list",dict:=none,data:=.seq g a,slots:=#[]} →
   ItemsOf (λi v=>items[items.size-1-i]? = some v) g items.size->R (.ok (.ret .none)) {s with heap:=h',toks:=tk}) :
  wpAny Qah A.in1 (Builtin.«list.__init__» ⟨[.ref S,.ref it],[]⟩)
   (λfin s'=>match fin with | .done f=>R (.ok f) s' | .again a=>a.quiet=true/\codeAny (model prog w) A a R s') (λe s'=>R (.error e) s') s:=by
 refine ec ?_;unfold Builtin.List.listItems;refine ec (wpAny_seqItems m rfl (i2 ?_));refine ec (wpAny_updateSeq m rfl ?_);have x:=vr (Obj.mapSeq (λ_=>(#[]:Cl))) m rfl;have W8:∀b o,b≠S->s.heap.get? b=some o->(s.heap.update S (Obj.mapSeq (λ_=>(#[]:Cl)))).get? b=some o:=
  λb o h e=>(vu _ _ (ml h)).trans e
 refine ec (wpAny_letGo ?_);refine QX t (p.at λo q=>W8 it o (ml d) q) (hl.at λo q=>W8 l o (ml c) q) n hlen S .none _ x d c λh' tk g a r k y=>?_;exact u h' tk g a (λb o h j e=>r b o h j (W8 b o h e)) k y
def Gh{Q:BN}{l:Addr}(p:Qeb)(h:QkZ)(hl:Qmx)(k:l≠it)(hlen:QmZ)
  (hQ:∀h' tk d g,(∀b o,b≠it->s.heap.get? b=some o->h'.get? b=some o) →
   h'.get? s.heap.objs.size=some {cls:=.type "list",dict:=none,data:=.seq d g,slots:=#[]}->ItemsOf (λi v=>items[items.size-1-i]? = some v) d items.size->Q QcX {s with heap:=h',toks:=tk}) :
  wpAny Qah A (call QgA [.ref it]) Q E s:=by
 refine callType_codes (Q₁:=λobj a=>obj=.ref s.heap.objs.size/\a={s with heap:=s.heap.push _}) F.called_list (F.typeCall_list_1 _) F.entry_list_init
  (code_list_new _ ⟨rfl,rfl⟩) λobj a c=>?_
 obtain⟨rfl,rfl⟩:=c;have j:(s.heap.push _).get? s.heap.objs.size=some {cls:=.type "list",data:=.seq #[]}:=l6 _ rfl;have hit:it<s.heap.objs.size:=by obtain⟨o,e,_⟩:=h;exact j0 e
 have m:l<s.heap.objs.size:=by obtain⟨o,e,_⟩:=hl;exact j0 e
 refine⟨⟨_,j,rfl⟩,F.args_list_init_2 _ _,Gg (A:=A.in1) p (h.at λo q=>ka _ q) (hl.at λo q=>ka _ q) k hlen _ j (Nat.ne_of_gt hit) (Nat.ne_of_gt m) λh' tk d g n f t=>?_⟩;exact⟨rfl,hQ h' tk d g (λb o r e=>n b o Qg8 r Qfs) f t⟩
theorem W9{acc:Cl}(h:ItemsOf (λi v=>items[items.size-1-i]? = some v) acc items.size):acc.toList=items.toList.reverse:=by
 obtain⟨h1,h2⟩:=h;apply F1;intro j;by_cases a:j<items.size
 .rw[List.getElem?_reverse (‹_›)];simp_all
 simp_all
theorem Vals.rev:∀{xs:B0} {us:B2},Vals xs us->Vals xs.reverse us.reverse
 | [],_,.nil=>.nil
 | _::_,_,.cons r a=>by
  rw[pE,pE];exact Vals.append (Vals.rev a) (.cons r .nil)
def T1(K:Frag)(ta:TA):TE:=λY H Q=>ta Y H λvs H1=>∃a xs,vs=[.ref a]/\mJ K H1 a xs/\∀l,H1 l=none->Q Qfk (upd H1 l QuZ)
def QY{x:Expr}{ta:TA}{p q:Pos}(B:Qa6)(i:QfJ)(F:QfI)(g:Qjn)(d:QiN)(C:PA X [x] ta)(hs:AC X x [])
  (t:starEach [.Call Qln [x] [] pq] X.env=(false,eval Qs3 X.env)::starEach [] X.env):PE X (.Call (.Name "list" p) [.Call Qln [x] [] pq] [] pos) (T1 X.K ta):=by
 intro pins s Y H Q I h;refine pv (ni I i F aU ?_ Wm Wm);refine tR ?_ t rfl;rw[t];show wpAny _ _ (spliced ((false,eval Qs3 X.env)::backTo pos QmR)) _ _ s;refine Calls.spliced_cons ?_;refine Call_ (ni I g d boot_reversed (tR (dP (C pq pins s Y H _ I h) λus s1 zz=>?_) hs rfl));obtain⟨vs,H1,a,y,q1⟩:=zz;obtain⟨l,xs,e,z,q⟩:=q1;subst e;cases y with
 | cons r v=>
  cases v;cases r;obtain⟨its,m,p,hz⟩:=a.list z;have f:=m.length;refine PySem.call_reversed_list p.isList ?_;refine Calls.spliced_nil ?_;have D:l<s1.heap.objs.size:=by obtain⟨o,e,_⟩:=p.isList;exact j0 e
  have st:PySem.Heap.IsRevIter (s1.heap.push QhQ) s1.heap.objs.size l ((its.toArray.size:Int)-1):=⟨_,l6 _ rfl,rfl,rfl⟩;refine Gh (s:={s1 with heap:=s1.heap.push QhQ}) (a.ok.hd B) st (p.isList.at λo q=>ka _ q) (kr D) (by rw[m3,<- f];exact hz) λh' tk c n A k G=>?_;have hsz:(s1.heap.push QhQ).objs.size=s1.heap.objs.size+1:=Heap.size_push ..;have j:h'.get? QtO=some {cls:=.type "list",dict:=none,data:=.seq c n,slots:=#[]}:=hsz▸k;have E:c.toList=its.reverse:=by simpa using W9 G
  show EP X pins Y Q (.ref (s1.heap.push QhQ).objs.size) _;rw[hsz];refine⟨.ref QtO,_,a.laid (t':=tk) (λb u e=>A b u Qg8 Qfs) (n2 _) (show dU X.prog X.w _ _ _ QuZ from⟨by rw[rF];exact hz,its.reverse,n,Vals.rev m,?_⟩),rfl,q _ Que⟩;have e2:c=its.reverse.toArray:=by rw[<- E]
  rw[<- e2];exact j
variable{ds:BA}
def DI(g:Gx X)(q:QfI)(a:QiN)(h:QcV)(hi:Qdu)(f:QfJ)(d:Qjn)(hs:Qan:=by exact aZ rfl)
  (p:starEach [.Call Qmi [e] [] pr] X.env=(false,eval (.Call Qmi [e] [] pr) X.env)::starEach [] X.env:=by exact aZ rfl):bY X CL b (.Call (.Name "list" pp) [.Call Qmi [e] [] pr] [] pos) U (.lst (ds.reverse.map T.sh)) δ1:=λH Z Y ts vs Q S k=>
 cz (QY g.calm f q d a QaH hs p) (h H Z Y ts vs _ S λv H1 Z1 m k1 j r=>by
  obtain⟨_,_,rfl,n,i⟩:=r.gT;refine⟨_,_,rfl,n,λl hl=>?_⟩;obtain⟨c,o⟩:=(bq.qg (ay.rev (ay.m7 j.tp hi i)) j).nB (g0:=[]) (by simp[i.length]) hl;exact k _ _ _ m Qco o)
theorem jM{β:Type}{f:α->β}{l:Qaa}{d:β}(h:(l.map f)[j]? = some d):∃x,d=f x/\l[j]? = some x/\x∈l/\j<l.length/\l.drop j=x::l.drop QF/\l.take QF=l.take j++[x]:=by
 rw[j2]at h;cases a:l[j]? with
 | none=>rw[a]at h;cases h
 | some x=>
  rw[a]at h;cases h;have b:=(lr.1 a).1;have e:=(lr.1 a).2;exact⟨x,rfl,rfl,kA a,b,by rw[tJ b,e],by rw[rk,a];rfl⟩
noncomputable def D.JC:L3.D->L3.D
 | .tup (a::_)=>a
 | d=>d
noncomputable def D.at2:L3.D->L3.D
 | .tup (_::a::_)=>a
 | d=>d
def Xa(f:α->L3.D)(z:α)(l:Qaa):DG Qfe=(List.range l.length).map λ(i:Nat)=>L3.D.tup [.int i,f QoF]:=by
 unfold DG;rw[cK];apply mB;intro i hi;have hi:=ma.1 hi;have:(l.map f).getD i .non=f QoF:=by
  rw[kq,kq,j2,kf hi];rfl
 rw[this]
def Nr{f:α->L3.D}{l:Qaa}(z:α)(hm:QmJ)(h:bY X CL b e U (.sh (.lst Qfe)) δ1)(a:QnL)(hs:Qan:=by exact aZ rfl) :
  r3 X CL b QiO QqC U ((List.range l.length).map λ(i:Nat)=>L3.D.tup [.int i,f QoF]) δ1:=by
 have:=ae0 (elts:=elts) (kk:=kk) (pt:=pt) (pr:=pr) (pc:=pc) hm h a hs
 rwa [Xa f z l]at this
variable{ds:BA}
def aou(K:Frag):R2:=λx y H Q=>∃l k xs,x=.ref l/\y=.int k/\mJ K H l xs /\ -(2 ^ 63)<=k/\k<2 ^ 63/\xs.length*k.toNat<=sizeLine ∧
 ∀p,H p=none->Q QbM (upd H p (.lst (List.replicate k.toNat xs).flatten))
theorem ae2:BD X Qvj (aou X.K):=by
 intro pins s Y H x y v u Q I j i h;obtain⟨l,k,xs,rfl,rfl,p,h1,h2,hz,q⟩:=h;cases j;obtain⟨t,rfl⟩:=i;obtain⟨its,r,pl,_⟩:=I.list p;have hl:=r.length;obtain⟨⟨B,dd,w,sl⟩,e,o,n,hd⟩:=pl.isList;cases o;cases hd;have hlen:its.toArray.size*k.toNat<=sizeLine:=by simp_all
 have c:¬ its.toArray.size*k.toNat > (2 ^ 63-1) / 8:=by
  have:(sizeLine:Nat)<=(2 ^ 63-1) / 8:=by decide
  lia
 have b:¬ (!Builtin.List.listFitsIndex k)=true:=by
  rw[fitsIndex_both h1 h2];grind
 have z:¬ Builtin.List.listTooLong (its.toArray.size*k.toNat)=true:=by
  rw[Dr hlen];grind
 have d:List.foldl (λg f=>g++f) #[] (List.replicate (if its.toArray.isEmpty=true then 0 else k.toNat) its.toArray)=(List.replicate k.toNat its).flatten.toArray:=by
  have f0:=λm=>by
   have:=foldl_rep its m [];rw[ri]at this;exact this
  rw[f0];cases its with
  | nil=>simp
  | cons a A=>rw[bX Wp]
 refine wpAny_binaryOp_repeat_ref (T:="list") (U:="int") Wm ⟨_,e,rfl⟩ (λs'=>typeIs_int s' k t) noFill_list_mul F.fills_int_mul F.slot_int_rmul repeat_list F.slot_int_index.lookup
  (rp F.slot_int_rmul (typeIs_int s k t) F.entry_int_rmul (F.args_int_rmul_2 _ _) (lm_int_rmul_list_any k t l its.toArray n dd sl)
   ⟨e,rfl,⟨_,e,rfl⟩,rp F.slot_list_mul ⟨_,e,rfl⟩ F.entry_list_mul (F.args_list_mul_2 _ _) (lm_list_mul_any l its.toArray n dd sl k t b c z) ⟨e,?_⟩⟩)
 rw[d];exact⟨.ref _,_,I.NJ (r.rep k.toNat) (by rw[len_rep,Nat.mul_comm];exact hz),rfl,q _ I.fresh⟩
theorem ay.rep{K:Frag}{Z:Hp}{ds:BA}{vs:B0}(r:QfG):∀k:Nat,ay K CL Z (List.replicate k ds).flatten (List.replicate k vs).flatten
 | 0=>.nil
 | k+1=>ay.app r (ay.rep r k)
theorem vG{k:Int}(h1:QlU)(h2:QfH)(i1:Qdu)(k1:-(2 ^ 63)<=k)(k2:k<2 ^ 63)(hz:ds.length*k.toNat<=sizeLine) :
  bY X CL b QsL U (.lst ((List.replicate k.toNat ds).flatten.map T.sh)) U2:=λH Z Y ts vs Q S kk=>
 cz (M4 ae2 cL cL) (h1 H Z Y ts vs _ S λv1 H1 Z1 h q1 o j=>h2 H1 Z1 Y ts vs _ o λv2 H2 Z2 g d f i=>by
  have a:=j.mono d;obtain⟨_,_,rfl,m,e⟩:=a.gT;cases i with
  | int=>
   refine⟨_,_,_,rfl,rfl,m,k1,k2,e.length▸hz,λp l=>?_⟩;have rc:=ay.rep (ay.m7 f.tp i1 e) k.toNat;obtain⟨c,n⟩:=(bq.qg rc f).nB (g0:=[]) (by rw[cK,rc.length]) l;exact kk _ _ _ Qg9 (q1.trans (d.trans c)) n)
def c0{A:Type}{arg:Qaj}{Pre:Q2}{res:QaU}(a:A)(F:Qf7)(i:QaA)(l:arg a=[])(h:Pre a)(j:Qns)(hn:QcP:=by rfl)
  (g:AD x:=by decide):bY X CL b (.Call QaP [] [] pos) U QbL U:=by
 obtain⟨f,fd,ps,r,m,kk,o⟩:=F.ex;intro H Z Y ts vs Q S k;refine cz (Zr r F.room i m kk o .nil Ds g) ?_;refine⟨H,a,.refl _,λ_ _ q _=>q,by rw[l];exact .nil,hn,h,S.Nh,λv H' W' fp c ww e nw tp rt nd own=>?_⟩;obtain⟨Z',d,p⟩:=S.back c S.zh ww e nw tp rt nd own (.inr j);exact k v H' Z' d c p
noncomputable def DJ:Key->D
 | .inl i=>.int i
 | .inr x=>.str x
noncomputable def Cm(kvs:CO)(k:Key):Option D:=(kvs.find? λa=>decide Qhy).map (·.2)
noncomputable def BO(kvs:CO)(k:Key)(d:D):CO:=
 if QfU=true then kvs.map Qp3 else kvs++[(k,d)]
variable{d:D}{kvs:CO}
theorem bR.length{kvs:CO}(h:QgJ):kvs.length=gs.length:=
 bR.ind (P:=λkvs gs=>kvs.length=gs.length) rfl Qim h
theorem bR.keys{kvs:CO}(h:QgJ):kvs.map (·.1)=gs.map (·.1):=
 bR.ind (P:=λkvs gs=>kvs.map _=gs.map _) rfl (λ{x _ _ _ _} _ _ i=>congrArg _ i) h
theorem bR.val{k:Key}:∀{kvs:CO} {gs:CU},bR K CL Z kvs gs->(Cm kvs k=none/\iX gs k=none)\/∃d v,Cm kvs k=some d/\iX gs k=some v/\bz K CL Z d v
 | _,_,.nil=>.inl ⟨rfl,rfl⟩
 | _,_,.cons (x:=x) (d:=d) (v:=v) h r=>by
  by_cases e:x=k
  .exact .inr ⟨d,v,by simp[Cm,e],nu e,h⟩
  .obtain⟨h1,h2⟩|⟨d',v',h1,h2,a⟩:=bR.val r
   .exact .inl ⟨by simpa [Cm,e] using h1,by rw[lD e];exact h2⟩
   .exact .inr ⟨d',v',by simpa [Cm,e] using h1,by rw[lD e];exact h2,a⟩
theorem bR.any{k:Key}:∀{kvs:CO} {gs:CU},bR K CL Z kvs gs->QfU=(gs.any λa=>decide Qhy)
 | _,_,.nil=>rfl
 | _,_,.cons _ r=>by rw[pf,pf,bR.any r]
theorem bR.my{k:Key}(q:QcO):∀{kvs:CO} {gs:CU},bR K CL Z kvs gs->bR K CL Z (kvs.map Qp3) (gs.map Qp2)
 | _,_,.nil=>.nil
 | _,_,.cons (x:=x) h r=>by
  rw[kn,kn];by_cases e:x=k
  .rw[cq e,cq e];exact .cons q (bR.my q r)
  .rw[bX e,bX e];exact .cons h (bR.my q r)
theorem bR.snoc{k:Key}(q:QcO):∀{kvs:CO} {gs:CU},bR K CL Z kvs gs->bR K CL Z (kvs++[(k,d)]) Qg0
 | _,_,.nil=>.cons q .nil
 | _,_,.cons h r=>.cons h (bR.snoc q r)
theorem bR.put{k:Key}(q:QcO)(r:QgJ):bR K CL Z (BO kvs k d) Ql8:=by
 unfold BO putK;rw[r.any];split
 .exact r.my q
 .exact r.snoc q
theorem bz.key{k:Key}(r:bz K CL Z (DJ k) v):v=kV k:=by
 cases k with
 | inl i=>exact r.sc rfl
 | inr x=>exact r.sc rfl
theorem ae4(k:Key):bz K CL Z (DJ k) (kV k):=by
 cases k with
 | inl i=>exact .int i
 | inr x=>exact .str x
theorem yR{Z:Hp}:∀ks:Cc,ay K CL Z (ks.map DJ) QmF
 | []=>.nil
 | k::ks=>.cons (ae4 k) (yR ks)
theorem bq.aka{p:Addr}(S:Qao)(d:Qdt):aB H QiT/\bq K CL b QiT Z U Y (.jt []::ts) Qe5:=by
 obtain⟨fp,gp,e,r,nd,k⟩:=S.rep;have f:=S.zh.free d;have sh:aB H QiT:=aB.upd d;have keep:∀a∈fp++gp,a≠p:=λa c=>by
  have:∃o,H a=some o:=by
   obtain h|h:=iw.1 c
   .exact e.there a h
   .exact r.there a h
  obtain⟨o,q⟩:=this;exact aM q d
 refine⟨sh,⟨⟨fp,_,e.mono Qr Qeu,.cons (.jt aC .nil) (r.mono Qr λa c=>au (keep a (by simp[c]))),?_,λa c=>?_⟩,S.bh.trans sh,S.zz,S.zh.trans sh,S.new,λa o q i=>?_,S.tab⟩⟩
 .refine(o3).nodup_iff.2 QhY
 .obtain h|h:=fP.1 ((o3).mem_iff.1 c)
  .subst h;exact⟨f,S.bh.free d⟩
  .exact k a h
 .by_cases c:a=p
  .subst c;rw[aC]at q;cases q;cases i
  .rw[au c]at q;exact S.tp a o q i
theorem bq.akb(k:Key)(S:Qrn)(hi:U[i]? = some (some Qdg)) :
  ∃a gs,Y[i]? = some QjP/\H a=some (.dK gs)/\gs.length=kvs.length/\bq K CL b Qtj Z (U.set i Qst) Y ts vs:=by
 obtain⟨fp,gp,e,r,nd,kk⟩:=S.rep;obtain⟨v0,f1,f2,j,hv,l,rt,put,_⟩:=e.get hi;subst l;cases rt with
 | @jt a gs _ p rs=>
  cases r with
  | @cons _ _ _ _ q g q1 n=>
   replace q1:=q1.F4;obtain⟨rfl,q1⟩:=q1;have ne:∀c∈(f1++j)++g,c≠a:=λc f e=>by
    subst e;have o:((f1++([c]++j))++([]++g)).Perm (c::((f1++j)++g)):=by simp
    exact(l4.1 (o.nodup_iff.1 nd)).1 f
   refine⟨a,gs,hv,p,rs.length.symm,?_⟩;have m:bD K CL Qtj Z _ _ [a]:=.jt aC (rs.put q1);have e2:=put Qr (λc f=>au (ne c (by
    obtain h|h:=iw.1 f
    .simp[h]
    .simp[h]))) m
   rw[g9 hv]at e2;exact S.QN rfl kk Wp e2 (n.mono Qr λc f=>au (ne c (by simp[f]))) nd λc f=>f
def DK(A:Qa6):nj X QgA (λxs H Q=>∃p kvs,xs=[.ref p]/\H p=some Qbp/\∀l,H l=none->Q Qfk (upd H l (.lst ((kvs.map (·.1)).map kV)))):=by
 intro pins s Y H xs us Q I r h;obtain⟨p,kvs,rfl,o,q⟩:=h;obtain⟨u,rfl,g⟩:=vals1 r;cases g;obtain⟨z,hd,ws,rel,dd⟩:=OT I.cR o;obtain⟨ep,C⟩:=dd.dictAt;refine PySem.W.kdl_call (PySem.W.kdl_dict (knd:=fL X.prog X.w) (kvs:=ws) (ep:=ep) hd) (I.ok.hd A) C (by rw[<- rel.length];exact z) λh' tk a B v e d=>?_;have hl:a.toList.length=ws.length:=by rw[Array.length_toList];exact d.1
 have hv:Vals ((kvs.map (·.1)).map kV) a.toList:=by
  rw[rel.keys];have gen:∀(l:Quw) (m:B2),m.length=l.length->(∀(j:Nat) (x:Value),m[j]? = some x->∃k y,l[j]? = some (k,y)/\(fL X.prog X.w).is k x=true)->Vals ((l.map (·.1)).map kV) m:=by
   intro l
   induction l with
   | nil=>intro m hm _;cases m with
    | nil=>exact .nil
    | cons _ _=>simp at hm
   | cons p l n=>
    intro m hm c;cases m with
    | nil=>simp at hm
    | cons x m=>
     obtain⟨k,y,e1,e2⟩:=c 0 x rfl;simp at e1;subst e1;refine .cons ?_ (n m (by simpa using hm) λj f b=>by simpa using c QF f (by simpa using b));obtain⟨i,t,h1,h2⟩|⟨i,t,h1,h2⟩:=fh e2
     .subst h1 h2;exact⟨t,rfl⟩
     .subst h1 h2;exact⟨t,rfl⟩
  exact gen ws a.toList hl λj x b=>d.2 j x (by rw[<- Array.getElem?_toList];exact b)
 refine⟨.ref s.heap.objs.size,_,I.laid (t':=tk) v (Nat.le_refl _) (show dU X.prog X.w _ h' _ (.lst ((kvs.map (·.1)).map kV)) from⟨by simpa using z,a.toList,B,hv,by simpa using e⟩),rfl,q _ (I.cR.fresh (Nat.le_refl _))⟩
section
variable{d:L3.D}{D:dw}{ps:Pos}{kvs:Qm8}{k:Key}
def UM:bY X CL b QeO U (.jt []) U:=λH Z Y ts vs Q S kk=>cz ZJ λp a=>by
 obtain⟨c,d⟩:=S.aka a;exact kk _ _ Z Qr c d
theorem Sl(k:Key)(r:Qa0)(n:QaO)(h:Qir)(h2:cN X CL b e2 δ1 (DJ k) δ1)(h1:δ1[i]? = some (some Qdg))(hl:QiV)(kk:cQ X CL b dQ (δ1.set i Qst) D)
  (hs:QpI:=by rfl) :
  cQ X CL b QqM U D:=bS λH Z Y ts vs E S M=>
 lT QuC (h H Z Y ts vs _ S λv H1 Z1 j k1 f=>by
  obtain⟨v0,e0,_⟩:=f.look h1;refine⟨v0,e0,h2 H1 Z1 Y _ _ _ f λv2 H2 Z2 g k2 q l=>?_⟩;obtain⟨a,gs,c,o,m,p⟩:=q.akb k h1;rw[e0]at c;cases c;exact⟨a,_,rfl,l.key▸Jq.k o (by rw[m];exact nq hl Wm),M.nx _ Y _ Z2 (j.trans g) p kk⟩)
theorem ae5(k:Key)(o:Qa0)(h1:cN X CL b e1 U Qdg δ1)(h2:cN X CL b e2 δ1 (DJ k) U2)(e:Cm kvs k=some d)(hs:WK e2:=by exactλ_ _=>rfl):cN X CL b QcY U d U2:=λH Z Y ts vs Q S kk=>
 cz (UB We cL cL hs) (h1 H Z Y ts vs _ S λv H1 Z1 g k1 n j=>h2 H1 Z1 Y ts vs _ n λv2 H2 Z2 f k2 m i=>by
  cases j with
  | @jt a gs _ l h=>
   have c:=h.mono k2;rcases c.val (k:=k) with⟨h0,_⟩|⟨d',v',h0,hv,rd⟩
   .rw[e]at h0;cases h0
   .rw[e]at h0;cases h0;refine⟨a,v',rfl,?_,kk v' H2 Z2 QoO Qac m rd⟩;rw[i.key,<- hv];exact xx.k (k2 _ _ l))
def aaq(a:QgJ):(iX gs k).isSome=(Cm kvs k).isSome:=by
 rcases a.val (k:=k) with⟨h0,h1⟩|⟨d',v',h0,h1,_⟩
 .rw[h0,h1];rfl
 .rw[h0,h1];rfl
theorem JR(k:Key)(l:Qa0)(h1:cN X CL b e1 U (DJ k) δ1)(h2:cN X CL b e2 δ1 Qdg U2)(hm:QtN) :
  sR X CL b Qlz U (Cm kvs k).isSome U2:=λH Z Y ts vs Q S kk=>
 yK (Ak (ajD We cL cL) hm) (h1 H Z Y ts vs _ S λv H1 Z1 d k1 j g=>h2 H1 Z1 Y ts vs _ j λv2 H2 Z2 c k2 i f=>by
  cases f with
  | @jt a gs _ h e=>
   refine⟨a,iX gs k,rfl,by rw[g.key];exact xx.k h,_,rfl,?_⟩;rw[aaq e];exact kk H2 Z2 (d.trans c) Qac i)
def aar(g:Gx X)(hm:QfI)(h:cN X CL b e U Qdg δ1)(i:QfJ)(hs:Qan:=by exact aZ rfl):bY X CL b Qk9 U (.lst (((kvs.map (·.1)).map DJ).map T.sh)) δ1:=λH Z Y ts vs Q S k=>
 cz (jz (DK g.calm) i hm aU QaH (he:=hs)) (h H Z Y ts vs _ S λv H1 Z1 d k1 n r=>by
  cases r with
  | @jt a gs _ j f=>
   refine⟨a,gs,rfl,j,λl hl=>?_⟩;rw[<- f.keys];obtain⟨c,m⟩:=(bq.qg (yR _) n).nB (g0:=[]) Wp hl;exact k _ _ _ d Qco m)
end
variable{w:V}{f:Str}{Xb:BS}
theorem cM.FK{c:BY}(rt:bD K CL H Z t v c):∀{b:BS} {gs:Bz} {fp:BY},cM K CL H Z (b++(f,.sh Qfm)::Xb) gs fp->∃a,cM K CL H Z (b++(f,t)::Xb) gs a/\a.Perm (fp++c)
 | [],_,_,r=>by
  cases r with
  | @cons _ _ v' _ _ f1 gp h r=>
   replace h:=h.F4;obtain⟨rfl,h⟩:=h;cases h;exact⟨ _,.cons rt r,mI⟩
 | (y,u)::b,_,_,r=>by
  cases r with
  | @cons _ _ v' _ _ f1 gp h r=>
   obtain⟨a,d,p⟩:=cM.FK rt r;refine⟨ _,.cons h d,?_⟩;rw[i3];exact p.append_left f1
theorem bq.FK{i:BS}(S:bq K CL b H Z U Y (.ins c (i++(f,.sh Qfm)::Xb)::t::ts) (w::v::vs)):bq K CL b H Z U Y (.ins c (i++(f,t)::Xb)::ts) (w::vs):=by
 obtain⟨fp,gp,e,r,nd,k⟩:=S.rep;cases r with
 | @cons _ _ _ _ g1 g2 o n=>
  cases n with
  | @cons _ _ _ _ g3 g m l=>
   obtain⟨a,dx,gs,h,rfl,rfl,s,j⟩:=o.Dt;obtain⟨u,d,p⟩:=cM.FK m j;have pm:(fp++((a::u)++g)).Perm (fp++((a::h)++(g3++g))):=by
    refine n7 fp ?_;rw[<- i3];refine List.Perm.append_right g ?_;simp_all
   exact⟨⟨fp,_,e,.cons (.ins s d) l,pm.nodup_iff.2 nd,λc q=>k c (pm.mem_iff.1 q)⟩,S.bh,S.zz,S.zh,S.new,S.tp,S.tab⟩
def Ha(X:Cx)(CL:BM)(b:Bx)(es:Ch)(U:BB)(dv:V->BA)(t:T)(U':BB):Prop:=
 ∀(H Z:Hp) (Y:L2.St) (ts:Bn) (vs:B0) (Q:EN),bq X.K CL b H Z U Y ts vs →
  (∀us H' Z' v,aB Z Z'->aB H H'->bq X.K CL b H' Z' U' Y Qb5 QaS->ay X.K CL H' (dv v) us->Q us H')->Ge X es Y H Q
theorem T.DL{f:Str}{v:V}{Xb:BS}(h2:T.cX Xb=true):∀{a:BS},T.cX a=true->T.cX (a++(f,.sh Qfm)::Xb)=true
 | [],_=>‹_›
 | (x,t)::a,h=>by
  rw[T.cX,lj]at h;rw[mv,T.cX,h.1,T.DL h2 h.2];rfl
variable{ds:BA}{d:D}{dv:V->BA}
def DM(h:QaJ)(r:Qt9)(hs:QoD:=by rfl):Ha X CL b Qau U (λv=>.val v::ds) t U2:=λH Z Y ts vs Q S k=>
 QG Qu0 (h H Z Y ts vs _ S λv H1 Z1 c k1 g=>r H1 Z1 Y _ _ _ g λus H2 Z2 a k2 f d=>k _ H2 Z2 v Qdd Qac f (.cons Qfm d))
def qi(h:Qcw)(r:Ha X CL b es δ1 dv t U2)(hs:QoD:=by rfl):Ha X CL b Qau U (λv=>d::dv v) t U2:=λH Z Y ts vs Q S k=>
 QG Qu0 (h H Z Y ts vs _ S λv H1 Z1 c k1 j g=>r H1 Z1 Y ts vs _ j λus H2 Z2 v2 a k2 i f=>k _ H2 Z2 v2 Qdd Qac i QtH)
variable{A:Type}{arg:Qaj}{Pre:Q2}
theorem HI{res:Qdv}(a:V->A){d:BS}(F:QlX)(z:QaA)(h:Ha X CL b Qau U dv t δ1)(G:∀v,arg (a v)=dv v)(w:∀v,Pre (a v))(i:∀v,res (a v)=d++(f,.sh Qfm)::Xb)(B:T.cX d=true)(D:T.cX Xb=true)(hn:∀v,(arg (a v)).length+1=n:=by exactλ_=>rfl)
  (s:AD x:=by decide) (he:Qav:=by exact aZ rfl) (hpl:QaN:=by rfl) :
  bY X CL b QbW U (.ins x (d++(f,t)::Xb)) δ1:=λH Z Y ts vs Q S kk=>by
 obtain⟨I,fd,ps,M,E,hm,C⟩:=F.ex;exact cz (Jk M E F.room z hm C .nil Ds MG s he hpl) (h H Z Y ts vs _ S λus H1 Z1 v m k1 g r y dx u c ne=>by
  rw[js];refine⟨H1,H1,a v,y,dx,us,rfl,u,c,ne,rfl,.refl _,λ_ _ q _=>q,WA,hn v,w v,g.Nh,λH' W' fp j ww p nw tp rt nd own=>⟨rfl,?_⟩⟩;obtain⟨Z',o,l⟩:=g.back j g.zh ww p nw tp rt nd own (.inr (by rw[i];exact T.DL D B));rw[i]at l;exact kk _ H' Z' (m.trans o) (k1.trans j) l.FK)
theorem JS(bs:QhF):(List.range bs.length).any (λi=>bs.getD i true)=bs.any id:=by
 induction bs with
 | nil=>rfl
 | cons x bs a=>
  rw[mi,List.range_succ_eq_map,pf,List.any_map];have:((λi=>(x::bs).getD i true)∘Nat.succ)=λi=>bs.getD i true:=rfl;rw[this,a];rfl
def aas{bs:QhF}{its:B2}(r:Vals (bs.map V.bl) its){v:Value}(h:its.toArray[i]? = some v):v=.bool (bs.getD i true):=by
 have h':=by simpa using h
 have hl:=r.length;have hi:=hl▸(lr.1 h').1;obtain⟨u,b,a⟩:=r.get (kf hi);rw[h']at b;cases b;have c:=by simpa using hi
 have e:bs.getD i true=bs[i]:=by simp[c]
 rw[e];rw[List.getElem_map]at a;exact a
def Xc(j:Qa6):nj X Qu1 (λxs H Q=>∃(p:Addr) (bs:QhF),xs=[.ref p]/\mJ X.K H p (bs.map V.bl)/\Q (.bl (bs.any id)) H):=by
 intro pins s Y H xs us Q I r h;obtain⟨p,bs,rfl,f,q⟩:=h;obtain⟨u,rfl,c⟩:=vals1 r;cases c;obtain⟨its,a,pl,hz⟩:=I.list f;have hl:=pl.isList;have d:p<s.heap.objs.size:=by obtain⟨o,e,_⟩:=id hl;exact j0 e
 have hlen:its.toArray.size=bs.length:=by rw[m3,<- a.length,cK]
 refine call_any_walk (wpAny_pyIter_list hl ⟨_,_,_,_,_,_,λi=>bs.getD i true,rfl,Walks.list (A:=X.A.in1) (I.ok.hd j) _ p (kr d) _,⟨⟨_,l6 _ rfl,rfl,rfl⟩,hl.at λo e=>ka _ e⟩,λi v s Q E k hQ=>?_,λh' tk g=>?_⟩)
 .rw[aas a k];exact ro hQ
 .rw[hlen,JS];refine⟨.bl _,H,I.kept (λb o e=>g b o (λz=>?_) Qfs),rfl,q⟩;have:=kx.1 z;subst this;exact absurd (j0 e) (tI _)
def Xd:bootBuiltins "any" = some Qu1:=by decide +kernel
theorem Nu{K:Frag}{CL:BM}{H:Hp}:∀{l:QhF} {us:B0},ay K CL H (l.map D.bl) us->us=l.map V.bl
 | [],_,r=>by
  have a:=r;cases a;rfl
 | y::l,_,r=>by
  have a:=r;cases a with
  | cons c b=>rw[c.sc rfl,Nu b];rfl
variable{l:QhF}
def akc(g:Gx X)(hm:X.mg "any" = none)(h:cN X CL b e U (.lst (l.map .bl)) δ1)(i:Gl X "any")(hs:Qan:=by exact aZ rfl):bY X CL b (.Call (.Name "any" pp) [e] [] pos) U (.sh (.bl (l.any id))) δ1:=λH Z Y ts vs Q S k=>
 cz (lC (Xc g.calm) i hm Xd QaH (he:=hs)) (h H Z Y ts vs _ S λv H1 Z1 c k1 j r=>by
  obtain⟨a,us,rfl,f,d⟩:=r.gT;have:=Nu d;subst this;exact⟨a,l,rfl,f,k _ H1 Z1 c k1 Qpi⟩)
namespace Rv
def Xe:PySem.Slot "reversed" "__init__" "object.__init__":=
 .of (owner:="object") (n:="__init__") (by rw[typeLookup_type,builtinLookup_eq_fast];kernel_rfl) Wl Wl Wl
  (by first|exact .inl Wl|exact .inr Wl) (by rw[isSubtype_type];kernel_rfl)
noncomputable def called:TypeCalled "reversed" "reversed.__new__" "object.__init__":=
 ⟨Wl,Wl,⟨_,_,PySem.F.mro_reversed⟩,PySem.F.made_reversed,Wl,PySem.F.sub_reversed_self,Xe⟩
noncomputable def obj(t:Addr)(i:Int):Obj:={cls:=.type "reversed",data:=.fields #[.ref t,rawInt i]}
def Is(h:Heap)(a t:Addr)(i:Int):Prop:=∃o,h.get? a=some o/\o.cls=.type "reversed" /\ o.data=.fields #[.ref t,rawInt i]
theorem Is.at{h:Heap}{t:Addr}{i:Int}(x:Is h a t i)(e:∀o,h.get? a=some o->h'.get? a=some o):Is h' a t i:=let ⟨o,b,r⟩:=x;⟨o,e _ b,r⟩
end Rv
noncomputable def constInt:Expr->Co
 | .Constant (.int i) _ _=>some i
 | .UnaryOp .USub (.Constant (.int i) _ _) _=>some (-i)
 | _=>none
def Az:Ch->Option AT
 | []=>some []
 | e::es=>(constInt e).bind λx=>(Az es).map (x::·)
def Xf{x:Int}(h:constInt e=some x):bY X CL b e U (.sh Qdj) U:=by
 unfold constInt at h;split at h
 .cases h;exact jG
 .cases h;exact eZ (ak jG)
 .cases h
def Nv{x:Int}(h:constInt e=some x):notStar e=true:=by
 unfold constInt at h;split at h
 .rfl
 .rfl
 .cases h
theorem JT:∀{es:Ch} {l:AT},Az es=some l->Gf X CL b es U ((l.map D.int).map T.sh) U
 | [],l,h=>by
  have e:l=[]:=(l5 h).symm;subst e;exact bu
 | e::es,l,h=>by
  rw[Az]at h;obtain⟨x,a,h⟩:=Option.bind_eq_some_iff.1 h;obtain⟨c,hl,rfl⟩:=nr.1 h;exact aG (Xf a) (JT hl) (aZ (Nv a))
def aat(l q:Addr)(xs ys:Cl)(n m:Nat)(e:Do)(sq:D2)(i:QpM)(b:xs.size<=sizeLine)(a:Qu2) :
  PySem.Meets (Builtin.«list.extend» ⟨[.ref l,.ref q],[]⟩) (λ_ R s=>s.heap.get? l=some {cls:=.type "list",dict:=none,data:=.seq xs n,slots:=#[]}/\s.heap.get? q=some {cls:=.type "tuple",dict:=e,data:=.seq ys m,slots:=sq} ∧
   R QsS {s with heap:=s.heap.update l QrU,toks:=s.toks}):=
 PySem.Meets.of_wp λprog w A R s h=>by
  obtain⟨f,g,d,tk,os⟩:=s;obtain⟨hl,c,h⟩:=h;have f1:=AutoSeq1.idx_int;have k:=AutoSeq1.sub_list_list;have f4:=AutoSeq1.sub_tuple_list;have j:=AutoSeq1.sub_list_tuple;have hz:(xs++ys).size<=sizeLine+1:=by
   rw[Array.size_append];exact a
  wp_walk using Qp8,wpAny_loadPart' hl,wpAny_loadPart' c
  exact⟨_,rfl,h⟩
def OC(K:Frag):V->B0->Hp->VK->Prop:=λx vs H Q=>∃l q xs zs,x=.ref l/\vs=[.ref q]/\H l=some Qbo/\tL K H q zs/\xs.length+zs.length<=sizeLine/\Q .non Qv7
theorem ae7:xy X "list.extend" (OC X.K):=by
 intro pins s Y H x vs v us Q I d f h;obtain⟨l,q,xs,zs,rfl,rfl,b,m,hz,k⟩:=h;cases d;obtain⟨u,rfl,g⟩:=f.one;cases g;obtain⟨z,its,n,r,hl,e⟩:=I.Fs b;obtain⟨c,a,⟨⟨y,d2,o,s2⟩,e2,t,i,hd2⟩,w⟩:=I.tuple m;cases t;cases hd2;have j:=a.length;have hsz:its.toArray.size+c.toArray.size<=sizeLine:=by grind
 have p:¬ (!its.toArray.isEmpty&&Builtin.List.listTooLong Qq0)=true:=by
  rw[Dr hsz,vy];decide
 refine rp F.slot_list_extend ⟨_,e,rfl⟩ F.entry_list_extend Qr8 (aat l q _ _ n i d2 s2 p WB We) ⟨e,e2,?_⟩;refine⟨.non,_,I.Fu b e Wp (r.append a) ?_,rfl,k⟩;simp_all
variable{ds JK:BA}
theorem bq.Gi{d:L3.D}(S:Qrn):bz K CL Z d v:=by
 obtain⟨fp,gp,e0,a,nd,e⟩:=S.rep;cases a with
 | cons q1 c=>
  obtain⟨rfl,r⟩:=q1.F4;exact r
theorem aau(h1:QlV)(h2:Qq1)(n1:ds≠[])(o:JK≠[])(hz:QlE) :
  bY X CL b Qga U QtP U2:=λH Z Y ts vs Q S k=>
 cz (M4 aej cL cL) (h1 H Z Y ts vs _ S λv1 H1 Z1 l k1 u=>h2 H1 Z1 Y _ _ _ u λv2 H2 Z2 j k2 e=>by
  have m:=e.Gi;have n:=e.pop.Gi;obtain⟨_,_,rfl,s,g⟩:=n.lS;obtain⟨_,_,rfl,f,d⟩:=m.lS;have e1:=g.length;have e2:=d.length;refine⟨_,_,_,_,rfl,rfl,aB.Gb e.zh s,aB.Gb e.zh f,λz=>n1 (IP (by rw[e1,z];rfl)),We,λz=>absurd (IP (by rw[e2,z];rfl)) o,λ_ p q=>?_⟩;have rc:=ay.app g d;obtain⟨a,c,t⟩:=(bq.qg rc e.pop.pop).Jz (by simp[rc.length,e1,e2]) q;obtain⟨r,i,h⟩:=t.Jw;rw[T.cu,kU]at h;exact k _ _ r (l.trans Qti) QsO h)
variable{ι:Nat->Nat}
noncomputable def turned(ι:Nat->Nat)(i j:Nat):Nat->Nat:=λk=>if i<=k/\k<j then ι (i+j-1-k) else ι k
def JV{a c:AT}(p:a.Perm c)(s:a.Pairwise (· ≥ ·)):a=(sortI c).reverse:=by
 have h:=DH ((List.reverse_perm a).trans p) (List.pairwise_reverse.2 (s.imp λh=>h));rw[<- h,List.reverse_reverse]
def TU(K:Frag)(t:TA):TE:=λY H Q=>t Y H λvs H1=>∃p ns,vs=[.ref p]/\mJ K H1 p (ns.map .int)/\ns.length<64/\∀l,H1 l=none->Q Qfk (upd H1 l (.lst ((sortI ns).reverse.map .int)))
variable{kj:Nat}
theorem QZ{t:TA}{p p1:Pos}(l:QjM)(hm:Qi2)(m:PA X [e] t)(hs:Qan) :
  PE X (.Call (.Name "sorted" p) [e] [⟨some "reverse",.Constant QgE kj p1,p2⟩] pos) (TU X.K t):=by
 intro pins s Y H Q I h;have k:PK X [⟨some "reverse",.Constant QgE kj p1,p2⟩] _:=Uw OP Zu;refine pv (ni I l hm qR ?_);refine callWith_kw (dP QlW λus s1 zz=>?_) (by rw[hs];rfl) (by rw[hs];rfl) rfl rfl;obtain⟨vs,H1,r,g,q1⟩:=zz;refine dP (k pos pins s1 Y H1 (λzs H2=>zs=[.bl true]/\H2=H1) r ⟨rfl,rfl⟩) λws s2 zz=>?_;obtain⟨zs,H2,a,c,e1,e2⟩:=zz;subst e1;subst e2;obtain⟨u,rfl,f⟩:=c.one;cases f;obtain⟨q,ns,rfl,j,hl,kk⟩:=q1;obtain⟨v,rfl,d⟩:=g.one;cases d;obtain⟨its,b,pl,hz⟩:=a.list j;have hlen:=b.length;rw[cK]at hlen;refine sorted_ints_rev pl.isList (intsAre_of b) We λout i a1 a2 a3=>?_;obtain⟨n,he⟩:=sortedAll_at s2.heap its out;have o:=JV a2 a3;subst o;refine⟨.ref (s2.heap.objs.size+1),_,a.laid (t':=s2.toks) Qrt (n2 _) (show dU X.prog X.w _ _ _ Qfo from⟨?_,out.toList,n,qQ a1,?_⟩),rfl,kk _ Que⟩
 .rw[cK,rF,kB];simp_all
 .simpa using he
variable{p1:Pos}
def Q0{l:AT}(hm:Qi2)(h:QrD)(hl:l.length<64)(j:QjM)(hs:Qan:=by exact aZ rfl) :
  bY X CL b (.Call QmK [e] [⟨some "reverse",.Constant QgE kj p1,p2⟩] pos) U (.lst (((sortI l).reverse.map .int).map T.sh)) δ1:=λH Z Y ts vs Q S k=>
 cz (QZ j hm QaH hs) (h H Z Y ts vs _ S λv H1 Z1 d k1 n r=>by
  obtain⟨a,us,rfl,g,f⟩:=r.gT;have:=Ay f;subst this;refine⟨a,l,rfl,g,hl,λp i=>?_⟩;obtain⟨c,m⟩:=(bq.qg (ints_rep _) n).nB (g0:=[]) Wp i;exact k _ _ _ d Qco m)
def Mo(hi:X.N[i]? = some x)(h:X.env.scope.names.lookup x=some .local)(hf:X.fn x=true)(hd:AD x:=by decide)(a:AE x:=by decide):Ln X i x:=⟨⟨hi,.inl h,hd,a⟩,.inl h,.inl hf⟩
def US(hi:X.N[i]? = some x)(h:X.env.scope.names.lookup x=some .cell)(hf:X.fn x=true)(hd:AD x:=by decide)(a:AE x:=by decide):Ln X i x:=⟨⟨hi,.inr Qfj,hd,a⟩,.inr h,.inl hf⟩
def DN{w:World}{f:Addr}{sp:Sp}(G:dz P w K mg base oj k f fd ps sp)(m:mg x=some Qad)(q:Qgx)(b:Binds K fd ps []) :
  ∃f fd ps,dz P w K mg base oj k f fd ps sp/\mg x=some Qad/\keepIn K Qad=true/\Binds K fd ps []:=⟨_,_,_,G,m,q,b⟩
variable{px:Pos}{p:L3.D->Bool}{g:L3.D->T}
def FI(sc:QfN):qP X scope [y] Nc ix:=⟨sc.kind,sc.As,sc.nd,sc.names,(λx a=>by rw[kx]at a;subst a;exact sc.own),sc.frees,sc.hd,sc.rb⟩
noncomputable def JI(sc:QfN)(h:QqV)(h1:AD y)(h2:AE y):Ax X CL scope Nc [y].length (.Name y px) part1 ifs elt δc ds p g:=λC s0 b f0 a=>
 ⟨aaf sc.nd (QV (by rw[sc.hd];rfl) sc.own h1 h2),λd hd=>⟨[d],rfl,rfl,(h C s0 b f0 a d hd).1,(h C s0 b f0 a d hd).2⟩⟩
def qS(sc:QfN)(a:Qa6)(h:Qq2)(c:(δc=Dy δ1 ix/\∀d∈ds,(g d).clean=true)\/δc=Nj δ1 ix)(inner:QqV)(hlen:Qb7)
  (hs:Qcv:=by intro _;rfl) (h1:AD y:=by decide) (h2:AE y:=by decide):bY X CL b QpU U QfZ δ1:=
 DF (FI sc) a (UK h) c QuD hlen hs
def oY{D:dw}{gg:L3.D->T}(g:Gx X)(n:Qbl)(sc:QfN)(h:Qq2)(a:(δc=Dy δ1 ix/\∀d∈ds,(gg d).clean=true)\/δc=Nj δ1 ix)(inner:Block X CL scope Nc ifs elt δc ds p gg)
  (hlen:Qb7) (k:cQ X CL b dQ (δ1.set i (some (.lst ((ds.filter p).map gg)))) D) (hl:QcQ)
  (c:swapsWith QkT QhL pos.line X.env=pure true\/swapsWith QkT QhL pos.line X.env=pure false) (hs:Qcv:=by intro _;rfl)
  (h1:AD y:=by decide) (h2:AE y:=by decide):cQ X CL b (.Assign [.Name x pos'] QkT pos::dQ) U D:=
 aj8 g n (FI sc) (UK h) a QuD hlen k hl c hs
variable{d:L3.D}
def aA(n:Qbl)(h:U[i]? = some QdJ:=by rfl):cN X CL b QaE U d U:=ak (v_ n.1 h)
structure UO(X:Cx):Prop where
 g:Gx X
 u:X.A.units+64<cLine
noncomputable abbrev bT:NameKind:=.globalImplicit
noncomputable abbrev cI:NameKind:=.local
def jN{P:At}{sc:Scope}(h1:sc.kind=.function:=by rfl)(h2:sc.isCoroutine=false:=by rfl)(e:sc.isGenerator=false:=by rfl)(d:N.Nodup:=by decide +kernel)(c:N.take P.length=P:=by rfl)(b:∀x∈P,sc.names.lookup x=some .local\/sc.names.lookup x=some .cell:=by decide +kernel)(a:∀y∈sc.names,y.2 ≠ .free:=by decide +kernel):dB N P sc:=⟨h1,h2,e,d,c,b,a⟩
def bJ{m:Nat}{arg:Qaj}{Pre:Q2}{res:QaU}(F:∃f fd ps,dz X.prog X.w X.K X.mg X.base oj k f fd ps Qh8/\X.mg x=some Qad/\keepIn X.K Qad=true/\Binds X.K fd ps [])(r:fj m X.A)(h:k<=m:=by decide):Fc X CL x k n arg Pre res:=⟨F,r.mono h⟩
variable{U':BB}{Y':L2.St}{y:Addr}
theorem bq.aov(S:Qao)(hi:U[i]? = some (some (.pin y t))):Y[i]? = some QnM/\bq K CL b H Z Qnv Y ts vs:=by
 obtain⟨fp,gp,e,r,nd,k⟩:=S.rep;obtain⟨v0,f1,f2,c,hv,a,rt,put,_⟩:=e.get hi;subst a;replace rt:=rt.QF;obtain⟨rfl,rt⟩:=rt;have e2:=put Qr Qck rt;rw[g9 hv]at e2;exact⟨hv,⟨⟨_,gp,e2,r,nd,k⟩,S.bh,S.zz,S.zh,S.new,S.tp,S.tab⟩⟩
noncomputable def tV(H:Hp)(gp:BY):Hp:=λc=>if c∈gp then none else H c
def jO{c:Addr}(h:c∉gp):tV H gp c=H c:=bX h
def qT{c:Addr}(h:c∈gp):tV H gp c=none:=cq h
def kC{c:Addr}(h:tV H gp c=some o):c∉gp/\H c=some o:=by
 by_cases a:c∈gp
 .rw[qT a]at h;cases h
 .rw[jO a]at h;exact⟨a,h⟩
theorem bq.cut(S:Qrh)(hl:tl.length=us.length):∃gp,aQ K CL H Z tl us gp/\gp.Nodup/\bq K CL b Qkt Z U Y ts vs:=by
 obtain⟨fp,g,e,r,nd,k⟩:=S.rep;obtain⟨g1,g2,rfl,j,i⟩:=aQ.split hl r;have f:(fp++QcJ).Perm (g1++(fp++g2)):=by
  rw[<- i3,<- i3];exact mI.append_right g2
 have d:=l2.1 (f.nodup_iff.1 nd);have ne:∀c∈fp++g2,c∉g1:=λc a h=>d.2.2 c h c a rfl;have own:∀c∈g1,Z c=none/\b.B c=none:=λc a=>k c (iF _ QkC);refine⟨g1,j,d.1,⟨⟨fp,g2,e.mono Qr (λc a=>jO (ne c QkC)),i.mono Qr (λc a=>jO (ne c (iF _ a))),d.2.1,λc a=>k c (f.mem_iff.2 (iF _ a))⟩,λc o q=>?_,S.zz,λc o q=>?_,S.new,λc o q im=>S.tp c o (kC q).2 im,S.tab⟩⟩
 .rw[jO (λh=>by rw[(own c h).2]at q;cases q)];exact S.bh c o q
 .rw[jO (λh=>by rw[(own c h).1]at q;cases q)];exact S.zh c o q
theorem bq.aow{W':Hp}(S:Qao)(k:QcN)(ww:aB Z W')(l:aB W' H')(new:∀a o,W' a=some o->Z a=none->H a=none)
  (tp:∀a o,H' a=some o->ju o=true->W' a=some o) (r:aQ K CL H' W' tl us fp) (nd:fp.Nodup) (own:∀a∈fp,W' a=none/\H a=none):bq K CL b H' W' U Y (tl++ts) (us++vs):=by
 obtain⟨f0,g0,e0,g,f,k0⟩:=S.rep;have old:∀a∈f0++g0,∃o,H a=some o:=λa d=>(iw.1 d).elim (e0.there a) (g.there a);have keep:∀a∈f0++g0,H' a=H a:=λa d=>by
  obtain⟨o,e⟩:=old a d;rw[e];exact k a o e
 have j:(f0++(fp++g0)).Perm (fp++(f0++g0)):=by
  rw[<- i3,<- i3];exact mI.append_right g0
 have wn:∀a∈f0++g0,W' a=none:=λa d=>by
  cases q:W' a with
  | none=>rfl
  | some o=>
   obtain⟨u,e⟩:=old a d;rw[new a o q (k0 a d).1]at e;cases e
 refine⟨⟨f0,fp++g0,e0.mono ww (λa d=>keep a QkF),aQ.app r (g.mono ww λa d=>keep a (iF _ d)),?_,λa d=>?_⟩,S.bh.trans k,S.zz.trans ww,l,λa o q z=>?_,tp,S.tab⟩
 .refine j.nodup_iff.2 (l2.2 ⟨nd,f,λa d c m e=>?_⟩);subst e;obtain⟨o,q⟩:=old a m;rw[(own a d).2]at q;cases q
 .obtain h|h:=iw.1 (j.mem_iff.1 d)
  .exact⟨(own a h).1,Jv S.bh (own a h).2⟩
  .exact⟨wn a h,(k0 a h).2⟩
 .cases i:Z a with
  | none=>exact Jv S.bh (new a o q i)
  | some u=>
   exact S.new a u i z
def FF:Bn->Bn->Prop
 | [],[]=>True
 | .sh d::l,.sh e::m=>d=e/\FF l m
 | .pin x _::l,.pin z _::m=>x=z/\FF l m
 | _,_=>False
def Keeps(U:BB)(ol:Bn):Prop:=∀(j:Nat) (y:Addr) (t:T),ol[j]? = some (T.pin y t)->U[j]? = some (some (T.pin y t))
theorem Keeps.tail{o:Qej}{d:T}{ol:Bn}(k:Keeps (o::U) (d::ol)):Keeps U ol:=λj y t h=>k QF y t h
theorem fH.outs{W W':Hp}(ww:aB W W'):∀{al ol:Bn} {vs:B0} {g0:BY} {U:BB} {Y:L2.St} {fp:BY},FF al ol->aQ K CL H W al vs g0->fH K CL H' W' U Y fp->Keeps U ol->∃g,aQ K CL H' W' ol vs g/\g.Sublist fp:=by
 intro al
 induction al with
 | nil=>
  intro ol vs g0 U Y fp b f _ _;cases f;cases ol with
  | nil=>exact⟨[],.nil,List.nil_sublist _⟩
  | cons _ _=>cases b
 | cons a al c=>
  intro ol vs g0 U Y fp b f re k;cases f with
  | cons r rs=>
  cases ol with
  | nil=>cases a<;>cases b
  | cons o ol=>
  cases a with
  | sh d=>
   cases o with
   | sh e=>
    obtain⟨h1,h2⟩:=b;subst h1;replace r:=r.F4;obtain⟨rfl,r⟩:=r;cases re with
    | nil=>
     obtain⟨g,q,s⟩:=c h2 rs (.nil (H:=H') (Z:=W')) (λj y t h=>by have:=k QF y t h;simp at this);exact⟨[]++g,.cons Qnf q,s⟩
    | skip re=>
     obtain⟨g,q,s⟩:=c h2 rs re k.tail;exact⟨[]++g,.cons Qnf q,s⟩
    | cons rt re=>
     obtain⟨g,q,s⟩:=c h2 rs re k.tail;exact⟨[]++g,.cons Qnf q,s.trans (v3 _ _)⟩
   | _=>cases b
  | pin x t0=>
   cases o with
   | pin z t=>
    obtain⟨h1,h2⟩:=b;subst h1;have h0:=k 0 x t rfl;replace r:=r.QF;obtain⟨rfl,r⟩:=r;cases re with
    | nil=>simp at h0
    | skip re=>simp at h0
    | cons rt re=>
     simp at h0;subst h0;obtain⟨g,q,s⟩:=c h2 rs re k.tail;replace rt:=rt.QF;obtain⟨rfl,rt⟩:=rt;exact⟨_,.cons (.pin rt) q,oP (nk _) s⟩
   | _=>cases b
  | _=>cases o<;>cases b
noncomputable def oZ(N:At)(al:Bn):BB:=al.map some++List.replicate (N.length-al.length) none
theorem tW:∀{al:Bn} {vs:B0} {gp:BY} (n:Nat),aQ K CL H Z al vs gp->fH K CL H Z (al.map some++List.replicate n none) Qri gp
 | _,_,_,n,.nil=>ku (ds:=[]) (vs:=[]) n .nil
 | _,_,_,n,.cons r t=>.cons r (tW n t)
def uu(K:Frag)(CL:BM)(n:Nat)(arg:Qbt)(Pre:Q2)(res:QaU)(out:Qbt):Sp:=λvs H Q _=>
 ∃(W:Hp) (a:A) (gp:BY),aB W Qkt/\(∀c o,H c=some o->ju o=true->W c=some o)/\aQ K CL H W Qcn vs gp/\gp.Nodup/\(arg a).length=n/\Pre a/\ny CL W ∧
  ∀v H' W' fp,aB Qkt H'->aB W W'->aB W' H'->(∀c o,W' c=some o->W c=none->tV H gp c=none)->(∀c o,H' c=some o->ju o=true->W' c=some o) →
   aQ K CL H' W' (res a::out a) QaS fp->fp.Nodup->(∀c∈fp,W' c=none/\tV H gp c=none)->Q v H'
def Sk{w:World}{f:Addr}{arg:Qbt}{Pre:Q2}{res:QaU}{out:Qbt}(F:Qdr)(S:Qds)(B:∀a,Pre a->FF Qcn Qfw)
  (J:∀(eB:Value) (l:Qas) (outer:D1) (s:Qb) (H:Hp) (E:XK) (b:Bx) (a:A),fj k Qvr->Pre a →
   cQ (tN oj P w K mg base N qual QaX f eB l outer s H E).Qe CL b Qbr QjD {nx:=λU=>res a=.sh .non/\Keeps U Qfw,rt:=λt U=>t=res a/\Keeps U Qfw}) :
  dz P w K mg base oj QaM f fd ps (uu K CL ps.length arg Pre res out):=by
 refine JA F S (λvs H Q E h=>?_) (λeB l outer s H vs Q E _ I h=>?_)
 .obtain⟨W,a,gp,_,_,r,_,hl,_⟩:=h;rw[<- r.length];exact hl
 .obtain⟨W,a,gp,u,tp,r,nd,hl,m,tb,kk⟩:=h;have wn:∀c∈gp,W c=none:=λc i=>by
   cases q:W c with
   | none=>rfl
   | some o=>exact absurd i (kC (u c o q)).1
  refine⟨_,UC,J eB l outer s H E ⟨tV H gp,W⟩ a I m H W _ [] [] _ ⟨⟨gp,[],?_,.nil,by rw[js];exact nd,λc i=>?_⟩,λc o q=>(kC q).2,.refl _,λc o q=>(kC (u c o q)).2,λc o q z=>?_,tp,tb⟩ ⟨λU' Y' H' Z' s' d e=>?_,λt v H' Z' U' Y' s' d e=>?_,λ_ _ _ _ _ _ e=>e.elim,λ_ _ _ _ _ _ e=>e.elim⟩⟩
  .unfold oZ L2.start;rw[<- r.length];exact tW _ r
  .rw[js]at i;exact⟨wn c i,qT i⟩
  .have D:W c=some o:=q;have p:W c=none:=z;rw[D]at p;cases p
  .obtain⟨e1,e2⟩:=e;obtain⟨fp,L,re,y,n,own⟩:=d.rep;obtain⟨g,q,j⟩:=fH.outs d.zz (B a m) r re e2;have G:=(l2.1 n).1;exact kk .non H' Z' ([]++g) d.bh d.zz d.zh d.new d.tp (.cons (by rw[e1];exact .sh .non) q) (G.sublist j) λc i=>own c (i4 _ (j.subset i))
  .obtain⟨e1,e2⟩:=e;subst e1;obtain⟨fp,L,re,y,n,own⟩:=d.rep;obtain⟨g,q,j⟩:=fH.outs d.zz (B a m) r re e2;cases y with
   | @cons _ _ _ _ f1 f2 C M=>
    have sub:(g++f1).Sublist (fp++QkE):=oP j Qru;have pm:(f1++g).Perm (g++f1):=mI;exact kk v H' Z' (f1++g) d.bh d.zz d.zh d.new d.tp (.cons C q) (pm.nodup_iff.2 (n.sublist sub)) λc i=>own c (sub.subset (pm.mem_iff.1 i))
def Hk(Y:L2.St):Cn->BY->Prop
 | [],[]=>True
 | i::is,y::ys=>Y[i]? = some QnM/\Hk Y is ys
 | _,_=>False
def HV:Bn->BY->Bn->Prop
 | [],[],[]=>True
 | .sh _::ol,ys,ns=>HV ol ys ns
 | .pin y t::ol,z::ys,n::ns=>y=z/\(n=t\/n=.pin y t)/\HV ol ys ns
 | _,_,_=>False
noncomputable def xi:BB->Cn->Bn->BB
 | U,i::is,n::ns=>xi Qu3 is ns
 | U,_,_=>U
theorem bq.Y2:∀{ol:Bn} {us:B0} {is:Cn} {ys:BY} {ns:Bn} {U:BB},bq K CL b H Z U Y (ol++ts) (us++vs)->ol.length=us.length->Hk Y is ys->HV ol ys ns->(∀i∈is,i<U.length)->bq K CL b H Z (xi U is ns) Y ts vs:=by
 intro ol
 induction ol with
 | nil=>
  intro us is ys ns U S hl c a hi;cases us with
  | cons _ _=>cases hl
  | nil=>
   cases ys with
   | cons _ _=>cases a
   | nil=>
    cases is with
    | cons _ _=>cases c
    | nil=>
     rw[xi.eq_def];exact S
 | cons o ol h=>
  intro us is ys ns U S hl c a hi;cases us with
  | nil=>cases hl
  | cons u us=>
  cases o with
  | sh d=>exact h S.pop Qu4 c a hi
  | pin y t=>
   cases ys with
   | nil=>cases a
   | cons z ys=>
   cases ns with
   | nil=>cases a
   | cons n ns=>
   cases is with
   | nil=>cases c
   | cons i is=>
   obtain⟨h1,hn,a⟩:=a;subst h1;obtain⟨f,c⟩:=c;have k:u=.ref y:=by
    obtain⟨_,_,_,r,_,_⟩:=S.rep;cases r with
    | cons r _=>cases r;rfl
   subst k;have e:=hi i gk;have g:=S.set e;rw[g9 f]at g;have m:bq K CL b H Z Qu3 Y (ol++ts) (us++vs):=by
    obtain rfl|rfl:=hn
    .have:=(g.aov (za e)).2
     rwa [List.set_set]at this
    .exact g
   exact h (U:=U.set i (some n)) m Qu4 c a λj l=>by rw[List.length_set];exact hi j (ij _ l)
  | _=>cases a
section
variable{D:dw}{is:Cn}{fx:BY->Prop}{al:BY->Bn}
def Q5(X:Cx)(CL:BM)(b:Bx)(e:Expr)(U:BB)(t:T)(U':BB):Prop:=
 ∀(H Z:Hp) (Y:L2.St) (ts:Bn) (vs:B0) (Q:VK),bq X.K CL b H Z U Y ts vs->(∀v H' Z',aB Z Z'->bq X.K CL b H' Z' U' Y Qb5 QaS->Q v H')->yJ X e Y H Q
theorem bY.m(h:QaJ):Q5 X CL b e U t δ1:=λH Z Y ts vs Q S k=>h H Z Y ts vs Q S λv H' Z' z _ a=>k v H' Z' z a
def aax(h:Qdw)(k:D.nx δ1)(hs:QhW:=by rfl):WO X CL b (.Expr e pos) U D:=λH Z Y ts vs E S M=>lT (vt cL hs) (h H Z Y ts vs _ S λv H1 Z1 a c=>M.nx δ1 Y H1 Z1 a c.pop k)
def afa(i:Nat)(h:Qdw)(k:QtJ)(hl:QcQ:=by decide)(d:Qbs:=by assumption)(hi:X.N[i]? = some x:=by rfl)(c:Qdo:=by first|exact .inl rfl|exact .inr rfl)
  (hs:Qdy:=by rfl) (hf:Qdp:=by first|exact .inl rfl|exact .inr rfl|assumption):WO X CL b Qlv U D:=λH Z Y ts vs E S M=>
 lT Qua (h H Z Y ts vs _ S λv H1 Z1 a f=>M.nx _ _ H1 Z1 a (f.set hl) k)
def S3(X:Cx)(CL:BM)(b:Bx)(es:Ch)(U:BB)(is:Cn)(fx:BY->Prop)(al:BY->Bn)(U':BB):Prop:=
 ∀(H Z:Hp) (Y:L2.St) (ts:Bn) (vs:B0) (Q:EN),bq X.K CL b H Z U Y ts vs →
  (∀ys us H' Z',ys.length=is.length->Hk Y is ys->fx ys->us.length=(al ys).length->aB Z Z'->aB H H'->bq X.K CL b H' Z' U' Y ((al ys).reverse++ts) QdG->Q us H')->Ge X es Y H Q
noncomputable def T.isRef:T->Bool
 | .lst _=>true
 | .ins _ _=>true
 | .jt _=>true
 | .dct _=>true
 | _=>false
theorem bq.ake(S:QbT)(h:t.isRef=true):∃y,v=.ref y/\bq K CL b H Z U Y (.pin y t::ts) (.ref y::vs):=by
 obtain⟨fp,gp,e,r,nd,k⟩:=S.rep;cases r with
 | cons r rs=>
  cases r with
  | sh r=>cases h
  | tup r _=>cases h
  | pin r=>cases h
  | j5 r _ _=>cases h
  | lst r q=>exact⟨_,rfl,⟨⟨fp,_,e,.cons (.pin (.lst r q)) rs,nd,k⟩,S.bh,S.zz,S.zh,S.new,S.tp,S.tab⟩⟩
  | ins r q=>exact⟨_,rfl,⟨⟨fp,_,e,.cons (.pin (.ins r q)) rs,nd,k⟩,S.bh,S.zz,S.zh,S.new,S.tp,S.tab⟩⟩
  | jt r q=>exact⟨_,rfl,⟨⟨fp,_,e,.cons (.pin (.jt r q)) rs,nd,k⟩,S.bh,S.zz,S.zh,S.new,S.tp,S.tab⟩⟩
  | dct r q=>exact⟨_,rfl,⟨⟨fp,_,e,.cons (.pin (.dct r q)) rs,nd,k⟩,S.bh,S.zz,S.zh,S.new,S.tp,S.tab⟩⟩
def akf(g:Gx X)(n:Qbl)(h:Qdw)(k:Qlg)(hl:QcQ:=by exact iq rfl)(hs:Qdy:=by rfl) :
  cQ X CL b Qia U D:=bS (afa i h k hl g.nd n.hi n.loc hs n.hf)
def JW(h:Qdw)(k:cQ X CL b dQ δ1 D)(hs:QhW:=by rfl):cQ X CL b (.Expr e pos::dQ) U D:=bS (aax h k hs)
end
variable{g:Qky}
def x3(g:Nat->Int)(i j:Nat):Prop:=g i<g j\/(g i=g j/\i<j)
theorem x3.trans{g:Nat->Int}(a:x3 g i j)(b:x3 g j k):x3 g i k:=by
 unfold x3 at *;lia
theorem Q6{c f:Value}(l:B2)(h:TriplesOk l)(e:codeAmong pos (l++[rawInt pos'.line,rawInt pos'.col,c])=some f):codeAmong pos l=some f\/f=c:=by
 fun_induction TriplesOk l with
 | case1=>
  simp[codeAmong,rawInt]at e;simp_all
 | case2 a t b u x rest g=>
  simp only[mv,codeAmong]at e ⊢;split at e
  .rename_i d;rw[cq d];exact .inl e
  .rename_i d;rw[bX d];exact g h e
 | case3 l h1 h2=>exact h.elim
def xf(f:Addr)(q:Str)(ps:Qkp)(body:Expr)(sc:Scope)(cl:Qkd)(c:Addr):Heap->Prop:=λh=>
 ∃pm a,h.get? f=some (kla_obj "<lambda>" q ps body sc cl pm c a)
structure xc(X:Cx)(CL:BM)(x q:Str):Prop where
 code:∃c,X.env.code=.ref c/\CodeHd X.base c (CL x)
 blt:∃bm o,X.mg "__builtins__" = some (.ref bm)/\bm≠builtinsNs/\bm≠mainGlobals/\X.base.get? bm=some o/\o.cls=.type "module" /\ o.dict=some builtinsNs/\o.data=.plain
 qual:X.env.qual++"<lambda>" = q
 tab:HK x=true/\CL x≠0/\Ng x=q
variable{q:Str}{params:Qkp}{body:Expr}
def akg{Q:BN}(L:xc X CL x q)(I:Qa7)(p:H (CL x)=some (.tabs q))(MT:∀y∈scope.names,y.2=.free->∃c,X.env.cells.lookup y.1=some c)
  (M:Qsu)
  (k:∀f c H' s',L2.Inv X pins Y H' s'->aB H H'->H' f=some Qk3->H' c=some Qcu->(∀b o,H' b=some o->ju o=true->H b=some o)->Q Qad s') :
  wpAny Qe X.A (eval (.Lambda params body scope pos) X.env) Q X.xe s:=by
 obtain⟨c,R,hd⟩:=L.code;obtain⟨bm,ob,b1,b2,b3,V,b5,b6,b7⟩:=L.blt;obtain⟨ps,G,tr,cs⟩:=I.cR _ _ p;have O:∀{b:Addr} {o:Obj},X.base.get? b=some o->b≠CL x:=λ{b o} e z=>by
  have:=(I.bs _ _ e).2;rw[z,p]at this;cases this
 have P:s.heap.Ns mainGlobals X.mg:=by
  obtain⟨o,es,ep,e,r⟩:=I.mod.glob;exact⟨o,es,ep,I.bk _ _ e,r⟩
 have E:mainGlobals≠CL x:=by
  obtain⟨o,_,_,e,_⟩:=I.mod.glob;exact O e
 have S:s.heap.BuiltinsAt X.mg (CL x):=⟨bm,ob,b1,b2,b3,O V,I.bk _ _ V,b5,b6,b7⟩;refine PySem.W.kla_eval M ?_;rw[L.qual];cases hf:codeAmong pos ps.toList with
 | none=>
  refine PySem.W.kla_makeFunction (oX MT) I.ok.glob P R (hd.keeps I.bk) G tr hf E S λg i h' tk C B j4 K m=>?_;obtain⟨c₂,oc,vs,t,e2,D,F,hv⟩:=K;cases e2;have hn:H g=none:=I.cR.fresh B;have l:∀{b:Addr},H b=none->b≠CL x:=λ{b} e z=>by rw[z,p]at e;cases e
  have ne':∀{b:Addr} {o:Obj},s.heap.get? b=some o->b≠g:=λ{b o} e=>kr (mm (j0 e) B);have cP:CL x≠g:=ne' G;have un:Un X.fs [] H (upd H g Qcu) s.heap h':=by
   refine⟨λb o e n _ _=>C b o (l n) e,λb o e n _ _=>⟨o.slots,C b o (l n) e⟩,λb o e n _=>by rw[au (ne' e)];exact n,λb o e _=>?_,λb xs e=>by rw[au Qfh];exact e,λb o u e=>by rw[au Qfh];exact e,λb ps e=>⟨#[],by rw[au Qfh,e];simp⟩⟩;by_cases z:b=CL x
   .exact⟨_,z▸m⟩
   .exact⟨o,C b o z e⟩
  have cR:tE X.prog X.w (upd H g Qcu) h':=λb u e=>by
   by_cases z:b=g
   .subst z;rw[aC]at e;cases e;exact⟨oc,vs,t,D,F,hv⟩
   .rw[au z]at e;by_cases h:b=CL x
    .subst h;rw[p]at e;cases e;refine⟨_,m,?_,λpos' J T=>?_⟩
     .rw[Array.toList_append];exact TriplesOk_snoc _ _ _ _ tr
     .rw[Array.toList_append]at T;obtain q1|q1:=Q6 _ tr T
      .obtain⟨c3,e3,U⟩:=cs pos' J q1;exact⟨c3,e3,by rw[au (aM U hn)];exact U⟩
      .exact⟨g,q1,aC⟩
    .refine(I.cR b u e).yz (λd v Uo r=>C d v ?_ r) (λd r=>by rw[au (aM r hn)];exact r) (λd xs r=>by rw[au (aM r hn)];exact r) λd z r=>by rw[au (aM r hn)];exact r
     rintro rfl;obtain w|w:=Uo
     .exact h w.symm
     .rw[p]at w;cases w
  have I1:=I.un (t':=tk) un cR;have f1:(upd H g Qcu) h'.objs.size=none:=cR.fresh (ik _);have N:=I1.laid (t':=tk) (a:=h'.objs.size) (o:=.ext Qqe) (h':=h'.push Qpt)
   (λb u e=>ka _ e) (ik _) ⟨⟨_,_,l6 _ rfl⟩,⟨_,l6 _ rfl⟩,λh1 h2 ⟨pm,ct,e⟩ kk=>⟨pm,ct,kk _ e⟩⟩
  refine k _ g _ _ N (λb o e=>?_) aC ?_ λb o e im=>?_
  .have j:=aM e hn;have h:b≠h'.objs.size:=λz=>by
    rw[<- z,au j,e]at f1;cases f1
   rw[au h,au j];exact e
  .rw[au (kr j4),aC]
  .by_cases h:b=h'.objs.size
   .subst h;rw[aC]at e;cases e;cases im
   .rw[au h]at e;by_cases j:b=g
    .subst j;rw[aC]at e;cases e;cases im
    .rw[au j]at e;exact e
 | some J=>
  obtain⟨g,rfl,Z⟩:=cs pos J hf;refine PySem.W.kla_makeFunctionHit (oX MT) I.ok.glob P R (hd.keeps I.bk) G tr hf S λi h' tk hk hsz=>?_;have N:=I.laid (t':=tk) (a:=h'.objs.size) (o:=.ext Qqe) (h':=h'.push Qpt)
   (λb u e=>ka _ (hk _ _ e)) hsz ⟨⟨_,_,l6 _ rfl⟩,⟨_,l6 _ rfl⟩,λh1 h2 ⟨pm,ct,e⟩ kk=>⟨pm,ct,kk _ e⟩⟩
  have f1:H h'.objs.size=none:=I.cR.fresh hsz;refine k _ g _ _ N (λb o e=>by rw[au (aM e f1)];exact e) aC (by rw[au (aM Z f1)];exact Z) λb o e im=>?_;by_cases h:b=h'.objs.size
  .subst h;rw[aC]at e;cases e;cases im
  .rw[au h]at e;exact e
def BP(X:Cx)(A:Qas)(q:Str)(scope:Scope)(Nc:At)(f c:Addr)(s:Qb)(H:Hp):Cx where
 prog:=X.prog
 w:=X.w
 K:=X.K
 mg:=X.mg
 base:=X.base
 A:=A.deeper (envX q scope s.heap.objs.size f Qfl Qca)
 N:=Nc
 iE:=s
 kc:=H
 env:=envX q scope s.heap.objs.size f Qfl Qca
 outer:=X.stack
 stack:=envX q scope s.heap.objs.size f Qfl Qca::X.stack
 ex:=[]
 fn:=λ_=>false
 calm:=true
 pn:=[]
 xe:=λ_ _=>False
variable{A:Qas}{f c:Addr}
def Xg(sc:iI X scope x Nc ix)(I:Qa7)(hA:Qvu)(hh:Qeb){tk:Nat}{u:Value}(r:QcM)
  (hn:h'.Ns s.heap.objs.size (λy=>([(x,u)]:DO).reverse.lookup y)) (B:∀b o,s.heap.get? b=some o->h'.get? b=some o) :
  L2.Inv Qf3 [] (Au Y ix QaQ) H {s with heap:=h',toks:=tk}:=by
 have frees:∀y∈scope.names,y.2=.free->∃c,X.env.cells.lookup y.1=some c:=λy F e=>I.ok.has y.1 (sc.frees y F e).2;have sub:∀{y:Str} {c:Addr},(eO X.env scope.names []).lookup y=some c->X.env.cells.lookup y=some c:=λ{y c} e=>qK frees (λ_ _ z=>by cases z) e;have hlen:(Au Y ix QaQ).length=Nc.length:=by
  have all:∀l:Cn,(∀i∈l,∃y,X.N[i]? = some y/\scope.names.lookup y=some .free)->(l.filterMap (X.N[·]?)).length=l.length:=by
   intro l
   induction l with
   | nil=>intro _;rfl
   | cons i r D=>
    intro h;obtain⟨y,e,_⟩:=h i gk;rw[m4,e];show _+1=_+1;rw[D λj t=>h j (ij _ t)]
  unfold Au;rw[sc.hd,mi,mi,cK,all ix sc.rb]
 have nil:∀b:Addr,b∉(BP X A q scope Nc f c s H).ex:=λb z=>absurd (show b∈([]:BY) from z) Wp;refine⟨⟨I.ok.mod,sc.kind,rfl,rfl,ik _,λy z c h1 h2=>I.ok.inj y z c (sub h1) (sub h2),λy F=>?_,λy c hf _=>(by cases (show false=true from hf)),λ_=>hh,Around.frames_deeper hA,.inr ⟨rfl,rfl⟩,λb K=>absurd K (nil b),I.bs,ky I.ok.YV I.sz,λb o _=>nil b,λb K=>absurd K (nil b),I.stack,I.Cw⟩,
  rfl,I.bare,Un.kept B,⟨_,hn,λi y w h1 h2 h3=>?_⟩,λy c e=>?_,I.cR.fresh (ik _),λy c e=>I.lB y c Qhu,λp W=>absurd (show p∈([]:BC) from W) Wp,I.cR.kept B,hlen⟩
 .have E:scope.names.lookup y=some .cell\/scope.names.lookup y=some .free:=F;obtain z|z:=E
  .exact absurd rfl (sc.As _ (pw z))
  .exact nF z
 .unfold Au at h2;cases i with
  | zero=>
   have d:some QaQ=some (some w):=h2;cases d;have e:y=x:=by
    have g:Nc[0]? = some y:=h1;rw[sc.hd]at g;exact(l5 g).symm
   subst e;refine⟨u,r,.inl ⟨sc.own,?_⟩⟩;simp
  | succ i=>
   rw[LG,j2]at h2;cases C:ix[i]? with
   | none=>rw[C]at h2;cases h2
   | some j=>
    rw[C]at h2;have d:(Y[j]?).getD none=some w:=l5 h2;have t:Y[j]? = some (some w):=by
     cases q:Y[j]? with
     | none=>rw[q]at d;cases d
     | some o=>rw[q]at d;exact congrArg some d
    obtain⟨m,n,k⟩:=sc.rb j (kA C);have L:Nc[i+1]? = some m:=by
     have all:∀(l:Cn) (i:Nat),(∀j∈l,∃y,X.N[j]? = some y/\scope.names.lookup y=some .free)->l[i]? = some j->(l.filterMap (X.N[·]?))[i]? = some m:=by
      intro l
      induction l with
      | nil=>intro i _ h;simp at h
      | cons a r D=>
       intro i h hi;obtain⟨ya,M,_⟩:=h a gk;rw[m4,M];cases i with
       | zero=>
        simp at hi;subst hi;rw[n]at M;cases M;rfl
       | succ i=>exact D i (λj t=>h j (List.mem_cons_of_mem _ t)) (by simpa using hi)
     rw[sc.hd,LG];exact all ix i sc.rb C
    have ey:m=y:=by
     have g:Nc[i+1]? = some y:=h1;rw[L]at g;exact l5 g
    subst ey;have P:=(sc.frees (m,.free) (pw k) rfl).2;have O:r0 X.env.scope m:=P.elim Qss QrT;obtain⟨m0,Z,J⟩:=I.loc;obtain⟨U,V,lk⟩:=J j m w n t O;refine⟨U,V,?_⟩;obtain⟨kk,_⟩|⟨_,c',hc,T⟩:=lk
    .obtain z|z:=P
     .rw[kk]at z;cases z
     .rw[kk]at z;cases z
    .obtain⟨R,S⟩:=nF (env:=X.env) (cs:=[]) k;have:R=c':=by
      have:=sub S;rw[hc]at this;exact(l5 this).symm
     subst this;obtain⟨o,G,hd⟩:=T;exact .inr ⟨.inr k,R,S,o,B _ _ G,hd⟩
 .obtain⟨v,o,G,hd⟩:=I.cell y c Qhu;exact⟨v,o,B _ _ G,hd⟩
def aaA{u:Value}{Q:VK}(sc:iI X scope x Nc ix)(I:Qa7)(F:Qvu)(D:Qeb)(k:A.depth<recursionLimit)
  (hf:H f=some Qk3) (E:H c=some Qcu) (r:QcM)
  (L:∀cl pm cd ct u,bindArgs QpY ⟨[u],[]⟩=pure [(x,u)]) (j:QtQ) (l:QtR)
  (h:yJ Qf3 body (Au Y ix QaQ) H Q):wpAny Qe A Qjc Qa9 Qbi s:=by
 obtain⟨⟨pm,K,C⟩,_⟩:=I.cR _ _ hf;obtain⟨oc,vs,t,e1,e2,G⟩:=I.cR _ _ E;refine wpAny_call (PySem.W.kla_callFunE k C rfl j l rfl ⟨c,oc,vs,t,rfl,e1,e2,G⟩ ?_);rw[L];refine i2 (wpAny_newFunctionEnv sc.As (λy p=>?_) (λa i g=>?_) sc.kind)
 .rw[kx.1 p];exact sc.own
 .have m:∀b o,s.heap.get? b=some o->a.get? b=some o:=λb o e=>(g.2 b Qg8).trans Qfs;refine⟨I.nolimit.keeps m,?_⟩;have J:=Xg (q:=q) (f:=f) (c:=c) (tk:=s.toks+([(x,u)]).length) sc I F D r i m;refine PySem.W.kla_codeExpr (la (h [] _ J) (λw s' hl=>?_) λe s' z=>False.elim z);obtain⟨v',H',d,n,B⟩:=hl;exact I.after ⟨v',H',d.os,d.bare,d.base,d.cR,n,B⟩
variable{kS:Addr}{e1:Nat}{P:Qr9}
def CQ(I:Qa7)(fp:lR X pins H it)(g:Obj->Obj):L2.Inv X pins Y H {s with heap:=s.heap.update it g}:=by
 have s1:=w8 s.heap it g;exact I.turned (λb o n q=>(s1.2 b n).trans q) fp.1 fp.2.1 fp.2.2.2.1 fp.2.2.2.2.1 fp.2.2.2.2.2
theorem UR{st:SortSt}{keys:Cl}{e:Nat}(I:Qa7)(j:Qoo)(k:QgZ)(d:kS≠a)(ok:s.heap.get? kS=some Qs4)(g:s.heap.get? a=some (seqObj "list" #[] e1))
  (i:keys.size<64) (hsz:(arrOf st).size<64) (o:failedOf st=none)
  (h:∀s' c,L2.Inv X pins Y H s'->s'.heap.get? a=some (seqObj "list" ((arrOf st).map (·.2)) c)->P QiD s') :
  wpAny Qe A (ksk_tail a false e1 (.ref kS) st) P E s:=by
 have s1:=w8 s.heap kS (Obj.mapSeq λ_=>(#[]:Cl));have m:=CQ I j (Obj.mapSeq λ_=>(#[]:Cl));have b:(s.heap.update kS (Obj.mapSeq λ_=>(#[]:Cl))).get? a=some (seqObj "list" #[] e1):=(s1.2 a d.symm).trans g;have l:=CQ m k (Obj.mapSeq λ_=>(arrOf st).map (·.2));obtain⟨f,n⟩:∃f,((s.heap.update kS (Obj.mapSeq λ_=>(#[]:Cl))).update a (Obj.mapSeq λ_=>(arrOf st).map (·.2))).get? a=some (seqObj "list" ((arrOf st).map (·.2)) f):=
  ⟨_,get?_update_seq b λ_=>(arrOf st).map (·.2)⟩
 unfold ksk_tail
 try dsimp only
 refine ec (listUpdate_at ok rfl ?_ (by rw[ko];lia) (i8 _));refine ec (wpAny_letGo ?_);refine ec (seqEpoch_at b rfl ?_);refine ec (listUpdate_at b rfl ?_ (i8 _) (by simp only[pj,n3,Array.size_map];rw[ko];lia));rw[o];simp only[bne_self_eq_false,pj,n3];exact i2 (h _ f l n)
noncomputable def wj{b:Addr}(fp:lR X pins H b)(h:H' b=none):lR X pins H' b:=⟨h,fp.2⟩
def aoA(X:Cx)(CL:BM)(q:Str)(scope:Scope)(Nc:At)(body:Expr)(δc:BB)(ds:BA)(g:D->Int):Prop:=
 ∀f c s0 b a d,d∈ds->cN (BP X X.A.in1.in1 q scope Nc f c s0 b) CL a body Qgz (.int (g d)) Qgz
def SS(h1:Nc[i]? = some x)(h2:Qie)(hd:AD x:=by decide)(iV:AE x:=by decide):Vn Qf3 i x:=⟨h1,.inl h2,hd,iV⟩
def JX(h1:Nc[i]? = some x)(h2:Qlw)(hd:AD x:=by decide)(iV:AE x:=by decide):Vn Qf3 i x:=⟨h1,.inr (.inr h2),hd,iV⟩
noncomputable def Q7(h2:Qk6):Gl Qf3 x:=h2
theorem akk{B:Type}{arg:B->BA}{Pre:B->Prop}{res:B->T}(F:Qf7)(r:QgY):Fc (BP X X.A.in1.in1 q scope Nc f c s H) CL x k n arg Pre res:=
 ⟨F.ex,⟨r.hd,by have:=r.dp;show X.A.depth+1+3*k+5<_;lia,by have:=r.un;show X.A.units+1+1+3+16*k+200<_;lia⟩⟩
def DP(mg:Bi)(base:Heap):Prop:=∃bm o,mg "__builtins__" = some (.ref bm)/\bm≠builtinsNs/\bm≠mainGlobals/\base.get? bm=some o/\o.cls=.type "module" /\ o.dict=some builtinsNs/\o.data=.plain
def M1{CX:YW}{P:Qag}{w:World}{eB:Value}{outer:D1}{E:XK}{tx:Str}
  (bl:DP mg base) (a:K.In base) (e:fd.code=eB) (hf:fd.code=.ref c) (hd:codeHdIn K c (CL tx)=true) (h0:CL tx≠0) (d:Ng tx=q:=by decide +kernel) (b:HK tx=true:=by decide +kernel) (hn:qual++".<locals>." ++ "<lambda>" = q:=by decide +kernel) :
  xc (tN CX P w K mg base N qual scope f eB A outer s H E).Qe CL tx q:=
 ⟨⟨c,e.symm.trans hf,codeHd_of_K a hd⟩,bl,hn,b,h0,d⟩
abbrev _root_.Cs:=List (Addr×Str)
def spT(K:Frag)(ts:Cs){A:Type}(n:Nat)(arg:Qaj)(Pre:Q2)(res:QaU):Sp:=λvs H Q _=>
 ∃(W:Hp) (a:A),aB W H/\(∀c o,H c=some o->ju o=true->W c=some o)/\ay K Qoe W Qcn vs/\(arg a).length=n/\Pre a/\(∀p∈ts,W p.1=some QcH) ∧
  ∀v H' W' fp,aB H H'->aB W W'->aB W' H'->(∀c o,W' c=some o->W c=none->H c=none)->(∀c o,H' c=some o->ju o=true->W' c=some o) →
   bD K Qoe H' W' QbL v fp->fp.Nodup->(∀c∈fp,W' c=none/\H c=none)->Q v H'
def afb{ts:Cs}{arg:AT->BA}{pre:AT->Prop}{res:AT->T}(j:∀a,arg a=[.lst QeX])(h:∀a,res a=.sh QbA)(h0:∀x,HK x=true->CL x≠0->(CL x,Ng x)∈ts) :
  ∀(vs:B0) (H:Hp) (Q:VK) (E:XK),spT K ts 1 arg pre res vs H Q E->Qf K CL 1 arg pre res vs H Q E:=by
 rintro vs H Q E ⟨W,a,h1,h2,c,o,n,m,k⟩;have b:∀{l:AT} {us:B0},ay K Qoe W QbY us->ay K CL W QbY us:=by
  intro l
  induction l with
  | nil=>intro us r;cases r;exact .nil
  | cons i l f=>
   intro us r;cases r with
   | cons r t=>cases r;exact .cons Qba (f t)
 refine⟨W,a,h1,h2,?_,o,n,λx g e=>m _ (h0 x g e),λv H' W' fp a1 a2 a3 a4 a5 r nd own=>k v H' W' fp a1 a2 a3 a4 a5 ?_ nd own⟩
 .rw[j]at c ⊢;cases c with
  | cons r t=>
   cases t;obtain⟨_,_,rfl,q,d⟩:=r.gT;exact .cons (.lst q (b d)) .nil
 .rw[h]at r ⊢;replace r:=r.F4;obtain⟨rfl,r⟩:=r;cases r;exact .sh Qfi
theorem afc{ts:Cs}{arg:AT->BA}{pre:AT->Prop}{res:AT->T}{ns:AT}(f:arg ns=[.lst (ns.map D.int)])(b:pre ns)(d:res ns=.sh QbA)(g:mJ K H a QcC)(c:∀p∈ts,H p.1=some QcH) :
  spT K ts 1 arg pre res [.ref a] H (λv H'=>v=.bl true/\∀p∈ts,H' p.1=some QcH) λ_ _ _=>False:=
 ⟨H,ns,.refl _,λ_ _ q _=>q,f ▸ .cons (.lst g (Nn ns)) .nil,WA,b,c,λv H' W' fp e _ _ _ _ r _ _=>by
  refine⟨?_,λp b=>e _ _ (c p b)⟩;rw[d]at r;replace r:=r.F4;obtain⟨rfl,r⟩:=r;exact r.sc rfl⟩
theorem qj:∀{ts:Cs} {b:Addr} {q:Str},ts.lookup b=some q->(b,q)∈ts
 | [],_,_,e=>by cases e
 | (c,x)::r,b,q,e=>by
  rw[mf]at e;cases a:b==c with
  | true=>rw[a]at e;grind
  | false=>rw[a]at e;exact .tail _ (qj e)
def Xh{P:Qag}{w:World}{mb:Bi}{R:Addr}{sp:Sp}{f:Qb}{vs:B2}{ns:AT}{ts:Cs}
  (Z:K.In f.heap) (C:f.heap.Ns mainGlobals mg) (i:f.heap.Ns builtinsNs mb) (M:∀x:Str,x≠"__name__"->mb x=bootBuiltins x) (T:f.heap.NoLimit) (hg:f.gens=#[]) (L:DP mg f.heap)
  (D:f.heap.get? a=some {cls:=.type "list",data:=.seq vs.toArray}) (hi:IntsAre vs ns) (hl:ns.length<=sizeLine) (hr:fj k callerA)
  (A:∀p∈ts,f.heap.get? p.1=some (tabObj #[])/\ts.lookup p.1=some p.2/\K.lookup p.1=none/\∃c,CodeHd f.heap c p.1)
  (F:∀base:Heap,K.In base->base.Ns mainGlobals mg->DP mg base->dz P w K mg base oj k R fd [x] sp) (Nx:∀(s:Qb) (u:Value),BindsTo s fd ⟨[u],[]⟩ [(x,u)])
  (Hz:∀H:Hp,mJ K H a QcC->(∀p∈ts,H p.1=some QcH)->sp [.ref a] H (λv H'=>v=.bl true/\∀p∈ts,H' p.1=some QcH) λ_ _ _=>False) :
  codeAny Qcq callerA QqY Qpv f:=by
 have W:=HF hi;have S:=hi.length;have Y:∀p∈ts,p.1≠a:=λp g z=>by
  have:=(A p g).1;rw[z,D]at this;cases this
 have core:∀H:Hp,(∀b,H b=none\/(∃o xs,b=a/\H b=some (.cu o Qbo))\/∃p∈ts,b=p.1/\H b=some QcH)->mJ K H a QcC->(∀p∈ts,H p.1=some QcH)->tE P w H f.heap->(H a≠none->K.lookup a=none) →
   codeAny Qcq callerA QqY Qpv f:=by
  intro H N hS hH cR hK;have B:∀{b:Addr} {o:Obj},f.heap.get? b=some o->o≠{cls:=.type "list",data:=.seq vs.toArray}->o≠tabObj #[]->H b=none:=λ{b o} e d1 d2=>by
   obtain q|⟨_,_,z,_⟩|⟨p,g,z,_⟩:=N b
   .exact q
   .rw[z,D]at e;exact absurd (l5 e).symm d1
   .rw[z,(A p g).1]at e;exact absurd (l5 e).symm d2
  have U:∀{b:Addr} {o:Obj},f.heap.get? b=some o->H b=none->(F8 f.heap H).get? b=some o:=λe n=>Zc e n;have l:∀{b:Addr} {m:Bi},f.heap.Ns b m->(F8 f.heap H).Ns b m:=λ{b m} ⟨o,es,ep,e,d,r⟩=>⟨o,es,ep,U e (B e (λz=>by rw[z]at d;cases d) λz=>by rw[z]at d;cases d),d,r⟩;have E:K.In QjE:=λb o e=>U (Z b o e) (by
   obtain q|⟨_,_,z,q⟩|⟨p,g,z,_⟩:=N b
   .exact q
   .subst z;rw[hK (by rw[q];simp)]at e;cases e
   .rw[z,(A p g).2.2.1]at e;cases e)
  have hM:Mod K mg QjE:=⟨E,l C,⟨mb,l i,M⟩,let ⟨mc,h1,h2⟩:=T;⟨mc,l h1,h2⟩⟩;have O:DP mg QjE:=by
   obtain⟨bm,o,b1,b2,b3,X,b5,b6,G⟩:=L;exact⟨bm,o,b1,b2,b3,U X (B X (λz=>by rw[z]at G;cases G) λz=>by rw[z]at G;cases G),b5,b6,G⟩
  have e0:Qx P w K mg QjE callerA [] f H:=⟨rfl,hM,λb o e=>ad3 e,Nat.le_of_eq (Wi _ _),trivial,λb i=>absurd (show b∈([]:BY) from i) Wp,cR,.of_eq hg⟩;refine codeAny_mono ((F _ E (l C) O).run callerA [] f H ⟨[.ref a],[]⟩ [.ref a] [.ref a] _ _ hr e0 (Nx f Q3) (.cons rfl .nil) (Hz H hS hH)) λr s' h=>?_;cases r with
  | error e=>exact h.elim
  | ok fl=>
   cases fl with
   | next=>exact False.elim h
   | brk=>exact False.elim h
   | cont=>exact False.elim h
   | ret u=>
    obtain⟨v,H',os,bare,un,I,r',q,qt⟩:=h;subst q;obtain rfl:u=Value.bool true:=r';have tabAt:∀p∈ts,∃ps:Cl,s'.heap.get? p.1=some (tabObj ps):=λp g=>by
     obtain⟨ps,e,_⟩:=I _ _ (qt p g);exact⟨ps,e⟩
    have keep:∀b o,f.heap.get? b=some o->(∀p∈ts,b≠p.1)->s'.heap.get? b=some o:=λb o e y=>by
     obtain q|⟨ob,xs,z,q⟩|⟨p,g,z,_⟩:=N b
     .exact un.keep b o e q (by intro z;exact absurd (show b∈([]:BY) from z) Wp) Wp
     .have z2:=un.cD b ob _ q;obtain⟨e1,_⟩:=cR b _ q;obtain⟨e2,_⟩:=I b _ z2;rw[e]at e1;cases e1;exact e2
     .exact absurd z (y p g)
    refine⟨rfl,⟨λb o e=>?_,λb o e=>?_⟩,os,bare⟩
    .by_cases y:∀p∈ts,b≠p.1
     .exact .inl (keep b o e y)
     .obtain⟨p,g,rfl⟩:∃p∈ts,b=p.1:=Classical.byContradiction λq=>y λp g z=>q ⟨p,g,z⟩;obtain⟨h1,_,_,c,hc⟩:=A p g;obtain⟨ps,e2⟩:=tabAt p g;rw[h1]at e;cases e;exact .inr (.inl ⟨(hc.tab h1).isCodeTable,rfl,#[],ps,rfl,by rw[Array.empty_append];exact e2⟩)
    .by_cases y:∀p∈ts,b≠p.1
     .exact⟨o,keep b o e y⟩
     .obtain⟨p,g,rfl⟩:∃p∈ts,b=p.1:=Classical.byContradiction λq=>y λp g z=>q ⟨p,g,z⟩;obtain⟨ps,e2⟩:=tabAt p g;exact⟨_,e2⟩
 have tok:∀{H:Hp} {b:Addr} {q:Str},ts.lookup b=some q->dU P w H f.heap b (.tabs q):=λ{H b q} e=>by
  obtain⟨h1,_⟩:=A (b,q) (qj e);exact⟨#[],h1,trivial,λpos cv z=>by simp[codeAmong]at z⟩
 cases J:K.lookup a with
 | some o=>
  have e:=Z a o J;rw[D]at e;cases e;refine core (λb=>(ts.lookup b).map HO.tabs) (λb=>?_) (.inr ⟨_,vs.toArray,_,J,rfl,rfl,rfl,by rw[List.size_toArray,S];exact hl,by simpa using W⟩) (λp g=>?_) (λb u z=>?_) λz=>?_
  .cases q:List.lookup b ts with
   | none=>left;rfl
   | some t=>right;right;exact⟨(b,t),qj q,rfl,rfl⟩
  .show(ts.lookup p.1).map HO.tabs=_;rw[(A p g).2.1];rfl
  .have j:(ts.lookup b).map HO.tabs=some u:=z;cases q:List.lookup b ts with
   | none=>rw[q]at j;cases j
   | some t=>rw[q]at j;cases j;exact tok q
  .exfalso;apply z;show(ts.lookup a).map HO.tabs=none;cases q:ts.lookup a with
   | none=>rfl
   | some t=>exact absurd rfl (Y (a,t) (qj q))
 | none=>
  refine core (λb=>if b=a then some (.cu {cls:=.type "list",data:=.seq vs.toArray} (.lst QcC)) else(ts.lookup b).map HO.tabs) (λb=>?_) (.inl (.inr ⟨{cls:=.type "list",data:=.seq vs.toArray},cq rfl⟩)) (λp g=>?_) (λb u z=>?_) λ_=>J
  .by_cases i:b=a
   .exact .inr (.inl ⟨_,_,i,cq i⟩)
   .cases q:List.lookup b ts with
    | none=>left;rw[bX i];rfl
    | some t=>right;right;exact⟨(b,t),qj q,rfl,by rw[bX i];rfl⟩
  .show(if p.1=a then _ else(ts.lookup p.1).map HO.tabs)=_;rw[bX (Y p g),(A p g).2.1];rfl
  .by_cases i:b=a
   .have j:=(cq i).symm.trans z;cases j;subst i;exact⟨D,by rw[cK];exact hl,vs,_,W,D⟩
   .have j:(ts.lookup b).map HO.tabs=some u:=(bX i).symm.trans z;cases q:List.lookup b ts with
    | none=>rw[q]at j;cases j
    | some t=>rw[q]at j;cases j;exact tok q
def aaC{l:QnN}{q:Qag}{loose:At}{XP:Qnq}{B:QmE}{d:DefRec}{K:Params->Frag}{sp:World->Cs->Sp}{T0:BY}
  (hn:QoW) (m:n<=sizeLine) (t:QmQ) (L:fj k callerA)
  (O:∀(w:World) (h:Heap),B w h->(K w.params).In h) (R:∀(w:World) (h:Heap),B w h->∀P∈T0,h.get? P=some (tabObj #[]))
  (F:∀(w:World) (mg:Bi) (j:Addr) (h:Heap),(K w.params).In h->h.Ns mainGlobals mg->mg d.name=some (.ref j) →
   ∃(fd:QaT) (ts:Cs),(∀p∈ts,p.1∈T0/\ts.lookup p.1=some p.2/\(K w.params).lookup p.1=none/\∃c,CodeHd h c p.1)/\(∀(s:Qb) (u:Value),BindsTo s fd ⟨[u],[]⟩ [(x,u)]) ∧
    ∀base:Heap,(K w.params).In base->base.Ns mainGlobals mg->DP mg base->dz l.prog w Qg3 mg base oj k j fd [x] (sp w ts))
  (Hz:∀(w:World) (ts:Cs) (H:Hp) (a:Addr) (ns:AT),ns.length<=n->mJ Qg3 H a QcC->(∀p∈ts,H p.1=some QcH)->sp w ts [.ref a] H (λv H'=>v=.bl true/\∀p∈ts,H' p.1=some QcH) λ_ _ _=>False) :
  PySem.W.WalkO q loose XP B l.row.toRowW d [] Qls:=by
 refine Att.M9 hn t λw iE C mg mb j o pm cd doc a vs ns G Y ho hd iV r A hints hlen M=>?_;have E:=O w _ Y;obtain⟨fd,ts,i,N,U⟩:=F w mg j _ E G.T.g r;obtain⟨bm,I,b1,b2,b3,Z,X,z⟩:=G.T.bmain;have y:bm≠mainGlobals:=λq=>by
  obtain⟨o,es,ep,e,hd,_⟩:=G.T.g;rw[q,e]at b3;cases b3;rw[hd]at z;cases z
 exact Xh E G.T.g G.T.b G.T.builtins G.T.nolimit M ⟨bm,I,b1,b2,y,b3,Z,X,z⟩ A hints (ky hlen m) L (λp D=>⟨R w _ Y _ (i p D).1,(i p D).2⟩) U N λH S J=>Hz w ts H a ns hlen S J
noncomputable def Zl(y:Int):Value->Bool
 | .int i _=>i==y
 | _=>false
theorem aaD:Hc X "list.index" (λx xs H Q=>∃(p:Addr) (l:AT) (y:Int) (j:Nat),x=.ref p/\xs=[.int y]/\mJ X.K H p QbY/\l[j]? = some y/\(∀i,i<j->l[i]? ≠ some y)/\Q Qjr H):=by
 intro pins s Y H x xs v us Q I o rs h;obtain⟨p,l,y,j,rfl,rfl,C,f,b,q⟩:=h;cases o;obtain⟨u,rfl,A⟩:=rs.one;obtain⟨t,rfl⟩:=A;obtain⟨its,r,⟨⟨oc,od,B,F3⟩,n,e,g,hd,hs⟩,hz⟩:=I.list C;dsimp only at g hd hs;subst g hd hs;have hi:=intsAre_of r;have at':∀{i:Nat} (hi:i<its.toArray.size),∃k t,its.toArray[i]=.int k t/\l[i]? = some k:=λ{i} a=>by
  have D:i<its.length:=by simpa using a
  have hl:i<l.length:=by have:=r.length;rw[cK]at this;lia
  obtain⟨u,e1,e2⟩:=r.get (i:=i) (x:=.int l[i]) Wp;obtain⟨t,rfl⟩:=e2;simp_all
 have d:j<its.toArray.size:=by
  have h1:=(lr.1 f).1;have:=r.length;rw[cK]at this;simp;lia
 have hsz:its.toArray.size<=sizeLine:=by
  have:=r.length;rw[m3,<- this];exact hz
 refine rp FX ⟨_,e,rfl⟩ F.entry_list_index Qsv (SeqAt.list_indexAt p its.toArray n none F3 (.int y t) (Zl y) j d (by rw[ko]at hsz;lia) ?hit λm hm c=>?no) ⟨e,λw hw=>?eqs,?_⟩
 case hit=>
  obtain⟨k,t',e1,e2⟩:=at' d;rw[e1];rw[f]at e2;cases e2;exact vc y
 case no=>
  obtain⟨k,t',e1,e2⟩:=at' hm;rw[e1];exact n4.2 λz=>b m c (by rw[e2,z])
 case eqs=>
  obtain⟨i,a,rfl⟩:=Array.mem_iff_getElem.1 hw;obtain⟨k,t',e1,e2⟩:=at' a;rw[e1];exact SeqAt.EqAt.int_int k t' y t
 exact⟨.int (j:Int),H,I.tok _,⟨_,rfl⟩,q⟩
variable{o:Expr}{apos:Pos}
def aaF{l:AT}{y:Int}(h1:cN X CL b o U (.lst QbY) δ1)(h2:cN X CL b e δ1 (.int y) U2)(s:l[j]? = some y)(d:∀i,i<j->l[i]? ≠ some y)
  (r:Qp4:=by rfl) (m:((backTo pos QmB).all Qjp&&(backToKw pos QhJ).all QiA
   && decide (([e]:Ch).length+([]:Ev).length+QhZ<30))=true:=by rfl)
  (c:Qsa:=by rfl) (hs:Qan:=by exact aZ rfl) (v:(backTo pos QmR).any (·.1)=false:=by rfl) :
  bY X CL b Qqf U (.sh Qjr) U2:=λH Z Y ts vs Q S k=>
 cz (HD F.plainAttrs_list FX F.type_list_index aaD cL QaH r m c hs v) (h1 H Z Y ts vs _ S λv1 H1 Z1 h k1 u q=>by
  obtain⟨a,us,rfl,f,n⟩:=q.gT;have:=Ay n;subst this;refine⟨?_,h2 H1 Z1 Y ts vs _ u λv2 H2 Z2 g k2 t p=>?_⟩
  .exact .inl ⟨rfl,_,f⟩
  .cases p;exact⟨a,l,y,j,rfl,rfl,k2.seq f,s,d,k _ H2 Z2 Qg9 Qac (t.push Qbq)⟩)
theorem UT(r:fj k A):A.depth<recursionLimit:=by
 have:=r.dp;lia
variable{y:Str}{g:L3.D->T}
def aaG(sc:QfN)(G:Qa6)(h:cN X CL b iter U QcB δ1)(cl:∀d∈ds,(g d).clean=true)(inner:Block X CL scope Nc ifs elt (Dy δ1 ix) ds p g)(hlen:Qb7)
  (hs:Qcv:=by intro _;rfl) (n1:AD y:=by decide) (B:AE y:=by decide):bY X CL b QpU U QfZ δ1:=λH Z Y ts vs Q S k pins s I=>by
 rw[eval_ListComp];refine Ja (use:=none) rfl hs (tU (FI sc) I) sc.kind sc.names ?_;have hw:=(Ur (tg:=.Name y px) (cL (X:=X) (e:=iter))) pins s Y H (λJ H1=>∃Z1 us,aB Z Z1/\aB H H1/\bq X.K CL b H1 Z1 δ1 Y ts vs/\ay X.K CL H1 ds us/\(∀i H2,aB H1 H2->i<ds.length->J.go i H2)/\(∀i H2 x H',aB H1 H2->i<ds.length->J.oe i H2 x H'->H'=H2/\us[i]? = some x)/\∀H2,aB H1 H2->J.stop ds.length H2) I (h H Z Y ts vs _ S λv H1 Z1 n k1 f r=>by
  obtain⟨a,us,rfl,l,c⟩:=r.gT;refine⟨a,rfl,⟨us,l⟩,Z1,us,n,k1,f,c,λi H2 s hi=>?_,λi H2 y H' s hi j=>⟨j.1,j.2 us (s.seq l)⟩,λH2 s=>⟨us,s.seq l,by rw[c.length];exact ik _⟩⟩;have O:i<us.length:=by rw[<- c.length];exact hi
  exact⟨us,us[i],s.seq l,by simp[O]⟩)
 refine dP hw λv s1 h1=>dP h1 λE s2 zz=>?_;obtain⟨it,fp,tn,J,H1,e,N,L,st,hf,Z1,us,n,k1,f,c,go,A,u⟩:=zz;subst e;have t:∀i Z2 H2 x H',aB H1 Z2->aB Z2 H2->(∀a o,H2 a=some o->ju o=true->Z2 a=some o)->i<ds.length->J.oe i H2 x H'->∃Z3 d,ds[i]? = some d/\JN Z2 H2 Z3 H'/\bz X.K CL Z3 d x:=λi Z2 H2 x H' s1 s2 tp hi j=>by
  obtain⟨e,F⟩:=A i H2 x H' (s1.trans s2) hi j;subst e;obtain⟨d,hd,rd⟩:=c.QD F;exact⟨Z2,d,hd,.refl s2 tp,rd.mono s1⟩
 refine DE (xs:=[y]) (FI sc) G N L st hf (xC (W1:=H1) f f.zh Qr Qud (yM f ix) (JI sc inner n1 B) go t u hlen (.inr cl)) λD R s' H' m io P ch ci zz=>?_;obtain⟨Z',z,C,M⟩:=zz;obtain⟨m,hn⟩:=m;exact⟨m,hn,λh' w=>⟨.ref D,H',ci h' w,rfl,k _ H' Z' (n.trans z) (k1.trans C) M⟩⟩
def akn(h:QcV)(he:∀whole,isTrue e X.env whole=(do let v ← whole;standAt e.pos;holding [v] Qhg):=by intro _;rfl):sR X CL b e U (!ds.isEmpty) δ1:=λH Z Y ts vs Q S k=>
 yK (Zk cL he) (h H Z Y ts vs _ S λv H1 Z1 c k1 g r=>by
  obtain⟨a,us,rfl,f,d⟩:=r.gT;refine⟨_,.inl ⟨us,f,rfl⟩,?_⟩;have e:us.isEmpty=ds.isEmpty:=by
   have:=d.length;cases us<;>cases ds<;>simp at this ⊢
  rw[e];exact k H1 Z1 c k1 g)
def OA(ks:Cc):D:=.tup (ks.map DJ)
def tX(ks:Cc):T:=.tup ((ks.map DJ).map T.sh)
noncomputable def tu(kvs:Qo2)(k:Cc):Option α:=(kvs.find? λa=>decide Qhy).map (·.2)
def yS{p:QgW}{r:Qo2}{k:Cc}(e:p.1=k):tu (p::r) k=some p.2:=by simp[tu,e]
def yT{p:QgW}{r:Qo2}{k:Cc}(e:¬ p.1=k):tu (p::r) k=tu r k:=by simp[tu,e]
theorem xx.tr{b:Addr}{kvs:B1}{k:Cc}(e:Rd H a Qdf)(c:QoA):xx H a Qho Qki:=.inr ⟨kvs,k,b,e,rfl,c,rfl⟩
variable{d:D}
theorem Xi{ks:Cc}(r:aQ K CL H Z ((ks.map DJ).map T.sh) us fp):us=ks.map kV:=by
 induction ks generalizing us fp with
 | nil=>cases r;rfl
 | cons k ks b=>
  rw[kn,kn]at r;cases r with
  | cons r a=>
   replace r:=r.F4;obtain⟨rfl,r⟩:=r;rw[r.key,b a,kn]
theorem dO.length{kvs:Dx}{gs:B1}(h:QnS):kvs.length=gs.length:=
 dO.ind (P:=λkvs gs=>kvs.length=gs.length) rfl (λ_ _ i=>congrArg (· + 1) i) h
theorem dO.val{k:Cc}{kvs:Dx}{gs:B1}(h:QnS):(tu kvs k=none/\iX gs k=none)\/∃d v,tu kvs k=some d/\iX gs k=some v/\bz K CL Z d v:=
 dO.ind (P:=λkvs gs=>(tu kvs k=none/\iX gs k=none)\/∃d v,tu kvs k=some d/\iX gs k=some v/\bz K CL Z d v) (.inl ⟨rfl,rfl⟩) (λ{x d v _ _} r _ i=>by
  by_cases e:x=k
  .exact .inr ⟨d,v,yS e,nu e,r⟩
  .rw[yT (p:=(x,d)) e,lD (p:=(x,v)) e];exact i) h
theorem cG.length{kvs:CA}{gs:B1}(h:QfO):kvs.length=gs.length:=
 cG.ind (P:=λkvs gs _=>kvs.length=gs.length) rfl (λ_ _ i=>congrArg (· + 1) i) h
theorem cG.keys{kvs:CA}{gs:B1}(h:QfO):kvs.map (·.1)=gs.map (·.1):=
 cG.ind (P:=λkvs gs _=>kvs.map (·.1)=gs.map (·.1)) rfl (λ{x _ _ _ _ _ _} _ _ i=>congrArg (x::·) i) h
theorem cG.snoc{k:Cc}{kvs:CA}{gs:B1}{a:BY}(h:QfO)(q:bD K CL H Z t v a):cG K CL H Z (kvs++[(k,t)]) Qg0 (fp++(a++[])):=
 cG.ind (P:=λkvs gs fp=>cG K CL H Z (kvs++[(k,t)]) Qg0 (fp++(a++[]))) (by rw[ri,ri,ri];exact .cons q .nil) (λr _ i=>by
  rw[i3];exact .cons r i) h
theorem cG.at{k:Cc}{kvs:CA}{gs:B1}(h:QfO)(d:tu kvs k=some t)(nd:(kvs.map (·.1)).Nodup) :
  ∃v f1 f2 c,iX gs k=some v/\fp=f1++Qhv/\bD K CL H Z t v f2 ∧
   ∀{H':Hp} {t':T} {g:BY},(∀a∈f1++c,H' a=H a)->bD K CL H' Z t' v g->cG K CL H' Z QpP gs QjV:=by
 refine cG.ind (P:=λkvs gs fp=>tu kvs k=some t->(kvs.map (·.1)).Nodup->∃v f1 f2 c,iX gs k=some v/\fp=f1++Qhv/\bD K CL H Z t v f2 ∧
   ∀{H':Hp} {t':T} {g:BY},(∀a∈f1++c,H' a=H a)->bD K CL H' Z t' v g->cG K CL H' Z QpP gs QjV) (λe=>by cases e) (λ{x t0 v0 ts vs fp gp} r m i d nd=>?_) h d nd
 rw[kn,l4]at nd;by_cases e:x=k
 .subst e;rw[yS (p:=(x,t0)) rfl]at d;cases d;refine⟨v0,[],fp,gp,nu rfl,rfl,r,λ{H' t' g} j q=>?_⟩;have keep:(ts.map λb=>if b.1=x then(b.1,t') else b)=ts:=by
   have:∀b∈ts,(if b.1=x then(b.1,t') else b)=b:=λb l=>bX λ(e:b.1=x)=>nd.1 (by
    show x∈ts.map (·.1);rw[<- e];exact ip.2 ⟨b,l,rfl⟩)
   exact(mB this).trans (List.map_id _)
  rw[kn,cq rfl,keep];exact(show cG K CL H' Z ((x,t')::ts) ((x,v0)::vs) (g++gp) from .cons q (m.mono Qr λa f=>j a f))
 .rw[yT (p:=(x,t0)) e]at d;obtain⟨v,f1,f2,c,h1,h2,o,n⟩:=i d nd.2;refine⟨v,fp++f1,f2,c,by rw[lD (p:=(x,v0)) e];exact h1,by rw[h2,i3],o,λ{H' t' g} j q=>?_⟩;rw[kn,bX e,i3];exact .cons (r.mono Qr λa f=>j a (by simp[f])) (n (λa f=>j a (by rw[i3];exact iF _ f)) q)
theorem bq.ako{p:Addr}(S:Qao)(d:Qdt):aB H QiU/\bq K CL b QiU Z U Y (.dct []::ts) Qe5:=by
 obtain⟨fp,gp,e,r,nd,k⟩:=S.rep;have f:Z p=none:=S.zh.free d;have sh:aB H QiU:=aB.upd d;have keep:∀a∈fp++gp,a≠p:=λa c=>by
  have:∃o,H a=some o:=by
   obtain h|h:=iw.1 c
   .exact e.there a h
   .exact r.there a h
  obtain⟨o,q⟩:=this;exact aM q d
 refine⟨sh,⟨⟨fp,[p]++gp,e.mono Qr Qeu,.cons (.dct aC .nil) (r.mono Qr λa c=>au (keep a (by simp[c]))),?_,λa c=>?_⟩,S.bh.trans sh,S.zz,S.zh.trans sh,S.new,λa o q i=>?_,S.tab⟩⟩
 .refine(o3 (l₁:=fp) (l₂:=gp) (a:=p)).nodup_iff.2 QhY
 .rcases fP.1 ((o3 (l₁:=fp) (l₂:=gp) (a:=p)).mem_iff.1 c) with h|h
  .subst h;exact⟨f,S.bh.free d⟩
  .exact k a h
 .by_cases c:a=p
  .subst c;rw[aC]at q;cases q;cases i
  .rw[au c]at q;exact S.tp a o q i
theorem bq.JZ{ks:Cc}(S:bq K CL b H Z U Y (tX ks::ts) QaS):∃a,v=.ref a/\H a=some Qpj:=by
 obtain⟨fp,gp,e,r,nd,k⟩:=S.rep;cases r with
 | cons r _=>
  obtain⟨_,_,rfl,hz,c⟩:=r.lS;exact⟨_,rfl,by rw[<- Xi c];exact S.zh _ _ hz⟩
theorem bq.akp{k:Cc}{kvs:CA}(S:QbT)(hi:U[i]? = some (some QcF))(w:k∉kvs.map (·.1)) :
  ∃a gs,Y[i]? = some QjP/\H a=some QaB/\gs.length=kvs.length/\bq K CL b Qtk Z (U.set i (some Qgl)) Y ts vs:=by
 obtain⟨fp,gp,e,r,nd,kk⟩:=S.rep;obtain⟨v0,f1,f2,l,hv,o,rt,put,_⟩:=e.get hi;subst o;cases rt with
 | @dct a gs _ g x rs=>
  cases r with
  | @cons _ _ _ _ j f q1 s=>
   have ne:∀c∈QnA++Qd7,c≠a:=λc d e=>by
    subst e;have m:((f1++((c::g)++l))++Qd7).Perm QvT:=by
     rw[mv,<- mv];exact Quf
    exact(l4.1 Qub).1 d
   have y:putK gs k v=gs++[(k,v)]:=by
    unfold putK;rw[yI,bX];rcases n:iX gs k with _|z
    .exact l9
    .exfalso;refine w ?_;rw[rs.keys];unfold iX at n;cases hf:gs.find? λu=>decide (u.1=k) with
     | none=>rw[hf]at n;cases n
     | some q=>
      have h1:=List.find?_some hf;have h2:=IF hf;have:q.1=k:=l1 h1;rw[<- this];exact List.mem_map_of_mem h2
   refine⟨a,gs,hv,x,rs.length.symm,?_⟩;rw[y];have p:bD K CL (upd H a (.dT Qg0)) Z Qgl Q3 QnB:=
    .dct aC (cG.snoc (rs.mono Qr λc d=>au (ne c (by simp[d]))) (q1.mono Qr λc d=>au (ne c (by simp[d]))))
   have e2:=put (H':=upd H a (.dT Qg0)) Qr (λc d=>au (ne c (by
    obtain h|h:=iw.1 d
    .simp[h]
    .simp[h]))) p
   rw[g9 hv]at e2;have m:((f1++(QnB++l))++f).Perm ((f1++((a::g)++l))++Qd7):=by
    simp only[js,mv,i3];refine n7 f1 (List.Perm.cons a (n7 g ?_));rw[<- i3,<- i3];exact mI.append_right f
   exact S.QN rfl kk Wp e2 (s.mono Qr λc d=>au (ne c (by simp[d]))) QtL λc d=>m.mem_iff.1 d
variable{e1:Expr}{d:L3.D}{ps:Pos}{kvs:Qnn}{k:Cc}
def DQ:bY X CL b QeO U (.dct []) U:=λH Z Y ts vs Q S kk=>cz ZK λp a=>by
 obtain⟨c,d⟩:=S.ako a;exact kk _ _ Z Qr c d
theorem afd{kvs:CA}(k:Cc)(s:Qa0)(n:QaO)(h:QaJ)(h2:Qsw)(h1:δ1[i]? = some (some QcF))(l:k∉kvs.map (·.1))(hl:QiV)(kk:cQ X CL b dQ (δ1.set i (some Qgl)) DD)
  (hs:QpI:=by rfl) :
  cQ X CL b QqM U DD:=bS λH Z Y ts vs E S M=>
 lT QuC (h H Z Y ts vs _ S λv H1 Z1 j k1 f=>by
  obtain⟨v0,e0,_⟩:=f.look h1;refine⟨v0,e0,h2 H1 Z1 Y _ _ _ f λv2 H2 Z2 g k2 d=>?_⟩;obtain⟨r,rfl,o⟩:=d.JZ;obtain⟨a,gs,c,p,m,q⟩:=d.pop.akp h1 l;rw[e0]at c;cases c;exact⟨a,_,rfl,Jq.t p o (by rw[m];exact nq hl (by rw[ko];decide)),M.nx _ Y _ Z2 (j.trans g) q kk⟩)
theorem DR(k:Cc)(p:Qa0)(h1:cN X CL b e1 U QcF δ1)(h2:bY X CL b e2 δ1 (tX k) U2)(e:tu kvs k=some d)(hs:WK e2:=by exactλ_ _=>rfl):cN X CL b QcY U d U2:=λH Z Y ts vs Q S kk=>
 cz (UB We cL cL hs) (h1 H Z Y ts vs _ S λv H1 Z1 h k1 n j=>h2 H1 Z1 Y ts vs _ n λv2 H2 Z2 g k2 f=>by
  obtain⟨o,rfl,l⟩:=f.JZ;cases j with
  | @dct a gs _ m i=>
   have c:=i.mono k2;rcases c.val (k:=k) with⟨h0,_⟩|⟨d',v',h0,hv,rd⟩
   .rw[e]at h0;cases h0
   .rw[e]at h0;cases h0;refine⟨a,v',rfl,?_,kk v' H2 Z2 Qg9 Qac f.pop rd⟩;rw[<- hv];exact xx.tr (Rd.mono k2 m) l)
def Xj{gs:B1}(a:QnS):(iX gs k).isSome=(tu kvs k).isSome:=by
 rcases a.val (k:=k) with⟨h0,h1⟩|⟨d',v',h0,h1,_⟩
 .rw[h0,h1];rfl
 .rw[h0,h1];rfl
theorem aaH(k:Cc)(m:Qa0)(h1:bY X CL b e1 U (tX k) δ1)(h2:cN X CL b e2 δ1 QcF U2)(hm:Qf2) :
  sR X CL b QdB U (!(tu kvs k).isSome) U2:=λH Z Y ts vs Q S kk=>
 yK (Ak (WL We cL cL) hm) (h1 H Z Y ts vs _ S λv H1 Z1 e k1 j=>h2 H1 Z1 Y _ _ _ j λv2 H2 Z2 d k2 c g=>by
  obtain⟨l,rfl,h⟩:=c.JZ;cases g with
  | @dct a gs _ i f=>
   refine⟨a,iX gs k,rfl,xx.tr i h,_,rfl,?_⟩;rw[Xj f];exact kk H2 Z2 (e.trans d) Qac c.pop)
def Q8(h:cN X CL b e1 U .non δ1):sR X CL b QhR U true δ1/\bY X CL b QhR U (.sh QbA) δ1:=by
 constructor
 .exactλH Z Y ts vs Q S k=>yK Qov (h H Z Y ts vs _ S λv H1 Z1 a k1 c r=>by
   cases r;exact⟨_,rfl,by simpa using k H1 Z1 a k1 c⟩)
 .exactλH Z Y ts vs Q S k=>cz (aiX (Je cL)) (h H Z Y ts vs _ S λv H1 Z1 a k1 c r=>by
   cases r;exact by simpa using k _ H1 Z1 a k1 (c.push QbA))
def Q9:∀{tl:Bn} {us:B0} {g:BY},aQ K CL H Z (tl++[t]) us g->∃b u g1 g2,us=b++[u]/\g=g1++g2/\aQ K CL H Z tl b g1/\bD K CL H Z t u g2:=by
 intro tl
 induction tl with
 | nil=>
  intro _ _ h;cases h with
  | cons r a=>
   cases a;exact⟨[],_,[],_,rfl,js _,.nil,r⟩
 | cons _ _ e=>
  intro _ _ h;cases h with
  | cons r a=>
   obtain⟨b,u,g1,g2,e1,e2,d,c⟩:=e a;subst e1 e2;exact⟨_,u,_,g2,rfl,(i3 ..).symm,.cons r d,c⟩
theorem bq.afe(S:Qao)(hi:U[i]? = some Qf1) :
  ∃a us u,Y[i]? = some QjP/\H a=some (.lst (us++[u]))/\bq K CL b (upd H a Qe6) Z (U.set i QdX) Y Qb5 (u::vs):=by
 obtain⟨fp,gp,e,r,nd,k⟩:=S.rep;obtain⟨v0,f1,f2,f,hv,n,rt,put,_⟩:=e.get hi;subst n;obtain⟨a,us,g,rfl,rfl,m,rs⟩:=rt.gT;obtain⟨l,u,g1,g2,e1,e2,p,o⟩:=Q9 rs;subst e1 e2;have ne:∀c∈(f1++(QcJ++f))++gp,c≠a:=λc d e=>by
  subst e;have j:((f1++((c::QcJ)++f))++gp).Perm (c::((f1++(QcJ++f))++gp)):=by
   rw[mv,<- mv];exact Quf
  exact(l4.1 (j.nodup_iff.1 nd)).1 d
 refine⟨a,l,u,hv,m,?_⟩;have q1:bD K CL (upd H a (.lst l)) Z QeL Q3 (a::g1):=.lst aC (p.mono Qr λc d=>au (ne c (by simp[d])));have e2:=put (H':=upd H a (.lst l)) Qr (λc d=>au (ne c (by
  obtain h|h:=iw.1 d
  .simp[h]
  .simp[h]))) q1
 rw[g9 hv]at e2;have j:((f1++((a::g1)++f))++(g2++gp)).Perm ((f1++((a::QcJ)++f))++gp):=by
  simp only[mv,i3];refine n7 f1 (List.Perm.cons a (n7 g1 ?_));rw[<- i3,<- i3];exact mI.append_right gp
 exact S.write nd k (gk) ⟨_,m⟩ e2 (.cons (o.mono Qr λc d=>au (ne c (by simp[d]))) (r.mono Qr λc d=>au (ne c (by simp[d])))) (j.nodup_iff.2 nd) λc d=>j.mem_iff.1 d
section
variable{D:dw}{pa:Pos}
def akq(n:QaO)(h:U[i]? = some Qf1)(e:attributeBase QaP "pop" X.env Qu5=eval QaP X.env:=by rfl)(c:(pa.endLine==pos.line)=true:=by rfl) :
  Q5 X CL b (.Call (.Attribute QaP "pop" pa) [] [] pos) U t (U.set i QdX):=λH Z Y ts vs Q S k=>
 cz (ajy wy PySem.F.slot_list_pop PySem.F.type_list_pop ajz Qex e c) (by
  obtain⟨a,us,u,hv,d,f⟩:=S.afe h;refine⟨_,hv,.inl ⟨rfl,_,.inl (.inl d)⟩,?_⟩;refine⟨a,us++[u],u,rfl,rfl,d,Wp,?_⟩;rw[List.dropLast_concat];exact k u _ Z Qr f)
def aoD(h:U[i]? = some QaI)(q:t.cu=d)(k:cQ X CL b dQ Qi8 D):cQ X CL b dQ U D:=λH Z Y ts vs E S M=>by
 subst q;obtain⟨v,Z',_,z,a⟩:=S.UD h;exact k H Z' Y ts vs E a.pop (M.mono z)
def aaI:BD X QgK (λx y H Q=>∃a b ys,x=.ref a/\y=.ref b/\tL X.K H a []/\tL X.K H b ys/\Q Qho H):=by
 intro pins s Y H x y v u Q I k j h;obtain⟨a,b,ys,rfl,rfl,p,o,q⟩:=h;cases k;cases j;obtain⟨its,l,p1,_⟩:=I.tuple p;obtain⟨t,w,p2,_⟩:=I.tuple o;have e1:=l.CB.2 rfl;subst e1;obtain⟨⟨cls,dd,data,sl⟩,f,g,n,hd⟩:=id p1;obtain⟨⟨r,e,data2,d⟩,c,i,m,hd2⟩:=id p2;simp only at g hd i hd2;subst g hd i hd2;exact concat_meets ⟨_,f,rfl⟩ ⟨_,c,rfl⟩ noFill_tuple_add seq_tuple_add PySem.F.slot_tuple_add aAc (XN _ _)
   (tuple_addW0 a b #[] t.toArray n m dd e sl d rfl) ⟨f,c,.ref b,H,I,rfl,q⟩
def Ny(h1:QlV)(h2:Qq1)(l:JK≠[])(hz:QlE) :
  bY X CL b Qga U QtP U2:=by
 cases ds with
 | cons d ds=>exact aau h1 h2 Qtl l hz
 | nil=>
   intro H Z Y ts vs Q S k;exact cz (M4 aaI cL cL) (h1 H Z Y ts vs _ S λv1 H1 Z1 h k1 o=>h2 H1 Z1 Y _ _ _ o λv2 H2 Z2 g k2 a=>by
    have f:=a.Gi;have j:=a.pop.Gi;obtain⟨_,_,rfl,m,n⟩:=j.lS;cases n;have c:=f;obtain⟨_,_,rfl,e,i⟩:=f.lS;exact⟨_,_,_,rfl,rfl,aB.Gb a.zh m,aB.Gb a.zh e,k _ _ Z2 Qg9 Qac (a.pop.pop.push c)⟩)
def Ra:nj X Qjl (λxs H Q=>∃a kvs,xs=[.ref a]/\Rd H a Qbp/\∀p,H p=none->Q QbM (upd H p Qbp)):=by
 intro pins s Y H xs us Q I r h;obtain⟨a,kvs,rfl,d,q⟩:=h;obtain⟨u,rfl,b⟩:=vals1 r;cases b;exact ZL I d λp s' c e=>⟨.ref p,_,e,rfl,q p c⟩
theorem bq.afg{p:Addr}{kvs:Qm8}(S:Qao)(g:QgJ)(d:Qdt):aB H Qm9/\bq K CL b Qm9 Z U Y (.jt kvs::ts) Qe5:=by
 obtain⟨fp,gp,e,r,nd,k⟩:=S.rep;have f:Z p=none:=S.zh.free d;have sh:aB H Qm9:=aB.upd d;have keep:∀a∈fp++gp,a≠p:=λa c=>by
  have:∃o,H a=some o:=by
   obtain h|h:=iw.1 c
   .exact e.there a h
   .exact r.there a h
  obtain⟨o,q⟩:=this;exact aM q d
 refine⟨sh,⟨⟨fp,[p]++gp,e.mono Qr Qeu,.cons (.jt aC g) (r.mono Qr λa c=>au (keep a (by simp[c]))),?_,λa c=>?_⟩,S.bh.trans sh,S.zz,S.zh.trans sh,S.new,λa o q i=>?_,S.tab⟩⟩
 .refine(o3 (l₁:=fp) (l₂:=gp) (a:=p)).nodup_iff.2 QhY
 .rcases fP.1 ((o3 (l₁:=fp) (l₂:=gp) (a:=p)).mem_iff.1 c) with h|h
  .subst h;exact⟨f,S.bh.free d⟩
  .exact k a h
 .by_cases h:a=p
  .subst h;rw[aC]at q;cases q;cases i
  .rw[au h]at q;exact S.tp a o q i
def Rb:bootBuiltins "dict" = some Qjl:=by decide +kernel
def aaJ{kvs:Qm8}(hm:X.mg "dict" = none)(h:bY X CL b e U (.sh Qdg) δ1)(j:Gl X "dict")(hs:Qan:=by exact aZ rfl):bY X CL b (.Call (.Name "dict" pp) [e] [] pos) U Qdg δ1:=λH Z Y ts vs Q S k=>
 cz (jz Ra j hm Rb QaH (he:=hs)) (h H Z Y ts vs _ S λv H1 Z1 f k1 d=>by
  have r:=d.Gi;cases r with
  | @jt a gs _ l g=>
   refine⟨a,gs,rfl,.inl (d.zh _ _ l),λp i=>?_⟩;obtain⟨c,m⟩:=d.pop.afg g i;exact k _ _ _ f Qco m)
def afh(h:Qs0):sR X CL b QhR U false δ1:=λH Z Y ts vs Q S k=>
 yK Qov (h H Z Y ts vs _ S λv H1 Z1 a k1 c r=>by
   obtain⟨_,_,rfl,e,d⟩:=r.lS;exact⟨_,rfl,by simpa using k H1 Z1 a k1 c⟩)
end
end L3
namespace L2
open PySem PySem.Spec PyProof.Rows
noncomputable abbrev UW:B2:=[.type "ValueError",.type "Exception",.type "BaseException",.type "object"]
def fN(fr:D1)(h h':Heap):Prop:=∀b∈sY fr,∀o,h.get? b=some o->∃sl,h'.get? b=some {o with slots:=sl}
def HW(P:Qag)(w:World):YW:=λouter H s E ev s'=>∃(e C:Addr) (a0:Value) (B:Heap) (H':Hp),ev=.ref e/\s'.os=s.os/\AllBare s'.gens/\Heap.FlyingW B outer e Qai a0 s'.heap/\tE P w H' B ∧
 (∀h,s'.heap.UpToSlots h->B.StaysIn h->fN outer s.heap h->Un (sY outer) [] H H' s.heap h)/\fN outer s.heap s'.heap/\E Qai none H'
def XE(X:Cx)(W:XK):Value->Shared->Prop:=λev s'=>∃(e C:Addr) (pins:BC) (Y:St) (H H':Hp) (s:Qb),ev=.ref e/\Inv X pins Y H s/\W Qai none H'/\s'.os=s.os/\AllBare s'.gens ∧
 (H=H'/\Heap.MadeExcOf s.heap s'.heap e Qai []\/∃a0 B,(tE X.prog X.w H' B/\(∀h,s'.heap.UpToSlots h->B.StaysIn h->fN X.stack s.heap h->Un Qby [] H H' s.heap h)/\fN X.stack s.heap s'.heap) ∧
  (Heap.HeldW B X.stack e Qai a0 X.env.locals s'.heap\/Heap.FlyingW B X.stack e Qai a0 s'.heap))
section
variable{X:Cx}{pins:BC}{Y:St}{H:Hp}{s:Qb}
theorem fN.up{fr:D1}{h h1 h2 base:Heap}(a:fN fr h h1)(f:h1.FunFrames base fr)(u:h1.UpToSlots h2):fN fr h h2:=λb d o i=>by
 obtain⟨sl,e⟩:=a b d o i;obtain⟨_,o',g,hd⟩:=f.mem d;rw[e]at g;cases g;obtain⟨c,e2⟩:=u b _ e hd;exact⟨c,e2⟩
def afi{h base:Heap}{env:Env}{l outer:D1}(e:l=env::outer)(f:h.FunFrames base l):h.FunFrames base outer:=by
 subst e;exact f.2.2
theorem Inv.SO(I:QE):tE X.prog X.w H Ql9:=λa o e=>by
 refine(I.cR a o e).yz (λb u c q=>vl _ q λhm=>?_) (λb q=>q) (λb xs q=>q);have hn:=I.Cw b hm;simp_all
theorem Inv.SI(I:QE):s.heap.FunFrames Ql9 X.stack:=PySem.W.funFrames_hide I.stack λenv he a b=>List.mem_filterMap.2 ⟨env,he,b⟩
theorem Inv.akr(I:QE)(f:Qgk)(i:Qf0)(hex:X.ex=[])(h:Heap)(st:Qrv)(fr:fN X.outer X.iE.heap h):Un (sY X.outer) [] X.kc H X.iE.heap h:=by
 have u:=I.base;rw[hex]at u;have out:∀b o,X.iE.heap.get? b=some o->b∉sY _->b∉sY X.stack:=λb o a hn hm=>by
  rw[f]at hm;unfold sY at hm;rw[m4,i]at hm;obtain z|z:=fP.1 hm
  .have h1:=j0 a;have h2:=I.ok.above;rw[<- z]at h2;exact absurd h1 (Nat.not_lt.2 h2)
  .exact hn z
 refine⟨λb o a d hf c=>?_,λb o a d hf c=>fr b hf o a,u.free,λb o a c=>?_,u.xg,u.cD,u.xh⟩
 .exact st b o (vl _ (u.keep b o a d hf c) (out b o a hf))
 .obtain⟨o',g⟩:=u.there b o a c;by_cases hf:b∈sY X.outer
  .obtain⟨sl,e⟩:=fr b hf o a;exact⟨_,e⟩
  .exact⟨o',st b o' (vl _ g (out b o a hf))⟩
theorem Inv.Nz(I:QE)(hex:X.ex=[]):fN X.outer X.iE.heap s.heap:=λb a o c=>I.base.slot b o c (I.ok.oy b a) a WA
theorem Inv.aks(I:QE)(h:Heap)(st:Qrv)(fr:fN X.stack s.heap h):Un Qby [] H H s.heap h:=by
 refine⟨λb o a d hf c=>st b o (vl _ a hf),λb o a d hf c=>fr b hf o a,λb o _ q _=>q,λb o a c=>?_,λb xs q=>q,λb o u q=>q,λb ps q=>⟨#[],by rw[Array.append_empty];exact q⟩⟩;by_cases hf:b∈sY X.stack
 .obtain⟨sl,e⟩:=fr b hf o a;exact⟨_,e⟩
 .exact⟨o,st b o (vl _ a hf)⟩
theorem SH{W:XK}{ev:Value}{s':Qb}{F:BN}(c:Qgk)(j:Qf0)(hex:X.ex=[])(m:X.fs=sY X.outer)(h:XE X W ev s') :
  wpAny Qe X.A (leaving X.env ev) (λ_ k=>HW X.prog X.w X.outer X.kc X.iE W ev k) F s':=by
 obtain⟨e,C,pins,Y,H,H',s,rfl,I,hw,E,p,hm⟩:=h;have g:X.A.frames=some Qja:=by rw[I.ok.frames,c]
 have r:=E.trans I.os;have sub:∀b,b∈sY X.outer->b∈sY X.stack:=λb a=>by
  rw[c];unfold sY at a ⊢;simp_all
 obtain⟨rfl,hm⟩|⟨a0,B,⟨cR,un,fr⟩,hm⟩:=hm
 .have n:=I.SI;rw[c]at n;refine wpAny_leaves_madeW (base:=hideAll s.heap Qby) g j (λb o q=>y2 _ q) WA hm λh' t x K G v=>?_;refine⟨e,C,.ref t,_,H,rfl,r,p,x,I.SO,λh _=>I.akr c j hex h,?_,hw⟩;have f1:fN _ _ s'.heap:=λb a o l=>by
   obtain⟨sl,q⟩:=I.Nz hex b a o l;exact⟨sl,hm.keeps _ _ q⟩
  have f2:=(I.xj).of_keeps λb o a _=>⟨o,hm.keeps b o a,rfl⟩;exact f1.up f2 v
 .have fin:∀(h1:Heap),Heap.FlyingW B X.outer e Qai a0 h1->s'.heap.UpToSlots h1->s'.heap.FunFrames B X.stack->HW X.prog X.w X.outer X.kc X.iE W Qb1 {s' with heap:=h1}:=λh1 i d f=>by
   refine⟨e,C,a0,B,H',rfl,r,p,i,cR,λh u st f0=>?_,?_,hw⟩
   .have J:=I.OR (s':={s with heap:=h}) rfl (un h Qj6 st (fr.up f Qj6)) (cR.kept st) I.bare λb z=>absurd z km;have:=J.base;rw[hex,m]at this;exact this
   .have f1:fN X.outer X.iE.heap s'.heap:=λb a o l=>by
     obtain⟨sl,q⟩:=I.Nz hex b a o l;obtain⟨y,L⟩:=fr b (sub b a) _ q;simp_all
    exact f1.up (afi c f) d
  obtain hm|hm:=hm
  .have f:=hm.2.2.1;rw[c]at hm;refine ec (wpAny_noteFrame_againW j hm.2.2.2 ?_);refine wpAny_landsW hm λh' i d=>?_;obtain⟨k1,k2,⟨_,_,k3⟩,D⟩:=i;exact fin h' ⟨k1,k2,k3,D⟩ d f
  .have f:=hm.2.2.1;rw[c]at hm;exact wpAny_leaves_onW g j hm λh' i d=>fin h' i d f
theorem aaN{M:Model}{A:Qas}{E:BN}{base:Heap}{l:D1}{env:Env}{e L:Addr}{cls a0 fl:Value}{Q:Qmq}(hf:env.frame=some L)
  (m:base.StaysIn s.heap) (n:base.get? e=none) (hl:s.heap.FunFrames base l) (v:s.heap.TracedAtW base e cls a0 fl)
  (h:∀h',Heap.HeldW base l e cls a0 L h'->s.heap.UpToSlots h'->Q () {s with heap:=h'}) :
  wpAny M A (do
   if (← field Qb1 1) == .none then unsupported "frame.own-activation:exception-without-traceback"
   setFlight Qb1 env.frame) Q E s:=by
 obtain⟨u,vs,T,x,ts,he,r,hd,h1,k,g,t,f,w⟩:=v;have i:=(Array.getElem?_eq_some_iff.1 w).1;have c:∀b,b≠T->(s.heap.update T (Obj.mapFields (·.setIfInBounds 3 (rawInt L)))).get? b=s.heap.get? b:=λb d=>vu _ _ (ml d);have j:∀b o,s.heap.get? b=some o->(∀vs,o.data ≠ .fields vs)->b≠T:=λb o d a q=>by simp_all
 refine ec (wpAny_field he hd h1 ?_);refine ec (wpAny_field he hd h1 ?_);rw[hf];refine wpAny_setField t f i (h _ ⟨λb o p=>(c b λq=>by grind).trans (m b o p),n,hl.of_keeps λb o d a=>⟨o,(c b (j b o d a)).trans d,rfl⟩,?_⟩ λb o d a=>⟨ _,(c b (j b o d a)).trans d⟩);exact⟨u,vs,T,_,_,(c e (ml g)).trans he,r,hd,h1,k,g,vr _ t (Obj.isFreed_of_fields (ze f _)),ze f _,by simp[i]⟩
theorem yU{W:XK}(a:Qgk)(j:Qf0):PassesOwn Qe X.A X.env (XE X W):=λev s' h=>by
 obtain⟨e,C,pins,Y,H,H',s,rfl,I,hw,r,D,hm⟩:=h;have f:X.A.frames=some Qja:=by rw[I.ok.frames,a]
 have back:∀{a0:Value} {B:Heap} {s2:Qb},s2.os=s'.os->s2.gens=s'.gens->tE X.prog X.w H' B->(∀h,s2.heap.UpToSlots h->B.StaysIn h->fN X.stack s.heap h->Un Qby [] H H' s.heap h)->fN X.stack s.heap s2.heap->Heap.HeldW B X.stack e Qai a0 X.env.locals s2.heap->cameBackBy Qe X.A X.env (XE X W) Qb1 s2:=λ{a0 B s2} p g2 cR un fs k=>by
  obtain⟨k1,k2,k3,l⟩:=k;refine aaN j k1 k2 k3 l λh' n d=>?_;exact⟨e,C,pins,Y,H,H',s,rfl,I,hw,p.trans r,WB,.inr ⟨a0,B,⟨cR,λh u=>un h Qj6,fs.up k3 d⟩,.inl n⟩⟩
 obtain⟨rfl,hm⟩|⟨a0,B,⟨cR,un,fr⟩,hm⟩:=hm
 .have i:=I.SI;rw[a]at i;obtain⟨t,he,q,z⟩:=hm.there;have fresh:∀b,s.heap.get? b=none->(hideAll s.heap Qby).get? b=none:=λb g=>by
   cases m:(hideAll s.heap Qby).get? b with
   | none=>rfl
   | some o'=>have:=y2 _ m;grind
  have c:s'.heap.FunFrames Ql9 Qja:=a▸i.of_keeps λb o g _=>⟨o,hm.keeps b o g,rfl⟩;unfold notedBy noteFrame;simp only[j];refine ec (wpAny_field (x:=.none) he rfl rfl ?_);refine wpAny_entryW f c j he (λb o g=>hm.keeps b o (y2 _ g)) (fresh e hm.new) rfl (show 1<6 by decide) rfl λh' v=>?_;obtain⟨k1,k2,k3,l⟩:=v;rw[<- a]at k2;have f1:fN X.stack s.heap s'.heap:=λb g o m=>⟨o.slots,hm.keeps _ _ m⟩;rw[<- a]at c;exact back rfl rfl I.SO (λh _=>I.aks h) (f1.up c l) ⟨k1,fresh e hm.new,k2,k3⟩
 .obtain hm|hm:=hm
  .unfold notedBy;exact wpAny_noteFrame_againW j hm.2.2.2 (back rfl rfl cR un fr hm)
  .unfold notedBy;have y:=hm.2.2.1;rw[a]at hm;refine wpAny_looks_onW f j hm λh' k d=>?_;rw[<- a]at k;exact back rfl rfl cR (λh u=>un h Qj6) (fr.up y d) k
structure J2(K:Frag)(C:Addr):Prop where
 ex:∃nm q N bs bm hdct sn sub ab col dd k0 k1 k2 k3 k5,K.lookup C=some (excClassObj nm q C N bs bm hdct sn sub ab col dd k0 k1 k2 k3 k5 "ValueError.__new__")/\nsOkIn K N=true/\nsIn K N "__init__" = some none/\tailIn K UW bm=true
def Xk{W:XK}{x:Str}{C:Addr}{np Ce pos:Pos}{D:Ends}(a:Qa6)(h:QaA)(hm:X.mg x=some Qai)(O:J2 X.K C)(hw:W Qai none H)(hd:AD x:=by decide) :
  L3.WN Qbx (.Raise (some (.Call (.Name x np) [] [] Ce)) none pos) D Y H:=λpins s I=>by
 have J:=I.jr;obtain⟨nm,q,N,bs,bm,hdct,sn,sub,ab,col,dd,k0,k1,k2,k3,k5,f,b,d,c⟩:=O.ex;have tl:=PySem.W.tail_of_in J.Ah c;refine wpAny_Raise_call_subT (nm:=nm) (q:=q) (N:=N) (bs:=bs) (k0:=k0) (k1:=k1) (k2:=k2) (k3:=k3) (k5:=k5) (dd:=dd) (col:=col) (ab:=ab) (sub:=sub) (sn:=sn) (hdct:=hdct) PySem.F.excBase_ValueError (tl.hasType PySem.F.excBase_ValueError.hasBase) (J.ok.hd a) rfl (PySem.W.nsMap_none_of_in J.Ah b d) (qH I h hm ⟨rfl,?_⟩ hd);exact evalArgs_empty ⟨rfl,i8 _,J.Ah _ _ f,.of_isNs (PySem.W.isNs_of_in J.Ah b),tl,λh' e g=>⟨e,C,pins,Y,H,H,s,rfl,J,hw,rfl,J.bare,.inl ⟨rfl,g⟩⟩⟩
structure Lies(X:Cx)(pins:BC)(Y:St)(H:Hp)(s:Qb)(H':Hp)(e C:Addr)(a0:Value)(B:Heap)(s':Qb):Prop where
 inv:Inv X pins Y H s
 os:s'.os=s.os
 bare:AllBare s'.gens
 va:Heap.FlyingW B X.stack e Qai a0 s'.heap
 cR:tE X.prog X.w H' B
 un:∀h,s'.heap.UpToSlots h->B.StaysIn h->fN X.stack s.heap h->Un Qby [] H H' s.heap h
 fr:fN X.stack s.heap s'.heap
variable{H':Hp}{e C:Addr}{a0:Value}{B:Heap}{s':Qb}
theorem Lies.now(L:Qib):Inv X pins Y H' s':=L.inv.OR L.os (L.un _ (λb o q _=>⟨o.slots,q⟩) L.va.1 L.fr) (L.cR.kept L.va.1) L.bare λb z=>absurd z km
theorem Lies.move(L:Qib){h':Heap}{t':Nat}(hf:Heap.FlyingW B X.stack e Qai a0 h')(u:s'.heap.UpToSlots h'):Lies X pins Y H s H' e C a0 B {s' with heap:=h',toks:=t'}:=
 ⟨L.inv,L.os,L.bare,hf,L.cR,λh v=>L.un h (u.trans v),L.fr.up L.va.2.2.1 u⟩
noncomputable abbrev Cx.hand(X:Cx)(e:Addr):Cx:={X with A:=X.A.mark (some Qb1),calm:=false}
theorem Inv.hand(I:QE)(e:Addr):Inv Qo3 pins Y H s:=
 ⟨⟨I.ok.mod,I.ok.kind,I.ok.glob,I.ok.blt,I.ok.above,I.ok.inj,I.ok.has,I.ok.sT,(λh=>by cases h),I.ok.frames,I.ok.uk,I.ok.yY,I.ok.bs,I.ok.YV,I.ok.Qk,I.ok.Wj,I.ok.xj,I.ok.oy⟩,I.os,I.bare,I.base,I.loc,I.cell,I.free,I.lB,I.pin,I.cR,I.len⟩
theorem Inv.J3(ok:X.Ok)(I:Inv Qo3 pins Y H s):Inv X pins Y H s:=⟨ok,I.os,I.bare,I.base,I.loc,I.cell,I.free,I.lB,I.pin,I.cR,I.len⟩
abbrev _root_.ES:=List ExceptHandler
def Ya{Q:Qms}{E:BN}{hs:ES}(d:Qgk)(l:Qf0)(L:Qib)
  (k:∀s3,Lies X pins Y H s H' e C a0 B s3->wpAny Qe X.A Ql2 Q E s3) :
  wpAny Qe X.A (noteFrame Qb1 X.env) (λ_ b=>wpAny Qe X.A (setFlight Qb1 none) (λ_ a=>wpAny Qe X.A Ql2 Q E a) E b) E s':=by
 have g:X.A.frames=some Qja:=by rw[L.inv.ok.frames,d]
 have h:=L.va;rw[d]at h;refine wpAny_looks_onW g l h λn f j=>wpAny_landsW f λm c i=>k _ ?_;rw[<- d]at c;exact L.move c (j.trans i)
def Oy{Q:Qms}{E:BN}{x:Str}{Dd:Addr}{np pos:Pos}{b₀:Stmt}{suite:CI}{rest:ES}{m:Bool}(L:Qib)(f:QaA)(hm:X.mg x=some Qff)
  (d:exmOne X.K Qai Qff=some m)
  (k:if m then ∀s4,Lies X pins Y H s H' e C a0 B s4->wpAny Qe (X.hand e).A (execs (b₀::suite) X.env) Q Qbi s4 else ∀s4,Lies X pins Y H s H' e C a0 B s4->wpAny Qe X.A (handleBy Qb1 X.env rest) Q E s4)
  (hd:AD x:=by decide) :
  wpAny Qe X.A (handleBy Qb1 X.env QkQ) Q E s':=by
 have I:=L.now;obtain⟨h,g,a⟩:=L.va.there;have LT:PySem.W.Looks Qe s'.heap (typeOf Qb1) Qai:=a▸(PySem.W.Looks.ld g).andThen .now;refine wpAny_handleBy_cons (codeAny_handlers_test (qH (I.hand e) f hm ?_ hd)) (λq=>by cases q);refine(PySem.W.exm_one I.Ah LT d).here ?_;cases m with
 | false=>exact k s' L
 | true=>
  refine codeAny_handlers_suite (lands_againW L.va λi b c=>?_);exact la (k _ (L.move b c)) (λ_ _ z=>z) λ_ _ z=>z.elim
end
variable{X:Cx}
noncomputable abbrev Cx.pinned(X:Cx)(p:BC):Cx:={X with pn:=X.pn++p}
theorem Cx.Ok.pinned(ok:X.Ok)(p:BC):(X.pinned p).Ok:=⟨ok.mod,ok.kind,ok.glob,ok.blt,ok.above,ok.inj,ok.has,ok.sT,ok.hd,ok.frames,ok.uk,ok.yY,ok.bs,ok.YV,ok.Qk,ok.Wj,ok.xj,ok.oy⟩
variable{s:Qb}
theorem Inv.aoG{pins:BC}{Y:St}{H:Hp}(I:QE):Inv (X.pinned pins) [] Y H s:=
 ⟨I.ok.pinned pins,I.os,I.bare,I.base,I.loc,I.cell,I.free,I.lB,(λp a=>I.pin p (by rw[js]at a;exact a)),I.cR,I.len⟩
theorem Inv.akt{pins p2:BC}{Y:St}{H:Hp}(ok:X.Ok)(I:Inv (X.pinned pins) p2 Y H s):Inv X pins Y H s:=
 ⟨ok,I.os,I.bare,I.base,I.loc,I.cell,I.free,I.lB,(λp a=>I.pin p QkC),I.cR,I.len⟩
end L2
namespace L3
open PySem PySem.Spec PyProof.Rows L2
def eL(b:Bx)(E:XK)(C:Addr):Prop:=∀H' Z':Hp,aB b.B H'->aB b.Z Z'->aB Z' H'->(∀a o,Z' a=some o->b.Z a=none->b.B a=none)->(∀a o,H' a=some o->ju o=true->Z' a=some o)->E Qai none H'
variable{A:Type}
def si(K:Frag)(CL:BM)(n:Nat)(arg:Qaj)(Pre:Q2)(exc:QcR):Sp:=λvs H _ E=>
 ∃(W:Hp) (a:A),aB W H/\(∀c o,H c=some o->ju o=true->W c=some o)/\ay K CL W Qcn vs/\(arg a).length=n/\Pre a/\ny CL W/\eL ⟨H,W⟩ E QdU
section
variable{X:Cx}{CL:BM}{b:Bx}{U δ1 U2:BB}{e:Expr}{es:Ch}{dQ:CI}{D:dw}{x c:Str}{i:Nat}{pos pp:Pos}{W:XK}
def UY{np Ce:Pos}(d:Qa6)(a:Gl X c)(hm:X.mg c=some QgT)(O:J2 X.K (CL c))(e:eL b W (CL c))(hd:AD c:=by decide) :
  cQ Qbx CL b (.Raise (some (.Call (.Name c np) [] [] Ce)) none pos::dQ) U D:=bS λH Z Y ts vs E S M=>
 Xk d a hm O (e H Z S.bh S.zz S.zh S.new S.tp) hd
theorem Rc{P:Qag}{w:World}{K:Frag}{mg:Bi}{base:Heap}{qual:Str}{st:Stmt}{f:Addr}{fd:QaT}{N ps:At}{k:Nat}{arg:Qaj}{Pre:Q2}{exc:QcR}(F:Qdr)(S:Qds)
  (l:∀(eB:Value) (d:Qas) (outer:D1) (s:Qb) (H:Hp) (E:XK) (b:Bx) (a:A),fj k (d.deeper QfS)->Pre a->eL b E QdU →
   cQ ((tN Qft P w K mg base N qual QaX f eB d outer s H E).gS (XE (tN Qft P w K mg base N qual QaX f eB d outer s H E) E)) CL b Qbr QgH {nx:=λ_=>False,rt:=λ_ _=>False}) :
  dz P w K mg base Qft QaM f fd ps (si K CL ps.length arg Pre exc):=by
 obtain⟨dV,oc,od,kV,doc,pm,an,eB,ct,F3,rfl,lk,iV⟩:=F.ex;refine Ux lk iV S (λvs H Q E h=>?_) λd outer s H vs Q E g h=>?_
 .obtain⟨W,a,_,_,r,hl,_⟩:=h;rw[<- r.length];exact hl
 .obtain⟨W,a,e,tp,r,hl,i,tb,m⟩:=h;have h0:fH K CL H W QgH Qoz []:=by
   unfold entry L2.start;rw[<- r.length];exact ku _ r
  have h1:∀c o,W c=some o->W c=none->H c=none:=λc o q z=>by grind
  have body:=l eB d outer s H E _ a g i m H W _ [] [] {nx:=λ_ _=>False,rt:=λ_ _=>False} ⟨⟨[],[],h0,.nil,nc,λc j=>by cases j⟩,.refl _,.refl _,e,h1,tp,tb⟩ ⟨λ_ _ _ _ _ _ z=>z.elim,λ_ _ _ _ _ _ _ _ z=>z.elim,λ_ _ _ _ _ _ z=>z.elim,λ_ _ _ _ _ _ z=>z.elim⟩;refine⟨ _,UC,λpins s1 I=>?_⟩;refine la Qs5 (λfl s' z=>?_) λev s' z=>SH rfl rfl rfl rfl z;cases fl with
  | next=>obtain⟨_,_,_,q⟩:=z;exact q.elim
  | brk=>obtain⟨_,_,_,q⟩:=z;exact q.elim
  | cont=>obtain⟨_,_,_,q⟩:=z;exact q.elim
  | ret u=>obtain⟨_,_,_,_,_,q⟩:=z;exact q.elim
structure o8(X:Cx)(CL:BM)(x:Str)(k n:Nat){A:Type}(arg:Qaj)(Pre:Q2)(exc:QcR):Prop where
 ex:∃f fd ps,dz X.prog X.w X.K X.mg X.base Qgh k f fd ps Qsx/\X.mg x=some Qad/\keepIn X.K Qad=true/\Binds X.K fd ps []
 room:fj k X.A
def DS(X:Cx)(CL:BM)(b:Bx)(Z:Hp)(δ1:BB)(ts:Bn)(vs:B0)(C:Addr)(ev:Value)(s':Qb):Prop:=
 ∃(e:Addr) (a0:Value) (B:Heap) (pins:BC) (Y:L2.St) (H:Hp) (s:Qb) (H' Z':Hp),ev=.ref e/\Lies X pins Y H s H' e C a0 B s'/\aB Z Z'/\bq X.K CL b H' Z' δ1 Y ts vs
def xt(X:Cx)(CL:BM)(b:Bx)(e:Expr)(U:BB)(c:Str)(δ1:BB):Prop:=
 ∀(H Z:Hp) (Y:L2.St) (ts:Bn) (vs:B0),bq X.K CL b H Z U Y ts vs->yJ Qof e Y H λ_ _=>False
def LM(X:Cx)(CL:BM)(b:Bx)(st:CI)(U:BB)(c:Str)(δ1:BB):Prop:=
 ∀(H Z:Hp) (Y:L2.St) (ts:Bn) (vs:B0) (D:Ends),bq X.K CL b H Z U Y ts vs->Fn Qof st D Y H
def Xl{H:Hp}{Y:L2.St}{Q:EN}{E:BN}(a:Qgs)(h:Ge X es Y H Q):Ge Qkx es Y H Q:=λpos pins s I=>
 la (h pos pins s I.jr) (λus s' ⟨vs,H',b,r,q⟩=>⟨vs,H',b.gS E,r,q⟩) λev s' z=>by rw[a]at z;exact z.elim
theorem bq.grown{K:Frag}{H H' Z W W':Hp}{Y:L2.St}{ts:Bn}{vs:B0}(S:Qao)(e:QcN)(c:aB Z W)(ww:aB W W')(d:aB W' H')(new:∀a o,W' a=some o->W a=none->H a=none)
  (tp:∀a o,H' a=some o->ju o=true->W' a=some o):∃Z',aB Z Z'/\bq K CL b H' Z' U Y ts vs:=by
 obtain⟨Z',z,g⟩:=S.back e c ww d new tp Qhh nc (λa f=>by cases f) Qay;exact⟨Z',z,g.pop⟩
def SF{k n:Nat}{arg:Qaj}{Pre:Q2}{exc:QcR}(a:A)(N:Qgs)(F:QlY)(T:QaA)(h:QfX)(O:Pre a)(hn:QcP:=by rfl)
  (w:AD x:=by decide) (he:Qav:=by exact aZ rfl) (hpl:QaN:=by rfl) :
  xt X CL b QbW U (exc a) δ1:=λH Z Y ts vs S pins s I=>by
 obtain⟨f,fd,ps,m,hm,P,V⟩:=F.ex;have hA:Ge X Qau Y H λus H1=>∃Z1,aB Z Z1/\bq X.K CL b H1 Z1 δ1 Y ts vs/\ay X.K CL H1 Qcn us:=h H Z Y ts vs _ S λus H1 Z1 j k1 g r=>⟨Z1,j,g,r⟩;refine pv (qH I T hm ?_ w);refine zp (h₀:=X.base) I.ok.mod.u6 P (dP (Xl N hA pos pins s I) λus s1 ⟨ws,H1,i,r,Z1,j,g,z⟩=>⟨i.Ah,?_⟩) he hpl
 let E0:XK:=λcv _ H'=>cv=.ref QdU/\∃Z',aB Z Z'/\bq X.K CL b H' Z' δ1 Y ts vs
 have l:si X.K CL n arg Pre exc ws H1 Qbi E0:=⟨H1,a,.refl _,λ_ _ q _=>q,z,hn,O,g.Nh,λH' Z' R ww t nw tp=>⟨rfl,by
  obtain⟨Z2,o,S2⟩:=g.grown R g.zh ww t nw tp;exact⟨Z2,j.trans o,S2⟩⟩⟩
 have hl:us.length=ps.length:=by rw[<- r.length];exact m.len _ _ _ _ l
 have d:=V s1 us i.Ah (by rw[js];exact hl);rw[js]at d;refine wpAny_call (codeAny_mono (m.run X.A X.stack s1 H1 ⟨us,[]⟩ us ws Qbi E0 F.room i.jr.JP d r l) λy s' c=>?_);cases y with
 | error ev=>
  obtain⟨e1,C,a0,B,H',rfl,M,L,J,G,E,D,W,Z',p,S'⟩:=c;cases W;exact⟨e1,a0,B,pins,Y,H1,s1,H',Z',rfl,⟨i.jr,M,L,J,G,E,D⟩,p,S'⟩
 | ok fl=>
  cases fl with
  | ret u=>
   obtain⟨v,H',_,_,_,_,_,q⟩:=c;exact q.elim
  | next=>exact False.elim c
  | brk=>exact False.elim c
  | cont=>exact False.elim c
theorem xt.any{H Z:Hp}{Y:L2.St}{ts:Bn}{vs:B0}{Q:VK}(h:Qna)(S:Qf8):yJ Qof e Y H Q:=λpins s I=>
 la (h H Z Y ts vs S pins s I) (λ_ _ ⟨_,_,_,_,q⟩=>q.elim) λ_ _ z=>z
def aoI{pos':Pos}(nd:Qbs)(n:Qbl)(h:Qna)(hs:Qdy:=by rfl):LM X CL b Qia U c δ1:=λH Z Y ts vs D S=>
 Fh Qo8 (lT (Qm (X:=X.gS Qps) nd n.hi n.loc cL hs n.hf) (h.any S))
def akv(h:Qna)(hs:QhW:=by rfl):LM X CL b (.Expr e pos::dQ) U c δ1:=λH Z Y ts vs D S=>Fh Qo8 (lT (vt (X:=X.gS (DS X CL b Z δ1 ts vs _)) cL hs) (h.any S))
theorem Vn.pin{p:BC}(h:QaO):Vn Qe4 i x:=⟨h.hi,h.hv,h.hd,h.iV⟩
theorem o8.pin{p:BC}{k n:Nat}{arg:Qaj}{Pre:Q2}{exc:QcR}(F:QlY):o8 Qe4 CL x k n arg Pre exc:=⟨F.ex,F.room⟩
inductive Xm(X:Cx)(CL:BM)(c:Str):ES->CI->Prop
 | hit {x:Str} {Dd:Addr} {np pos:Pos} {b₀:Stmt} {suite:CI} {rest:ES}:Gl X x->X.mg x=some Qff->exmOne X.K QgT Qff=some true->Qis=false->Xm X CL c QkQ (b₀::suite)
 | miss {x:Str} {Dd:Addr} {np pos:Pos} {b₀:Stmt} {suite st:CI} {rest:ES}:Gl X x->X.mg x=some Qff->exmOne X.K QgT Qff=some false->Qis=false->Xm X CL c rest st->Xm X CL c QkQ st
theorem Xm.run{Q:Qms}{E:BN}{hs:ES}{st:CI}{pins p:BC}{Y:L2.St}{H H':Hp}{s s':Qb}{e:Addr}{a0:Value}{B:Heap}(h:Xm X CL c hs st)(L:Lies Qe4 pins Y H s H' e (CL c) a0 B s')
  (k:∀s4,Lies Qe4 pins Y H s H' e (CL c) a0 B s4->wpAny Qe (X.hand e).A Qnu Q Qbi s4):wpAny Qe X.A Ql2 Q E s':=by
 induction h generalizing s' with
 | hit h1 h2 b a=>exact Oy (X:=X.pinned p) L h1 h2 b k a
 | miss h1 h2 b a _ d=>exact Oy (X:=X.pinned p) L h1 h2 b (λs4 f=>d f k) a
theorem SE{body:CI}{h0:ExceptHandler}{hs:ES}{st:CI}(j:Qgk)(t:Qf0)(l:Qgs)(r:∀p,LM Qe4 CL b body U c δ1)(m:Xm X CL c (h0::hs) st)
  (k:∀e,cQ Qo3 CL b st δ1 {D with nx:=λU2=>cQ X CL b dQ U2 D}):cQ X CL b Qrw U D:=bS λH Z Y ts vs E S M pins s I=>by
 refine wpAny_Try_except (la (r pins H Z Y ts vs {nx:=λ_ _=>False,rt:=λ_ _=>False} S [] s (I.aoG.gS _)) (λf s1 z=>?_) λev s1 z=>?_)
 .cases f with
  | next=>obtain⟨_,_,_,q⟩:=z;exact q.elim
  | brk=>obtain⟨_,_,_,q⟩:=z;exact q.elim
  | cont=>obtain⟨_,_,_,q⟩:=z;exact q.elim
  | ret u=>obtain⟨_,_,_,_,_,q⟩:=z;exact q.elim
 .obtain⟨e,a0,B,w,Y',H1,s0,H',Z',rfl,L,h,n⟩:=z;refine Ya (X:=X.pinned pins) j t L λs3 L3=>m.run L3 λs4 o=>?_;have J:=(o.now.akt I.ok).hand e;refine la (k e H' Z' Y' ts vs E n (M.mono h) pins s4 J) (λf s5 z=>?_) λ_ _ z=>by grind
  cases f with
  | next=>obtain⟨a,g,d,q⟩:=z;exact⟨a,g,d.J3 I.ok,q⟩
  | brk=>obtain⟨a,g,d,q⟩:=z;exact⟨a,g,d.J3 I.ok,q⟩
  | cont=>obtain⟨a,g,d,q⟩:=z;exact⟨a,g,d.J3 I.ok,q⟩
  | ret u=>obtain⟨v,a,g,d,i,q⟩:=z;exact⟨v,a,g,d.J3 I.ok,i,q⟩
theorem akw{body:CI}{h0:ExceptHandler}{hs:ES}(a:Qgs)(h:cQ X CL b body U {D with nx:=λU2=>cQ X CL b dQ U2 D}):cQ X CL b Qrw U D:=bS λH Z Y ts vs E S M pins s I=>by
 refine wpAny_Try_except (la (h H Z Y ts vs E S M pins s I) (λf s1 z=>?_) λev s1 z=>by rw[a]at z;exact z.elim);cases f with
 | next=>exact wpAny_execs_nil z
 | brk=>exact z
 | cont=>exact z
 | ret u=>exact z
end
end L3
namespace L2
open PySem PySem.Spec PyProof.Rows
structure SA(K:Frag)(D:Addr):Prop where
 ga:findIn K Qfn "__getattribute__" = some (some (.builtin "BaseException.__getattribute__"))
 gn:findIn K Qfn "__getattr__" = some none
 hd:hasDictIn K D=true
 fi:findIn K Qfn "__class__" = some (some Qlk)
 sp:PySem.W.specialIn K Qlk "__get__" = some (some (.builtin "getset_descriptor.__get__"))
 tk:PySem.W.takesIn K Qlk=some true
 mr:mroIn K D (.type "object")=some true
 mb:mroIn K D (.type "BaseException")=some true
section
variable{s:Qb}{K:Frag}{D:Addr}
open PySem.W in
open PySem PySem.Calls PyProof.Rows Builtin Builtin.ObjectAttr Builtin.Getset_descriptor PySem.W PySem.Builtin.ObjectAttr in
theorem SA.there(O:SA K D):∃c d cd sl,K.lookup D=some ⟨c,d,.cls cd,sl⟩:=by
 obtain⟨cd,q,_⟩:=any_some O.hd;unfold PySem.W.clsIn at q;split at q
 .rename_i c d a sl e;exact⟨c,d,a,sl,e⟩
 .cases q
end
end L2
namespace L3
open PySem PySem.Spec PyProof.Rows L2
section
variable{X:Cx}{CL:BM}{b:Bx}{U δ1:BB}{e:Expr}{dQ:CI}{D:dw}{x:Str}{i:Nat}{pos:Pos}
theorem Ln.hand{a:Addr}(h:Qbl):Ln (X.hand a) i x:=⟨⟨h.hi,h.hv,h.hd,h.iV⟩,h.loc,h.hf⟩
def Su{t:T}{pos':Pos}(nd:Qbs)(n:Qbl)(h:QaJ)(k:Qlg)(hl:QcQ:=by exact iq rfl)(hs:Qdy:=by rfl) :
  cQ X CL b Qia U D:=bS (QL i h k hl nd n.hi n.loc hs n.hf)
end
def aaT(l q:Addr)(xs ys:Cl)(n m:Nat)(e:Do)(sq:D2)(i:QpM)(b:xs.size<=sizeLine)(a:Qu2) :
  PySem.Meets (Builtin.«list.extend» ⟨[.ref l,.ref q],[]⟩) (λ_ R s=>s.heap.get? l=some {cls:=.type "list",dict:=none,data:=.seq xs n,slots:=#[]}/\s.heap.get? q=some {cls:=.type "list",dict:=e,data:=.seq ys m,slots:=sq} ∧
   R QsS {s with heap:=s.heap.update l QrU,toks:=s.toks}):=
 PySem.Meets.of_wp λprog w A R s h=>by
  obtain⟨f,g,d,tk,os⟩:=s;obtain⟨hl,c,h⟩:=h;have f1:=AutoSeq1.idx_int;have k:=AutoSeq1.sub_list_list;have f4:=AutoSeq1.sub_tuple_list;have j:=AutoSeq1.sub_list_tuple;have hz:(xs++ys).size<=sizeLine+1:=by
   rw[Array.size_append];exact a
  wp_walk using Qp8,wpAny_loadPart' hl,wpAny_loadPart' c
  exact⟨_,rfl,h⟩
def Ov(K:Frag):V->B0->Hp->VK->Prop:=λx vs H Q=>∃l q xs zs,x=.ref l/\vs=[.ref q]/\H l=some Qbo/\mJ K H q zs/\xs.length+zs.length<=sizeLine/\Q .non Qv7
variable{X:Cx}
theorem afm:xy X "list.extend" (Ov X.K):=by
 intro pins s Y H x vs v us Q I d f h;obtain⟨l,q,xs,zs,rfl,rfl,b,m,hz,k⟩:=h;cases d;obtain⟨u,rfl,g⟩:=f.one;cases g;obtain⟨z,its,n,r,hl,e⟩:=I.Fs b;obtain⟨c,a,⟨⟨y,d2,o,s2⟩,i,e2,t,_,hd2⟩,w⟩:=I.list m;cases t;cases hd2;have j:=a.length;have hsz:its.toArray.size+c.toArray.size<=sizeLine:=by grind
 have p:¬ (!its.toArray.isEmpty&&Builtin.List.listTooLong Qq0)=true:=by
  rw[Dr hsz,vy];decide
 refine rp F.slot_list_extend ⟨_,e,rfl⟩ F.entry_list_extend Qr8 (aaT l q _ _ n i d2 s2 p WB We) ⟨e,e2,?_⟩;refine⟨.non,_,I.Fu b e Wp (r.append a) ?_,rfl,k⟩;simp_all
variable{i:Nat}{x:Str}
theorem Ln.pin{p:BC}(h:Qbl):Ln Qe4 i x:=⟨⟨h.hi,h.hv,h.hd,h.iV⟩,h.loc,h.hf⟩
inductive AA where
 | ix (j:Nat)|fld (f:Str)|key (k:Cc)
noncomputable def Xn{α:Type}(k:Cc)(t:α):List QgW->List QgW
 | []=>[]
 | (x,u)::r=>if x=k then(x,t)::r else(x,u)::Xn k t r
noncomputable def T.core:T->T
 | .pin _ t=>t
 | t=>t
noncomputable def T.J4:T->T->T
 | .pin y _,u=>.pin y u
 | _,u=>u
def T.UZ:AA->T->Option T
 | .ix j,.lst ts=>ts[j]?
 | .ix j,.tup ts=>ts[j]?
 | .fld f,.ins _ fs=>fs.lookup f
 | .key k,.dct kvs=>tu kvs k
 | _,_=>none
def T.Rf:AA->T->T->T
 | .ix j,.lst ts,u=>.lst (ts.set j u)
 | .ix j,.tup ts,u=>.tup (ts.set j u)
 | .fld f,.ins c fs,u=>.ins c (qN f u fs)
 | .key k,.dct kvs,u=>.dct (Xn k u kvs)
 | _,t,_=>t
def T.lF:List AA->T->Option T
 | [],t=>some t.core
 | s::p,t=>(t.core.UZ s).bind (T.lF p)
def T.lV:List AA->T->T->T
 | [],u,t=>t.J4 u
 | s::p,u,t=>match t.core.UZ s with
  | some k=>t.J4 (t.core.Rf s (T.lV p u k))
  | none=>t
def qr(H:Hp)(v:V):AA->V->Prop
 | .ix j,w=>∃a us,v=.ref a/\(H a=some Qe6\/H a=some Qmg)/\us[j]? = some w
 | .fld f,w=>∃a C dx gs,v=.ref a/\H a=some (.ins C dx gs)/\gs.lookup f=some w
 | .key k,w=>∃a gs,v=.ref a/\H a=some QaB/\iX gs k=some w
def Cp(H:Hp):V->List AA->V->Prop
 | v,[],w=>v=w
 | v,s::p,w=>∃u,qr H v s u/\Cp H u p w
variable{H:Hp}{s:AA}
theorem qr.mono{H':Hp}(e:QcN){v w:V}(h:qr H v s w):qr H' v s w:=by
 cases s with
 | ix j=>obtain⟨a,us,h1,h2,b⟩:=h;exact⟨a,us,h1,h2.imp (e _ _) (e _ _),b⟩
 | fld f=>obtain⟨a,C,dx,gs,h1,h2,b⟩:=h;exact⟨a,C,dx,gs,h1,e _ _ h2,b⟩
 | key k=>obtain⟨a,gs,h1,h2,b⟩:=h;exact⟨a,gs,h1,e _ _ h2,b⟩
theorem qr.inj{v w d:V}(h:qr H v s w)(q:qr H v s d):w=d:=by
 cases s with
 | ix j=>
  obtain⟨a,us,h1,h2,i⟩:=h;obtain⟨l,n,q1,b,g⟩:=q;subst h1;cases q1;have e:us=n:=by
   obtain h2|h2:=h2<;>obtain b|b:=b<;>rw[h2]at b<;>cases b<;>rfl
  simp_all
 | fld f=>
  obtain⟨a,C,dx,gs,h1,h2,i⟩:=h;obtain⟨l,o,m,c,q1,b,g⟩:=q;grind
 | key k=>
  obtain⟨a,gs,h1,h2,i⟩:=h;obtain⟨l,c,q1,b,g⟩:=q;simp_all
theorem Cp.mono{H H':Hp}(e:QcN):∀{p:QcS} {v w:V},Cp H v p w->Cp H' v p w
 | [],_,_,h=>h
 | _::_,_,_,⟨u,h,q⟩=>⟨u,h.mono e,Cp.mono e q⟩
theorem Cp.inj{H:Hp}:∀{p:QcS} {v w a:V},Cp H v p w->Cp H v p a->w=a
 | [],_,_,_,h,q=>h.symm.trans q
 | _::_,_,_,_,⟨_,h1,h2⟩,⟨_,q1,b⟩=>by
  have:=h1.inj q1;subst this;exact Cp.inj h2 b
theorem Cp.snoc{H:Hp}{s:AA}:∀{p:QcS} {v w z:V},Cp H v p w->qr H w s z->Cp H v (p++[s]) z
 | [],_,_,z,h,q=>by
  have h':=h;subst h';exact⟨z,q,rfl⟩
 | _::_,_,_,_,⟨u,h1,h2⟩,q=>⟨u,h1,Cp.snoc h2 q⟩
variable{K:Frag}{CL:BM}{b:Bx}{H' Z Z':Hp}{U:BB}{Y:L2.St}{ts tl:Bn}{vs us:B0}{t u t0:T}{v v0 w:V}{fp:BY}{p:QcS}
theorem bD.Rg(h:QfF):bD K CL H Z t.core v fp/\∀{H' Z':Hp} {u:T} {g:BY},bD K CL H' Z' u v g->bD K CL H' Z' (t.J4 u) v g:=by
 cases h with
 | pin r=>exact⟨r,.pin⟩
 | sh r=>exact⟨.sh r,λq=>q⟩
 | tup r q=>exact⟨.tup r q,λq=>q⟩
 | lst r q=>exact⟨.lst r q,λq=>q⟩
 | ins r q=>exact⟨.ins r q,λq=>q⟩
 | jt r q=>exact⟨.jt r q,λq=>q⟩
 | dct r q=>exact⟨.dct r q,λq=>q⟩
 | j5 r q p=>exact⟨.j5 r q p,λq=>q⟩
theorem cM.at{f:Str}:∀(fs:BS) {gs:Bz} {fp:BY},cM K CL H Z fs gs fp->fs.lookup f=some t->∃w f1 f2 c,gs.lookup f=some w/\fp=f1++Qhv/\bD K CL H Z t w f2 ∧
  ∀{H':Hp} {t':T} {g:BY},(∀a∈f1++c,H' a=H a)->bD K CL H' Z t' w g->cM K CL H' Z (qN f t' fs) gs QjV:=by
 intro fs
 induction fs with
 | nil=>intro gs fp h e;cases e
 | cons p fs k=>
  obtain⟨x,t0⟩:=p;intro gs fp h e;cases h with
  | @cons _ _ v _ vs f0 g0 r rs=>
   rw[mf]at e;cases b:f==x with
   | true=>
    rw[b]at e;cases e;have i:=(rq.1 b).symm;refine⟨v,[],f0,g0,by rw[mf,b],rfl,r,λ{H' t' g} kk d=>?_⟩;rw[qN,cq i];exact cM.cons (fp:=g) d (rs.mono Qr λa j=>kk a (‹_›))
   | false=>
    rw[b]at e;obtain⟨w,f1,f2,c,h1,h2,m,l⟩:=k rs e;subst h2;refine⟨w,f0++f1,f2,c,by rw[mf,b];exact h1,Wp,m,λ{H' t' g} kk d=>?_⟩;rw[qN,bX (λz=>by grind),i3];exact .cons (r.mono Qr λa j=>kk a WB) (l (λa j=>kk a (by rw[i3];exact iF _ j)) d)
theorem cG.UZ{k:Cc}{kvs:CA}{gs:B1}(h:QfO)(c:tu kvs k=some t) :
  ∃v f1 f2 b,iX gs k=some v/\fp=f1++(f2++b)/\bD K CL H Z t v f2 ∧
   ∀{H':Hp} {t':T} {g:BY},(∀a∈f1++b,H' a=H a)->bD K CL H' Z t' v g->cG K CL H' Z (Xn k t' kvs) gs QoM:=by
 refine cG.ind (P:=λkvs gs fp=>tu kvs k=some t->∃v f1 f2 b,iX gs k=some v/\fp=f1++(f2++b)/\bD K CL H Z t v f2 ∧
   ∀{H':Hp} {t':T} {g:BY},(∀a∈f1++b,H' a=H a)->bD K CL H' Z t' v g->cG K CL H' Z (Xn k t' kvs) gs QoM) (λe=>by cases e) (λ{x t0 v0 ts vs fp gp} r f i c=>?_) h c
 by_cases e:x=k
 .rw[yS e]at c;cases c;refine⟨v0,[],fp,gp,nu e,rfl,r,λ{H' t' g} d q=>?_⟩;rw[Xn,cq e];exact(show cG K CL H' Z _ _ (g++gp) from .cons q (f.mono Qr d))
 .rw[yT e]at c;obtain⟨v,f1,f2,b,h1,h2,m,l⟩:=i c;refine⟨v,_,f2,b,by rw[lD e];exact h1,by rw[h2,i3],m,λ{H' t' g} d q=>?_⟩;rw[Xn,bX e,i3];exact .cons (r.mono Qr λa j=>d a WB) (l (λa j=>d a (by rw[i3];grind)) q)
theorem bD.UZ{k:T}(zh:aB Z H)(h:QfF)(i:t.UZ s=some k):∃w f1 f2 d,qr H v s w/\fp=f1++(f2++d)/\bD K CL H Z k w f2 ∧
  ∀{H':Hp} {n:T} {g:BY},(∀c∈f1++d,H' c=H c)->bD K CL H' Z n w g->bD K CL H' Z (t.Rf s n) v QjW:=by
 cases s with
 | ix j=>
  cases h with
  | @lst a us ts g b rs=>
   obtain⟨w,f1,f2,d,h1,h2,m,l⟩:=rs.at i;subst h2;refine⟨w,a::f1,f2,d,⟨a,us,rfl,.inl b,h1⟩,rfl,m,λ{H' n g} kk e=>?_⟩;have q:=l QlL e;rw[g9 h1]at q;exact .lst ((kk a gk).trans b) q
  | @tup a us ts g b rs=>
   obtain⟨w,f1,f2,d,h1,h2,m,l⟩:=rs.at i;subst h2;refine⟨w,f1,f2,d,⟨a,us,rfl,.inr (zh _ _ b),h1⟩,rfl,m,λ{H' n g} kk e=>?_⟩;have q:=l kk e;rw[g9 h1]at q;exact .tup b q
  | _=>cases i
 | fld f=>
  cases h with
  | @ins a dx c gs fs g b rs=>
   obtain⟨w,f1,f2,d,h1,h2,m,l⟩:=cM.at fs rs i;subst h2;refine⟨w,a::f1,f2,d,⟨a,_,dx,gs,rfl,b,h1⟩,rfl,m,λ{H' n g} kk e=>?_⟩;exact .ins ((kk a gk).trans b) (l QlL e)
  | _=>cases i
 | key x=>
  cases h with
  | @dct a gs kvs g b rs=>
   obtain⟨w,f1,f2,d,h1,h2,m,l⟩:=rs.UZ i;subst h2;refine⟨w,a::f1,f2,d,⟨a,gs,rfl,b,h1⟩,rfl,m,λ{H' n g} kk e=>?_⟩;exact .dct ((kk a gk).trans b) (l QlL e)
  | _=>cases i
theorem bD.focus(zh:aB Z H):∀(p:QcS) {t u:T} {v:V} {fp:BY},bD K CL H Z t v fp->T.lF p t=some u->∃w f1 f2 a,Cp H v p w/\fp=f1++(f2++a)/\bD K CL H Z u w f2 ∧
  ∀{H':Hp} {b:T} {g:BY},(∀c∈f1++a,H' c=H c)->bD K CL H' Z b w g->bD K CL H' Z (T.lV p b t) v (f1++(g++a))
 | [],t,u,v,fp,h,e=>by
  obtain⟨h1,h2⟩:=h.Rg;cases e;exact⟨v,[],fp,[],rfl,Wp,h1,λ{H' b g} _ r=>by rw[js];exact h2 r⟩
 | s::p,t,u,v,fp,h,e=>by
  obtain⟨h1,h2⟩:=h.Rg;rw[T.lF]at e;cases d:t.core.UZ s with
  | none=>rw[d]at e;cases e
  | some k=>
   rw[d]at e;obtain⟨f,a1,a2,a3,q1,y,x,o⟩:=h1.UZ zh d;obtain⟨w,f1,f2,a,m,l,j,i⟩:=bD.focus zh p x e;subst y l;refine⟨w,a1++f1,f2,a++a3,⟨f,q1,m⟩,Wp,j,λ{H' b g} kk n=>?_⟩;rw[T.lV,d];have q:=h2 (o Qvv (i Qvv n));simpa [List.append_assoc] using q
theorem bq.AF(S:Qao)(ev:Y[i]? = some Qct)(hi:U[i]? = some Qb2)(N:Qow)(F:Qek):∃f2 gp,bD K CL H Z u w f2/\aQ K CL H Z ts vs gp/\(f2++gp).Nodup ∧
  ∀{a:Addr} {o:HO} {x:T} {j:Bn} {B:B0} {g l:BY},w=.ref a->a∈f2->ju o=false->bD K CL Qbz Z x w g->aQ K CL Qbz Z j B l->(g++l).Nodup->(∀c∈g++l,c∈f2++gp) →
   bq K CL b Qbz Z (U.set i (some (T.lV p x t0))) Y j B:=by
 obtain⟨fp,gp,e,r,nd,k⟩:=S.rep;obtain⟨v1,e1,e2,s,hv,G,rt,put,_⟩:=e.get hi;rw[ev]at hv;cases hv;obtain⟨O,f1,f2,q,at',hf,I,put2⟩:=rt.focus S.zh p N;have hw:=at'.inj F;subst hw;subst hf;subst G;have n:((e1++((f1++(f2++q))++s))++gp).Perm ((e1++QoP)++(f2++gp)):=tF.2 λc=>by
  simp only[vi];lia
 have y:=n.nodup_iff.1 nd;have v:=l2.1 y;refine⟨f2,gp,I,r,v.2.1,λ{a o x j B g l} J D hm L M A E=>?_⟩;have m:∀c∈e1++QoP,upd H a o c=H c:=λc f=>au λz=>v.2.2 c f a (i4 _ D) z;have q1:=put2 (H':=upd H a o) (λc f=>m c (by
  obtain h|h:=iw.1 f
  .simp[h]
  .simp[h])) L
 have C:=put (H':=upd H a o) Qr (λc f=>m c (by
  obtain h|h:=iw.1 f
  .simp[h]
  .simp[h])) q1
 rw[g9 ev]at C;have t:((e1++((f1++(g++q))++s))++l).Perm ((e1++QoP)++(g++l)):=tF.2 λc=>by
  simp only[vi];lia
 refine S.QN hm k (by simp[D]) C M (t.nodup_iff.2 (l2.2 ⟨v.1,A,λc f d hd=>v.2.2 c f d (E d hd)⟩)) λc f=>?_;refine n.mem_iff.2 ?_;obtain h|h:=iw.1 (t.mem_iff.1 f)
 .exact i4 _ h
 .exact iF _ (E c h)
theorem bq.xk(S:Qao)(ev:Y[i]? = some Qct)(hi:U[i]? = some Qb2)(d:Qow):∃w f2,Cp H v0 p w/\bD K CL H Z u w f2:=by
 obtain⟨fp,gp,e,r,nd,k⟩:=S.rep;obtain⟨v1,e1,e2,h,hv,f,rt,put,_⟩:=e.get hi;rw[ev]at hv;cases hv;obtain⟨a,f1,f2,g,at',hf,c,put2⟩:=rt.focus S.zh p d;exact⟨a,f2,at',c⟩
theorem bq.afo(S:QbT)(ev:Y[i]? = some Qct)(hi:U[i]? = some Qb2)(m:Qng)(h:Qek) :
  ∃a us,w=.ref a/\H a=some Qe6/\us.length=tl.length/\bq K CL b QsM Z (U.set i (some (T.lV p (.lst (tl++[t])) t0))) Y ts vs:=by
 obtain⟨f2,gp,j,k,nd,go⟩:=S.AF ev hi m h;obtain⟨a,us,g,rfl,rfl,n,rs⟩:=j.gT;cases k with
 | @cons _ _ _ _ f e q1 l=>
  have ne:∀c∈g++Qdn,c≠a:=λc d z=>by subst z;simp_all
  have pm:((a::(g++(f++[])))++e).Perm ((a::g)++Qdn):=tF.2 λc=>by simp
  exact⟨a,us,rfl,n,rs.length.symm,go rfl gk rfl (.lst aC (aQ.app (rs.mono Qr λc d=>au (ne c (by simp[d]))) (.cons (q1.mono Qr λc d=>au (ne c (by simp[d]))) .nil)))
   (l.mono Qr λc d=>au (ne c (by simp[d]))) Qtm λc d=>pm.mem_iff.1 d⟩
theorem bq.aaV{ds:BA}(S:Qao)(j:Qn8)(ev:Y[i]? = some Qct)(hi:U[i]? = some Qb2)(k:Qng)(e:Qek) :
  ∃a ws,w=.ref a/\H a=some (.lst ws)/\ws.length=tl.length/\bq K CL b (upd H a (.lst (ws++us))) Z (U.set i (some (T.lV p Qtn t0))) Y ts vs:=by
 obtain⟨f2,gp,f,h,nd,go⟩:=S.AF ev hi k e;obtain⟨a,ws,g,rfl,rfl,l,rs⟩:=f.gT;have ne:∀c∈g++gp,c≠a:=λc d z=>by subst z;simp_all
 exact⟨a,ws,rfl,l,rs.length.symm,go rfl gk rfl (.lst aC (aQ.app (rs.mono Qr λc d=>au (ne c (by simp[d]))) (aQ.HH j)))
  (h.mono Qr λc d=>au (ne c (by simp[d]))) (by rw[js];exact nd) λc d=>by rw[js]at d;exact d⟩
variable{j:Nat}
theorem bq.akx(S:QbT)(ev:Y[i]? = some Qct)(hi:U[i]? = some Qb2)(q:Qng)(l:Qek)(r:j<tl.length) :
  ∃a us,w=.ref a/\H a=some Qe6/\us.length=tl.length/\bq K CL b (upd H a (.lst (us.set j v))) Z (U.set i (some (T.lV p QuE t0))) Y ts vs:=by
 obtain⟨f2,gp,m,n,nd,go⟩:=S.AF ev hi q l;obtain⟨a,us,g,rfl,rfl,s,rs⟩:=m.gT;cases n with
 | @cons _ _ _ _ f e q1 o=>
  obtain⟨w0,g1,g2,g3,h1,h2,x,u⟩:=rs.at (kf r);subst h2;have ne:∀c∈(g1++(g2++g3))++Qdn,c≠a:=λc d z=>by subst z;simp_all
  have k:((a::(g1++g3))++Qdn).Sublist ((a::(g1++(g2++g3)))++Qdn):=by simp
  have pm:((a::(g1++(f++g3)))++e).Perm ((a::(g1++g3))++Qdn):=tF.2 λc=>by simp[vi,List.count_cons];lia
  exact⟨a,us,rfl,s,rs.length.symm,go rfl gk rfl (.lst aC (u (λc d=>au (ne c (by
    obtain h|h:=iw.1 d
    .simp[h]
    .simp[h]))) (q1.mono Qr λc d=>au (ne c (by simp[d])))))
   (o.mono Qr λc d=>au (ne c (by simp[d]))) (pm.nodup_iff.2 (nd.sublist k)) λc d=>k.subset Qu6⟩
theorem bq.HX{c f:Str}{fs:BS}(S:QbT)(ev:Y[i]? = some Qct)(hi:U[i]? = some Qb2)(q:T.lF p t0=some QaZ)(l:Qek) :
  ∃a dx gs,w=.ref a/\H a=some QeJ/\gs.length=fs.length/\bq K CL b (upd H a Qly) Z (U.set i (some (T.lV p (.ins c (qN f t fs)) t0))) Y ts vs:=by
 obtain⟨f2,gp,m,n,nd,go⟩:=S.AF ev hi q l;obtain⟨a,dx,gs,g,rfl,rfl,r,rs⟩:=m.Dt;cases n with
 | @cons _ _ _ _ h e q1 o=>
  have ne:∀c∈g++(h++e),c≠a:=λc d z=>by subst z;exact(l4.1 nd).1 d
  obtain⟨u,k,h1,h2,s⟩:=cM.put (f:=f) (q1.mono (H':=upd H a Qly) Qr λc d=>au (ne c (by simp[d]))) (rs.mono (H':=upd H a Qly) Qr λc d=>au (ne c (by simp[d])));have j:((a::k)++(h++e)).Sublist ((a::g)++(h++e)):=oP (List.Sublist.cons₂ _ h2) (nk _);have pm:((a::u)++e).Perm ((a::k)++(h++e)):=((s.cons a).append_right e).trans (tF.2 λc=>by simp only[vi,List.count_cons];lia);exact⟨a,dx,gs,rfl,r,rs.length.symm,go rfl gk rfl (.ins aC h1) (o.mono Qr λc d=>au (ne c (by simp[d]))) (pm.nodup_iff.2 (nd.sublist j)) λc d=>j.subset Qu6⟩
theorem bq.aoK(S:Qao)(ev:Y[i]? = some Qct)(hi:U[i]? = some Qb2)(l:Qow)(g:Qek):bq K CL b H Z (U.set i (some (T.lV p Qo4 t0))) Y (u::ts) (w::vs):=by
 obtain⟨fp,gp,e,r,nd,k⟩:=S.rep;obtain⟨v1,e1,e2,f,hv,h,rt,put,_⟩:=e.get hi;rw[ev]at hv;cases hv;obtain⟨n,f1,f2,d,at',hf,j,put2⟩:=rt.focus S.zh p l;have hw:=at'.inj g;subst hw;subst hf;subst h;have a:=put Qr Qck (put2 Qck (.sh (.any _)));rw[g9 ev]at a;have pm:((e1++((f1++([]++d))++f))++(f2++gp)).Perm ((e1++(Qe2++f))++gp):=tF.2 λc=>by simp[vi,List.count_nil];lia
 exact⟨⟨_,_,a,.cons j r,pm.nodup_iff.2 nd,λc m=>k c (pm.mem_iff.1 m)⟩,S.bh,S.zz,S.zh,S.new,S.tp,S.tab⟩
section
variable{δ1:BB}{e e0 e2:Expr}{t1:T}{tl0:Bn}{d:L3.D}{D:dw}{pos pa pb ps:Pos}{c f:Str}{dQ:CI}{fs:BS}
def n8(X:Cx)(CL:BM)(b:Bx)(e:Expr)(U:BB)(i:Nat)(p:QcS):Prop:=
 ∀(H Z:Hp) (Y:L2.St) (ts:Bn) (vs:B0) (Q:VK),bq X.K CL b H Z U Y ts vs->(∀v0 v H' Z',aB Z Z'->aB H H'->bq X.K CL b H' Z' U Y ts vs->Y[i]? = some Qct->Cp H' v0 p v->Q v H')->yJ X e Y H Q
def cO(n:QaO)(h:U[i]? = some QaI):n8 X CL b QaE U i []:=λH Z Y ts vs Q S k=>by
 obtain⟨v,hv,_⟩:=S.look h;exact cz Qex ⟨v,hv,k v v H Z Qr Qr S hv rfl⟩
def fY(o:QfM)(n:QgO)(h:Qi5)(hi:U[i]? = some QaI)(m:T.lF p t=some QaZ)(hl:fs.lookup f=some u)(q:AS X e f:=by rfl) :
  n8 X CL b Qgo U i (p++[.fld f]):=λH Z Y ts vs Q S k=>
 cz (Qu cL q) (h H Z Y ts vs _ S λv0 v H' Z' z s l ev d=>by
  obtain⟨w,f2,at',r⟩:=l.xk ev hi m;have:=at'.inj d;subst this;obtain⟨a,dx,gs,g,rfl,rfl,j,rs⟩:=r.Dt;obtain⟨w,_,_,_,hw,_,_,_⟩:=cM.at fs rs hl;exact⟨a,CL c,dx,gs,w,rfl,j,o,n,hw,k v0 w H' Z' z s l ev (d.snoc ⟨a,_,dx,gs,rfl,j,hw⟩)⟩)
def U0(h:Qi5)(hi:U[i]? = some QaI)(f:T.lF p t=some Qa3):bY X CL b e U Qa3 U:=λH Z Y ts vs Q S k=>
 h H Z Y ts vs _ S λv0 v H' Z' z s a ev c=>by
  obtain⟨w,f2,at',r⟩:=a.xk ev hi f;have:=at'.inj c;subst this;replace r:=r.F4;obtain⟨rfl,r⟩:=r;exact k _ H' Z' z s (a.push r)
def jd(h:Qi5)(hi:U[i]? = some QaI)(f:T.lF p t=some u)(hd:u.cu=d):cN X CL b e U d U:=λH Z Y ts vs Q S k=>
 h H Z Y ts vs _ S λv0 v H' Z' z s a ev c=>by
  obtain⟨w,f2,at',r⟩:=a.xk ev hi f;have:=at'.inj c;subst this;subst hd;exact k _ H' Z' z s a (r.cu a.zh λ_ _=>rfl)
noncomputable def U1(h:Qi5)(hi:U[i]? = some QaI)(c:T.lF p t=some u):bY X CL b e U u (U.set i (some (T.lV p Qo4 t))):=λH Z Y ts vs Q S k=>
 h H Z Y ts vs _ S λv0 v H' Z' z s d ev a=>k v H' Z' z s (d.aoK ev hi c a)
def DT(s:n8 X CL b e0 U i p)(h0:U[i]? = some Qb2)(d:T.lF p t0=some (.lst tl0))(h:QaJ)(h1:δ1[i]? = some Qhj)(A:T.lF p t1=some QeL)(hl:Qnt)(k:cQ X CL b dQ (δ1.set i (some (T.lV p (.lst (tl++[t])) t1))) D)
  (o:attributeBase e0 "append" X.env (eval e0 X.env)=eval e0 X.env:=by rfl)
  (n:QhD:=by rfl)
  (c:Qf5:=by rfl) (hs:Qan:=by exact aZ rfl) (B:swapsWith Qqj none pos.line X.env=pure false:=by rfl) :
  cQ X CL b (.Expr Qqj pos::dQ) U D:=bS λH Z Y ts vs E S M=>
 lT (vt (HD wy Jp Jn vA cL QaH o n c hs rfl) B) (s H Z Y ts vs _ S λv0 v C x m s0 j ev g=>by
  obtain⟨w,f2,at',r⟩:=j.xk ev h0 d;have:=at'.inj g;subst this;refine⟨?_,h C x Y ts vs _ j λv2 H1 Z1 l k1 z=>?_⟩
  .obtain⟨_,_,_,rfl,rfl,f,_⟩:=r.gT;exact .inl ⟨rfl,_,mJ.of f⟩
  .obtain⟨a,us,u,f,q,y⟩:=z.afo ev h1 A (g.mono k1);exact⟨a,us,v2,u,rfl,f,by rw[q];exact nq hl Wm,M.nx _ Y _ Z1 (m.trans l) y k⟩)
def aky{z:Int}(h:QaJ)(r:QmS)(h2:cN X CL b e2 δ1 (.int z) δ1)(h1:δ1[i]? = some Qhj)(C:T.lF p t1=some QeL)(d:Zx tl.length z=some j)(kk:cQ X CL b dQ (δ1.set i (some (T.lV p QuE t1))) D)
  (q:∀v,assign QpO X.env v=(do
   let I ← holding [v] (eval e0 X.env)
   let iv ← holding [v,I] (eval e2 X.env)
   standAt ps
   holding [v,I,iv] (setItem I iv v)
   release [v,I,iv] []):=by intro _;rfl)
  (hs:swapsWithSole [.Subscript e0 e2 ps] e pos.line X.env=pure false:=by rfl) (hw:swappedStores [.Subscript e0 e2 ps] e X.env=pure none:=by rfl) (c:(assignEach [.Subscript e0 e2 ps] X.env).map (·.2)=[assign QpO X.env]:=by rfl) :
  cQ X CL b Qk7 U D:=by
 refine bS λH Z Y ts vs E S M=>lT (ajb cL (aja cL cL set_list q) hs hw c) (h H Z Y ts vs _ S λv H1 Z1 k k1 B=>?_);have o:=(Jl d).2.1;refine r H1 Z1 Y _ _ _ B λv0 w H2 Z2 g k2 A ev l=>h2 H2 Z2 Y _ _ _ A λv2 F Z3 f k3 y m=>?_;obtain⟨a,us,s,u,n,x⟩:=y.akx ev h1 C (l.mono k3) o;exact⟨a,us,z,j,s,m.sc rfl,u,n▸d,M.nx _ Y _ Z3 (k.trans QoO) x kk⟩
end
theorem cM.none{m:Str}:∀{fs:BS} {gs:Bz} {fp:BY},cM K CL H Z fs gs fp->fs.lookup m=none->gs.lookup m=none:=by
 intro fs
 induction fs with
 | nil=>intro gs fp r _;cases r;rfl
 | cons p fs a=>
  intro gs fp r h;cases r with
  | cons q r=>
   rw[mf]at h ⊢;split at h
   .cases h
   .exact a r h
section
variable{δ1:BB}{e o:Expr}{es:Ch}{pos pp apos:Pos}{c m:Str}{is:Cn}{fx:BY->Prop}{al:BY->Bn}{y:Addr}{fs:BS}{A:Type}{k n:Nat}{f:Addr}{fd:QaT}{ps:At}{arg:Qbt}{Pre:Q2}{res:QaU}{out:Qbt}
theorem Xo{H1 Z1:Hp}{al:Bn}{ys:BY}{ns:Bn}{Q:VK}{E:XK}(a:A)(j:arg a=al)(h:QcP)(x:Pre a)(e:res a=t)(f:HV Qfw ys ns)(G:Hk Y is ys)(D:∀i∈is,i<δ1.length)(y:us.length=al.length)
  (l:bq X.K CL b H1 Z1 δ1 Y (al.reverse++ts) QdG) (kk:∀v H' Z',aB Z1 Z'->bq X.K CL b H' Z' (xi δ1 is ns) Y Qb5 QaS->Q v H'):uu X.K CL n arg Pre res out us H1 Q E:=by
 obtain⟨g,r,nd,k⟩:=l.cut WB;obtain⟨p,m,pm⟩:=r.rev;have C:tV H1 g=tV H1 p:=funext λc=>by
  by_cases d:c∈g
  .rw[qT d,qT QuF]
  .rw[jO d,jO Qq3]
 rw[C]at k;rw[<- j]at m;refine⟨Z1,a,p,k.zh,l.tp,m,pm.nodup_iff.2 nd,h,x,l.QH,λv H' W' fp B ww w nw tp rt F own=>?_⟩;cases rt with
 | @cons _ _ _ _ f1 f2 q1 o=>
  have q:(f2++(f1++[])).Perm QkE:=by rw[js];exact mI
  have u:=k.aow B ww w nw tp (aQ.app o (.cons q1 .nil)) (q.nodup_iff.2 F) λc d=>own c (q.mem_iff.1 d);rw[i3,i3]at u;have s:=u.Y2 o.length G f D;rw[e]at s;exact kk v H' W' ww s
inductive Recv(U:BB)(i:Nat)(c:Str)(fs:BS):Qg6->Prop where
 | own:U[i]? = some (some QaZ)->Recv U i c fs QgN
 | pin {y:Addr}:U[i]? = some (some (.pin y QaZ))->Recv U i c fs (λz=>z=y)
theorem bq.recv{g:Qg6}(S:Qf8)(h:Qjs):∃y dx gs,g y/\Y[i]? = some QnM/\H y=some QeJ/\(∀m,fs.lookup m=none->gs.lookup m=none)/\bq X.K CL b H Z QdK Y (.pin y QaZ::ts) (.ref y::vs):=by
 cases h with
 | own h=>
  obtain⟨v,e,k⟩:=S.move h;obtain⟨y,rfl,f⟩:=k.ake rfl;obtain⟨fp,gp,_,r,_,_⟩:=f.rep;cases r with
  | cons r _=>
   replace r:=r.QF;obtain⟨a,r⟩:=r;cases a;obtain⟨_,_,_,_,a,d,j,rs⟩:=r.Dt;cases a;cases d;exact⟨y,_,_,trivial,e,j,λm hm=>rs.none hm,f⟩
 | @pin y h=>
  obtain⟨v,e,f⟩:=S.move h;obtain⟨fp,gp,_,r,_,_⟩:=f.rep;cases r with
  | cons r _=>
   replace r:=r.QF;obtain⟨rfl,r⟩:=r;obtain⟨_,_,_,_,a,d,j,rs⟩:=r.Dt;cases a;cases d;exact⟨y,_,_,rfl,e,j,λm hm=>rs.none hm,f⟩
theorem aaX{pl:QhC}{g:Qg6}(a:Addr->BY->A)(ns:Bn)(J:QfM)(hm:Meth X.K (CL c) m f)(F:dz X.prog X.w X.K X.mg X.base oj k f fd ps QrE)(s:Qea)(u:Qgy)
  (nm:QaO) (hi:Qjs) (hf:QgL) (h:S3 X CL b Qau QdK is fx al δ1)
  (B:∀y ys,g y->ys.length=is.length->fx ys->arg Qhs=.pin y QaZ::al ys/\(arg Qhs).length=n/\Pre Qhs/\res Qhs=t/\HV (out Qhs) (y::ys) ns) (L:∀j∈i::is,j<δ1.length)
  (he:Qav:=by exact aZ rfl) (hpl:QaN:=by rfl)
  (r:eval Qeq X.env=(do
   let I ← eval QaP X.env
   standAt apos.atName
   let (f,first) ← holding [I] QiW
   callWith pos f first (backTo pos QeD) QdA):=by rfl) :
  Q5 X CL b Qeq U t (xi δ1 (i::is) ns):=λH Z Y ts vs Q S kk=>by
 obtain⟨y,dx,gs,q,ev,C,hn,M⟩:=S.recv hi;refine cz (Jj Qlx J hm F s u .nil Ds MG he hpl r) ⟨_,ev,y,dx,gs,rfl,C,hn m hf,h H Z Y _ _ _ M λys us H1 Z1 d O o l p k1 P=>?_⟩;obtain⟨h1,h2,G,E,D⟩:=B y ys q d o;refine Xo (is:=i::is) _ h1 h2 G E D ⟨ev,O⟩ L (by simp[l]) ?_ λv H' Z' z N=>kk v H' Z' (p.trans z) N;simp_all
structure Hf(X:Cx)(CL:BM)(c m:Str)(k n:Nat){A:Type}(arg:Qbt)(Pre:Q2)(res:QaU)(out:Qbt):Prop where
 ex:∃f fd ps,Meth X.K (CL c) m f/\dz X.prog X.w X.K X.mg X.base oj k f fd ps QrE/\Binds X.K fd ps []
 room:fj k X.A
 cls:yE X.K (CL c)
theorem qM{pl:QhC}{g:Qg6}{dl:BA}(a:Addr->A)(l:T)(F:Hf X CL c m k n arg Pre res out)(nm:QaO)(hi:Qjs)(h:QqH)(v:∀y,g y->Pre (a y))(p:∀y,g y->res (a y)=t)(o:∀y,g y->HV (out (a y)) [y] [l])
  (hf:QgL:=by rfl) (q:∀y,g y->arg (a y)=.pin y QaZ::dl.map T.sh:=by intros;rfl) (hlen:∀y,(arg (a y)).length=n:=by intros;rfl) (D:QcQ:=by exact iq rfl)
  (he:Qav:=by exact aZ rfl) (hpl:QaN:=by rfl)
  (u:eval Qeq X.env=(do
   let I ← eval QaP X.env
   standAt apos.atName
   let (f,first) ← holding [I] QiW
   callWith pos f first (backTo pos QeD) QdA):=by rfl) :
  Q5 X CL b Qeq U t (δ1.set i (some l)):=by
 obtain⟨⟨f,fd,ps,M,G,bd⟩,r,w⟩:=F;have h':S3 X CL b _ _ [] QgN (λ_=>dl.map T.sh) δ1:=λH Z Y ts vs Q S k=>h H Z Y ts vs Q S λus H' Z' hl z s B=>k [] us H' Z' rfl trivial trivial hl z s B;exact aaX (λy _=>a y) [l] w M G r bd nm hi hf h' (λy ys d hl _=>by
  cases List.length_eq_zero_iff.1 hl;exact⟨q y d,hlen y,v y d,p y d,o y d⟩) (λj C=>by simp_all) he hpl u
end
theorem jF.none{m:Str}:∀{fs:EO} {gs:Bz},jF K CL Z fs gs->fs.lookup m=none->gs.lookup m=none:=by
 intro fs
 induction fs with
 | nil=>intro gs r _;cases r;rfl
 | cons p fs a=>
  intro gs r h;cases r with
  | cons q r=>
   rw[mf]at h ⊢;split at h
   .cases h
   .exact a r h
section
variable{e:Expr}{pos pos':Pos}{D:dw}{dQ:CI}{A:Type}{k:Nat}
theorem akA{z w:Int}(g:Gx X)(nm:Qbl)(d:U[i]? = some (some (.sh (.int z))))(h:Qto)(k:cQ X CL b dQ (U.set i (some (.sh (.int (z+w))))) D) :
  cQ X CL b (.AugAssign Qep .Add e pos::dQ) U D:=bS λH Z Y ts vs E S M=>
 lT (ajc g.nd nm.hi nm.loc cL ajd nm.hf) (by
  obtain⟨v,hv,r⟩:=S.ZN d;cases r;refine⟨_,hv,h H Z Y ts vs _ S λv2 H1 Z1 a k1 f c=>?_⟩;cases c;have hl:i<U.length:=by
   obtain h|h:=Nat.lt_or_ge i _
   .exact h
   simp_all
  exact⟨z,w,rfl,rfl,M.nx _ _ H1 Z1 a ((f.push Qbq).set hl) k⟩)
end
theorem Sr{p:T}{ds:BA}:Keeps (some p::U) (p::ds.map T.sh):=λj y t h=>by
 cases j with
 | zero=>cases h;rfl
 | succ j=>
  simp_all
section
variable{δ1:BB}{e:Expr}{p q:Bool}{D:dw}
def TTm(X:Cx)(CL:BM)(b:Bx)(e:Expr)(U:BB)(p:Bool)(U':BB):Prop:=
 ∀(H Z:Hp) (Y:L2.St) (ts:Bn) (vs:B0) (Q:EM),bq X.K CL b H Z U Y ts vs->(∀H' Z',aB Z Z'->bq X.K CL b H' Z' U' Y ts vs->Q p H')->ZM X e Y H Q
def TWm(X:Cx)(CL:BM)(b:Bx)(e:Expr)(U:BB)(p:Bool)(U':BB):Prop:=
 ∀(H Z:Hp) (Y:L2.St) (ts:Bn) (vs:B0) (Q:EM),bq X.K CL b H Z U Y ts vs->(∀H' Z',aB Z Z'->bq X.K CL b H' Z' U' Y ts vs->Q p H')->EE X e Y H Q
theorem sR.m(h:Qb8):TTm X CL b e U p δ1:=λH Z Y ts vs Q S k=>h H Z Y ts vs Q S λH' Z' z _ a=>k H' Z' z a
theorem p5.m(h:Qvp):TWm X CL b e U p δ1:=λH Z Y ts vs Q S k=>h H Z Y ts vs Q S λH' Z' z _ a=>k H' Z' z a
noncomputable def Ri(h:Qb8)(a:p=q):sR X CL b e U q δ1:=a▸h
end
def z0{α:Type}:Nat->(List α->Prop)->Prop
 | 0,P=>P []
 | n+1,P=>∀a,z0 n λr=>P (a::r)
def J5{α:Type}{n:Nat}{P:List α->Prop}(h:z0 n P):∀us:List α,us.length=n->P us:=by
 intro us hl
 induction us generalizing n P with
 | nil=>subst hl;exact h
 | cons a r b=>subst hl;exact b (h a) rfl
abbrev InG(K:Frag)(x:Str)(f:Addr):Prop:=nsIn K mainGlobals x=some Qc9
structure FG(N P G:At)(sc:Scope):Prop extends dB N P sc where
 lc:Qqp=true
 gb:QpZ=true
def fG{N P G:At}{sc:Scope}(h:dB N P sc:=by exact jN)(lc:Qqp=true:=by decide +kernel)(gb:QpZ=true:=by decide +kernel):FG N P G sc:=⟨h,lc,gb⟩
variable{N P G:At}
def gL(c:QmT)(j:Nat)(a:N[j]? = some x:=by rfl)(hi:X.N[i]? = some x:=by rfl)(hf:X.fn x=true:=by rfl)(hd:AD x:=by decide)(b:AE x:=by decide):Ln X i x:=Mo hi (eq_of_beq (me.1 c.lc _ (kA a))) hf hd b
def gG(c:QmT)(j:Nat)(a:G[j]? = some x:=by rfl):Gl X x:=eq_of_beq (me.1 c.gb _ (kA a))
variable{δ1 U2:BB}{e:Expr}{es:Ch}{ds:BA}{pos:Pos}
def ub(X:Cx)(CL:BM)(b:Bx)(es:Ch)(U:BB)(tl:Bn)(U':BB):Prop:=
 ∀(H Z:Hp) (Y:L2.St) (ts:Bn) (vs:B0) (Q:EN),bq X.K CL b H Z U Y ts vs →
  (∀us H' Z',us.length=tl.length->aB Z Z'->bq X.K CL b H' Z' U' Y Qmb QdG->Q us H')->Ge X es Y H Q
theorem Gf.m(h:Qmv):ub X CL b es U tl δ1:=λH Z Y ts vs Q S k=>h H Z Y ts vs Q S λv H' Z' l z _ a=>k v H' Z' l z a
def CT:ub X CL b [] U [] U:=bu.m
theorem gD(h1:Qdw)(h2:ub X CL b es δ1 tl U2)(hs:Qav:=by exact aZ rfl):ub X CL b Qau U (t::tl) U2:=λH Z Y ts vs Q S k=>
 QG Qom (h1 H Z Y ts vs _ S λv H1 Z1 c d=>h2 H1 Z1 Y _ _ _ d λus H2 Z2 hl a f=>k _ H2 Z2 (by simp[hl]) Qdd WA)
def afq(h:Qdw):Q5 X CL b e U QgB δ1:=λH Z Y ts vs Q S k=>h H Z Y ts vs Q S λv H1 Z1 c f=>by
 obtain⟨Z2,a,d⟩:=f.Jw;exact k v H1 Z2 Qdd d
def U3(h:ub X CL b es U tl δ1)(hl:Qne):Q5 X CL b Qi1 U (.tup tl) δ1:=λH Z Y ts vs Q S k=>
 cz (Zq MG) (h H Z Y ts vs _ S λus H1 Z1 d e i=>⟨ d▸hl,λp f=>by
  obtain⟨a,c,g⟩:=i.Jz d f;exact k _ _ _ (e.trans a) g⟩)
theorem aaZ(h:ub X CL b es U Qcz δ1)(hl:Qb7):Q5 X CL b Qi1 U QdE δ1:=by
 have:=afq (U3 (pos:=pos) (j:=j) h WA)
 rwa [T.cu,kU]at this
variable{tl0:Bn}{pp pa pb:Pos}{dQ:CI}{DD:dw}
def S1(n:QaO)(h0:U[i]? = some Qi0)(h:Qdw)(h1:δ1[i]? = some QdX)(hl:Qnt)(k:Qrk)
  (l:QkP:=by rfl)
  (g:QhD:=by rfl)
  (c:Qf5:=by rfl) (hs:Qan:=by exact aZ rfl) (s:Qk0:=by rfl) :
  cQ X CL b QuW U DD:=bS λH Z Y ts vs E S M=>
 lT (vt (HD wy Jp Jn vA Qex QaH l g c hs rfl) s) (by
  obtain⟨v0,e0,j⟩:=S.look h0;refine⟨v0,e0,?_,?_⟩
  .obtain⟨_,_,rfl,o,_⟩:=j.gT;exact .inl ⟨rfl,_,o⟩
  .refine h H Z Y ts vs _ S λv H1 Z1 f r=>?_;obtain⟨a,us,d,p,m,q⟩:=r.append h1;rw[e0]at d;cases d;exact⟨a,us,v,rfl,rfl,p,by rw[m];exact nq hl Wm,M.nx _ Y _ Z1 f q k⟩)
namespace Dk
variable{prog:Qag}{w:World}{A:Qas}{E:BN}{s:Qb}{it d:Addr}{ep:Nat}{es:Qjm}{od:Obj}
def aa1{Q:BN}(hd:(d==sysModules)=false)(b:s.heap.get? d=some od)(a:s.TypeIs (.ref d) "dict")(c:od.data=.dict es ep)
  (hQ:Q QcX {s with heap:=s.heap.push {cls:=.type "dict_keyiterator",data:=.fields #[.ref d,.int 0 0,.int es.size 0,.int ep 0]}}):wpAny Qah A (pyIter (.ref d)) Q E s:=by
 refine wpAny_pyIter_slot a PySem.F.slot_dict_iter (wpAny_call_entry PySem.F.slot_dict_iter a PySem.F.entry_dict_iter ?_ (PySem.F.args_dict_iter_1 _));unfold Builtin.«dict.__iter__» Builtin.Dict.dictSlotNone;refine ec (ec (wpAny_notOrdered_dict a (show wpAny _ _ (pure (Value.ref d)) _ _ s from i2 ?_)));show wpAny _ _ (Builtin.Dict.showsAll d >>= _) _ _ s;unfold Builtin.Dict.showsAll;rw[bX (by rw[hd];exact l9)];exact wpAny_bind (wpAny_pure (wpAny_bind (wpAny_dictEntries b c (wpAny_bind (wpAny_dictEpoch b c (wpAny_bind (wpAny_newObj_type (wpAny_pure ⟨_,rfl,"dict_keyiterator",_,⟨_,Heap.get?_push_size _ rfl,rfl⟩,PySem.F.slot_dict_keyiterator_next.lookup,by simpa [rawInt] using hQ⟩))))))))
theorem NB{Q:Option Value->Shared->Prop}(n:Qeb)(hit:s.heap.IsKeyIter it d i es.size ep)(f:s.heap.get? d=some od)(g:od.data=.dict es ep)
  (hQ:∀e,es[i]? = some e->∀h',h'.IsKeyIter it d Qbe es.size ep->Heap.SameBut it s.heap h'->Q (some e.key) {s with heap:=h'}) (q:es.size<=i->∀h',Heap.ExtBut it s.heap h'->Q none {s with heap:=h'}):wpAny Qah A QnJ Q E s:=by
 obtain⟨o,j,p,hd⟩:=id hit;have k:Builtin.Dict_items.ownsTuple "dict_keyiterator" = false:=by decide
 unfold pyNext;refine ec (wpAny_attempt (wpAny_callSpecial?_slot (name:=Str.ofString "__next__") hit.typeIs PySem.F.slot_dict_keyiterator_next (wpAny_call_entry PySem.F.slot_dict_keyiterator_next hit.typeIs PySem.F.entry_dict_keyiterator_next (ec (i2 ?_)) (PySem.F.args_dict_keyiterator_next_1 _))));refine ec (ec (ec (IM hit.typeIs (i2 (ec (wpAny_fieldsOf j hd ?_))))));simp only[k,pj,n3];show wpAny _ _ (if Qs6=true then _ else _) _ _ s;rw[bX (show ¬ (Qs6=true) from l9)];refine ec (i2 (ec (wpAny_dictEntries f g ?_)));rw[bX Wp];refine ec (i2 (ec (wpAny_dictEpoch f g ?_)));rw[bX Wp];refine i2 ?_;by_cases l:i<es.size
 .have c:=Array.getElem?_eq_getElem l;simp only[show ¬ ((i:Int)<0) from by lia,n3,k4,c];refine ec (ec (IM hit.typeIs (i2 (ec (wpAny_isOneOf_keyiter hit.typeIs ?_)))));show wpAny _ _ (setField QbJ 1 Qmy >>= _) _ _ s;have h:(s.heap.update it (Obj.mapFields (·.setIfInBounds 1 Qmy))).IsKeyIter it d Qbe es.size ep:=
   ⟨_,vr _ j (Obj.isFreed_of_fields (ze hd _)),(Obj.cls_mapFields ..).trans p,by rw[ze hd];simp[rawInt]⟩
  refine ec (wpAny_setField j hd Wp (ec (tG (ec (wpAny_isOneOf_keyiter (s:={s with heap:=s.heap.update it (Obj.mapFields (·.setIfInBounds 1 Qmy))}) h.typeIs ?_)))));show wpAny _ _ (pure es[i].key) _ _ _;exact i2 (i2 ⟨_,rfl,i2 (hQ _ c _ h (w8 ..))⟩)
 .have c:=Nat.le_of_not_lt l;simp only[show ¬ ((i:Int)<0) from by lia,n3,k4,Array.getElem?_eq_none c];refine ec (ec (IM hit.typeIs (i2 ?_)));show wpAny _ _ (setField QbJ 0 .none >>= _) _ _ s;refine ec (wpAny_setField j hd Wp ?_);show wpAny _ _ (newExc (.type "StopIteration") [] >>= _) _ _ _;refine ec ?_;simp only[newExc,newTuple];refine ec (wpAny_newObj_type (ec (m:=firstArgMember _ _) (wpAny_of_eq (a:=Value.none) (by first|rfl|(simp only[firstArgMember];rfl)) (wpAny_newObj_type ?_ (by size_fits)))) (by size_fits));simp only[raiseNew];refine ec (wpAny_handled ?_);rw[show A.in1.handled=none from n];refine ec (i2 (wpAny_throw ?_));exact ec (wpAny_isInstance (T:="StopIteration") (b:=true) ⟨_,l6 _ rfl,rfl⟩ isSubtype_stop (i2 (q c _ (((w8 ..).extBut.push _).push _))))
end Dk
end L3
namespace L2
open PySem PySem.Spec PyProof.Rows
variable{X:Cx}{pins:BC}{Y:St}{H:Hp}{s:Qb}{a:Addr}{gs:B1}{o:Obj}
theorem Inv.told{u u0:HO}(I:QE)(f:H a=some u0)(j:dU X.prog X.w (upd H a u) s.heap a u)(l:∀xs,u0 ≠ .tup xs)(hz:∀d q,X.kc a≠some (.cu d q))(r:∀ps,u0 ≠ .tbl ps)(hw:∀y,u0 ≠ .own y)(o:∀q,u0 ≠ .Um q):Inv X pins Y (upd H a u) s:=by
 have ne:∀b,H b=none->b≠a:=λb e z=>by rw[z,f]at e;cases e
 have n1:∀b xs,H b=some Qbc->upd H a u b=some Qbc:=λb xs e=>by
  rw[au λz=>by rw[z,f]at e;cases e;exact l _ rfl];exact e
 refine⟨I.ok,I.os,I.bare,⟨I.base.keep,I.base.slot,λb d e n i=>?_,I.base.there,λb xs e=>n1 b xs QuP,λb d q e=>?_,λb ps e=>?_⟩,I.loc,I.cell,?_,λx c e=>?_,λp m=>?_,λb v q=>?_,I.len⟩
 .have:=I.base.free b d e n i;rw[au (ne b this)];exact this
 .rw[au λz=>by rw[z]at e;exact hz _ _ e];exact I.base.cD b d q e
 .obtain⟨more,q⟩:=I.base.xh b ps e;exact⟨more,by rw[au λz=>by rw[z,f]at q;cases q;exact r _ rfl];exact q⟩
 .rw[au (ne _ I.free)];exact I.free
 .rw[au (ne _ QjQ)];exact I.lB x c e
 .obtain⟨p1,p2,h⟩:=I.pin p m;exact⟨p1,by rw[au (ne _ p2)];exact p2,h⟩
 .by_cases e:b=a
  .subst e;rw[aC]at q;cases q;exact j
  .rw[au e]at q;exact(I.cR b v q).yz QgC (λc z=>by rw[au λg=>by rw[g,f]at z;cases z;exact hw _ rfl];exact z) n1 λc k z=>by rw[au λg=>by rw[g,f]at z;cases z;exact o _ rfl];exact z
theorem Inv.X2(I:QE)(b:H a=some QaB):∃o,s.heap.get? a=some o/\(∀f q,X.kc a≠some (.cu f q))/\Inv X pins Y (upd H a Qat) s:=by
 have hz:∀f q,X.kc a≠some (.cu f q):=λf q e=>by
  have:=I.base.cD a f q e;rw[b]at this;cases this
 have k:=(show dU X.prog X.w H s.heap a QaB from I.cR a _ b);obtain⟨_,_,_,_,o,es,ep,e,_⟩:=id k;refine⟨o,e,hz,I.told b ⟨e,?_⟩ (λ_ z=>nomatch z) hz (λ_ z=>nomatch z) (λ_ z=>nomatch z) λ_ z=>nomatch z⟩;exact k.yz QgC (λc z=>by rw[au λd=>by rw[d,b]at z;cases z];exact z) (λc xs z=>by rw[au λd=>by rw[d,b]at z;cases z];exact z) λc k z=>by rw[au λd=>by rw[d,b]at z;cases z];exact z
theorem Inv.Xp(I:QE)(d:H a=some Qat)(hz:∀f q,X.kc a≠some (.cu f q)):Inv X pins Y Qjg s:=by
 obtain⟨_,k⟩:=(show dU X.prog X.w H s.heap a Qat from I.cR a _ d);refine I.told d ?_ (λ_ z=>nomatch z) hz (λ_ z=>nomatch z) (λ_ z=>nomatch z) λ_ z=>nomatch z;exact k.yz QgC (λc z=>by rw[au λb=>by rw[b,d]at z;cases z];exact z) (λc xs z=>by rw[au λb=>by rw[b,d]at z;cases z];exact z) λc k z=>by rw[au λb=>by rw[b,d]at z;cases z];exact z
def x2(a:Addr)(o:Obj)(gs:B1):It:=
 ⟨λi H=>i<gs.length/\H a=some Qat,λi H x H'=>H'=H/\∃b k v,x=.ref b/\gs[i]? = some (k,v)/\H b=some Qf9,λi H=>gs.length<=i/\H a=some Qat⟩
theorem Paired.we{α β:Type}{F:Qn0}{l:Qaa}{m:List β}(r:Paired F l m):∀{i:Nat} {x:α},l[i]? = some x->∃y,m[i]? = some y/\F x y:=by
 induction r with
 | nil=>intro i x e;simp at e
 | cons h _ a=>
  intro i x e;cases i with
  | zero=>cases e;exact⟨_,rfl,h⟩
  | succ j=>exact a e
theorem aa2{P:Qag}{w:World}{K:Frag}{tg:Expr}{it:Addr}{es:Qjm}{ep:Nat}(m:o.data=.dict es ep):Turn P w K tg Qhb [it] it (λi h=>h.IsKeyIter it a i es.size ep) where
 mem:=by simp
 obj:=λi h st b j=>by
  have e:b=it:=by simpa using j
  subst e;obtain⟨f,e,c,d⟩:=st;exact⟨f,e,λv z=>by rw[d]at z;cases z⟩
 keep:=λi h h' st k=>st.at λf e=>k it Wp f e
 item:=by
  intro X u hw A p i pins s Y H E I hf st n;subst u hw A;obtain⟨G,t⟩:=n;obtain⟨e,z,y,xs,r,o',D,F,l,c,d,g,nd⟩:=(show dU X.prog X.w H s.heap a Qat from I.cR a _ t);rw[e]at l;cases l;rw[m]at d;cases d;obtain⟨f0,f1,f2,C,f4,B⟩:=hf it Wp;obtain⟨q,O,q1,N,V⟩:=Paired.we r (i:=i) (x:=gs[i]) (kf G);have J:es[i]? = some (entryOfKey (tupleKind (fL X.prog X.w)) q):=by
   rw[<- Array.getElem?_toList,g,j2,O];rfl
  refine L3.Dk.NB (I.ok.hd p) st e m (λl he h' L M=>?_) λz=>absurd J (by rw[Array.getElem?_eq_none z];simp);rw[J]at he;cases he;have U:Inv X pins Y H {s with heap:=h'}:=I.turned (t':=s.toks) (λb f j e=>(M.2 b j).trans e) f0 f1 C f4 B;obtain⟨f,e2,T,d2⟩:=id L;exact⟨_,rfl,M0 (s:={s with heap:=h'}) e2 T d2 Wm ⟨.ref q.2.1,H,U,rfl,⟨rfl,q.2.1,gs[i].1,gs[i].2,rfl,kf G,N⟩,L,λb j=>(hf b j).1⟩⟩
 done:=by
  intro X u hw A p i pins s Y H E I hf st n;subst u hw A;obtain⟨R,t⟩:=n;obtain⟨e,z,y,xs,r,o',D,F,l,c,d,g,nd⟩:=(show dU X.prog X.w H s.heap a Qat from I.cR a _ t);rw[e]at l;cases l;rw[m]at d;cases d;obtain⟨f0,f1,f2,C,f4,B⟩:=hf it Wp;have hl:=vx r;have hsz:es.size=xs.length:=by rw[<- Array.length_toList,g,cK]
  exact L3.Dk.NB (I.ok.hd p) st e m (λl he=>by rw[Array.getElem?_eq_none We]at he;cases he) λ_ h' S=>⟨rfl,I.turned (t':=s.toks) (λb f j e=>S b f j e) f0 f1 C f4 B⟩
 self:=λ_ _ _ _ _ st h=>wpAny_pyIter_keyiter st h
end L2
namespace L3
open PySem PySem.Spec PyProof.Rows L2
def Conv(Z Z':Hp):Prop:=∀c o,Z c=some o->Z' c=some o\/(∃gs a,o=.dT gs/\Z' c=some (.cu a QaB))\/∃gs a,o=.cu a QaB/\Z' c=some QaB
variable{K:Frag}{CL:BM}{Z Z':Hp}{a:Addr}
theorem Conv.keep{o:HO}(e:Qb9)(h:Z a=some o)(h1:∀gs,o ≠ .dT gs)(h2:∀gs b,o ≠ .cu b QaB):Z' a=some o:=by
 obtain q|⟨gs,b,q,_⟩|⟨gs,b,q,_⟩:=e a o h
 .exact q
 .exact absurd q (h1 gs)
 .exact absurd q (h2 gs b)
variable{xs:B0}
theorem Conv.Gb(e:Qb9)(h:tL K Z a xs):tL K Z' a xs:=by
 rcases h with(h|⟨o,h⟩)|h
 .exact .inl (.inl (e.keep h (λ_ z=>nomatch z) λ_ _ z=>nomatch z))
 .exact .inl (.inr ⟨o,e.keep h (λ_ z=>nomatch z) λ_ _ z=>nomatch z⟩)
 .exact .inr h
theorem Conv.Hu(e:Qb9)(h:mJ K Z a xs):mJ K Z' a xs:=by
 rcases h with(h|⟨o,h⟩)|h
 .exact .inl (.inl (e.keep h (λ_ z=>nomatch z) λ_ _ z=>nomatch z))
 .exact .inl (.inr ⟨o,e.keep h (λ_ z=>nomatch z) λ_ _ z=>nomatch z⟩)
 .exact .inr h
variable{gs:B1}
theorem Conv.rd(e:Qb9)(h:Rd Z a QaB):Rd Z' a QaB:=by
 obtain h|⟨o,h⟩:=h
 .obtain q|⟨g,b,q,z⟩|⟨g,b,q,z⟩:=e a _ h
  .exact .inl q
  .cases q;exact .inr ⟨b,z⟩
  .cases q
 .obtain q|⟨g,b,q,z⟩|⟨g,b,q,z⟩:=e a _ h
  .exact .inr ⟨o,q⟩
  .cases q
  .cases q;exact .inl z
variable{v:V}
theorem bz.conv(e:Qb9){d:D}(h:QcO):bz K CL Z' d v:=
 bz.rec (motive_1:=λd v _=>bz K CL Z' d v) (motive_2:=λd v _=>ay K CL Z' d v) (motive_3:=λd v _=>jF K CL Z' d v) (motive_4:=λd v _=>bR K CL Z' d v) (motive_5:=λd v _=>dO K CL Z' d v)
  .non .bl .int .str .any .val Qlo Qlp (λh _ r=>.ins (e.keep h (λ_ z=>nomatch z) λ_ _ z=>nomatch z) r) (λh _ r=>.jt (e.keep h (λ_ z=>nomatch z) λ_ _ z=>nomatch z) r) Qlq (λh _ _ r q=>.j5 (e.keep h (λ_ z=>nomatch z) λ_ _ z=>nomatch z) r q) .nil Qab .nil Qab .nil Qab .nil Qab h
theorem bR.conv(e:Qb9){d:CO}{v:CU}(h:bR K CL Z d v):bR K CL Z' d v:=
 bR.rec (motive_1:=λd v _=>bz K CL Z' d v) (motive_2:=λd v _=>ay K CL Z' d v) (motive_3:=λd v _=>jF K CL Z' d v) (motive_4:=λd v _=>bR K CL Z' d v) (motive_5:=λd v _=>dO K CL Z' d v)
  .non .bl .int .str .any .val Qlo Qlp (λh _ r=>.ins (e.keep h (λ_ z=>nomatch z) λ_ _ z=>nomatch z) r) (λh _ r=>.jt (e.keep h (λ_ z=>nomatch z) λ_ _ z=>nomatch z) r) Qlq (λh _ _ r q=>.j5 (e.keep h (λ_ z=>nomatch z) λ_ _ z=>nomatch z) r q) .nil Qab .nil Qab .nil Qab .nil Qab h
theorem ay.conv(e:Qb9){d:BA}{v:B0}(h:QoC):ay K CL Z' d v:=
 ay.rec (motive_1:=λd v _=>bz K CL Z' d v) (motive_2:=λd v _=>ay K CL Z' d v) (motive_3:=λd v _=>jF K CL Z' d v) (motive_4:=λd v _=>bR K CL Z' d v) (motive_5:=λd v _=>dO K CL Z' d v)
  .non .bl .int .str .any .val Qlo Qlp (λh _ r=>.ins (e.keep h (λ_ z=>nomatch z) λ_ _ z=>nomatch z) r) (λh _ r=>.jt (e.keep h (λ_ z=>nomatch z) λ_ _ z=>nomatch z) r) Qlq (λh _ _ r q=>.j5 (e.keep h (λ_ z=>nomatch z) λ_ _ z=>nomatch z) r q) .nil Qab .nil Qab .nil Qab .nil Qab h
variable{H H':Hp}{t:T}{fp:BY}
theorem bD.conv(e:Qb9)(k:∀a∈fp,H' a=H a)(h:QfF):bD K CL H' Z' t v fp:=
 bD.rec (motive_1:=λt v fp _=>(∀a∈fp,H' a=H a)->bD K CL H' Z' t v fp) (motive_2:=λt v fp _=>(∀a∈fp,H' a=H a)->aQ K CL H' Z' t v fp) (motive_3:=λt v fp _=>(∀a∈fp,H' a=H a)->cM K CL H' Z' t v fp) (motive_4:=λt v fp _=>(∀a∈fp,H' a=H a)->cG K CL H' Z' t v fp)
  (λh _=>.sh (h.conv e)) (λh _ r k=>.tup (e.keep h (λ_ z=>nomatch z) λ_ _ z=>nomatch z) (r k)) Qer Qes Qp6 Qet Qey QpH QaC QaV QaC QaV QaC QaV h k
theorem aQ.conv(e:Qb9){t:Bn}{v:B0}(k:∀a∈fp,H' a=H a)(h:Qnl):aQ K CL H' Z' t v fp:=
 aQ.rec (motive_1:=λt v fp _=>(∀a∈fp,H' a=H a)->bD K CL H' Z' t v fp) (motive_2:=λt v fp _=>(∀a∈fp,H' a=H a)->aQ K CL H' Z' t v fp) (motive_3:=λt v fp _=>(∀a∈fp,H' a=H a)->cM K CL H' Z' t v fp) (motive_4:=λt v fp _=>(∀a∈fp,H' a=H a)->cG K CL H' Z' t v fp)
  (λh _=>.sh (h.conv e)) (λh _ r k=>.tup (e.keep h (λ_ z=>nomatch z) λ_ _ z=>nomatch z) (r k)) Qer Qes Qp6 Qet Qey QpH QaC QaV QaC QaV QaC QaV h k
variable{U:BB}{Y:L2.St}
theorem fH.conv(e:Qb9)(k:∀a∈fp,H' a=H a)(r:QiZ):fH K CL H' Z' U Y fp:=by
 induction r with
 | nil=>exact .nil
 | skip _ b=>exact .skip (b k)
 | cons r _ b=>exact .cons (r.conv e λa c=>k a QkD) Qsl
def MW(X:Cx)(te:TE):TI:=λY H R=>te Y H λx H1=>∃a gs,x=.ref a/\((H1 a=some QaB/\∀o,(∀b q,X.kc a≠some (.cu b q))->R Qhb QnC)\/∃o,H1 a=some Qat/\R Qhb H1)
variable{X:Cx}{e:Expr}
def akD{tg:Expr}{te:TE}(he:Qb6):PI X tg e (MW X te):=by
 intro pins s Y H R I h;refine dP Qcd λv s1 zz=>?_;obtain⟨x,H1,j,k,a,gs,ex,q⟩:=zz;subst ex;cases k;have main:∀(H2:Hp) (o:Obj),L2.Inv X pins Y H2 s1->H2 a=some Qat->R Qhb H2->wpAny Qe X.A (pyIter Q3) Qm4 X.xe s1:=λH2 o f g n=>by
  obtain⟨e,z,y,xs,r,o',es,ep,i,c,d,l,nd⟩:=(show dU X.prog X.w H2 s1.heap a Qat from f.cR a _ g);rw[e]at i;cases i;obtain⟨_,_,_,_,dd⟩:=BH f.cR (.inr ⟨o,g⟩);refine Dk.aa1 y e dd.typeIs d ?_;refine⟨s1.heap.objs.size,[s1.heap.objs.size],_,_,H2,rfl,f.kept (t':=s1.toks) λb p e=>ka _ e,aa2 d,⟨_,l6 _ rfl,rfl,rfl⟩,λb m=>?_,n⟩;have e:b=s1.heap.objs.size:=by simpa using m
  subst e;exact f.Di (ik _) (f.cR.fresh (ik _))
 obtain⟨g,q⟩|⟨o,g,q⟩:=q
 .obtain⟨o,e,hz,f⟩:=j.X2 g;exact main _ o f aC (q o hz)
 .exact main _ o j g q
def akE(X:Cx)(E:Ends):Ends:=
 ⟨λY H=>E.nx Y H\/∃a o gs,H a=some Qat/\(∀b q,X.kc a≠some (.cu b q))/\E.nx Y Qjg,λv H=>E.rt v H\/∃a o gs,H a=some Qat/\(∀b q,X.kc a≠some (.cu b q))/\E.rt v Qjg,E.bk,E.ct⟩
variable{st:Stmt}
theorem Xq{E:Ends}(h:WN X st (akE X E) Y H):WN X st E Y H:=λpins s I=>by
 refine la (h pins s I) (λf s' z=>?_) λ_ _ z=>z;cases f with
 | next=>
  obtain⟨Y',H',b,q⟩:=z;obtain q|⟨a,o,gs,c,hz,q⟩:=q
  .exact⟨Y',H',b,q⟩
  .exact⟨Y',_,b.Xp c hz,q⟩
 | ret u=>
  obtain⟨v,Y',H',b,r,q⟩:=z;obtain q|⟨a,o,gs,c,hz,q⟩:=q
  .exact⟨v,Y',H',b,r,q⟩
  .exact⟨v,Y',_,b.Xp c hz,r,q⟩
 | brk=>exact z
 | cont=>exact z
noncomputable def xD(b:Bx)(a:Addr)(F:HO):Bx:=⟨λc=>if c=a/\(b.B a).isSome=true then some F else b.B c,λc=>if c=a/\(b.Z a).isSome=true then some F else b.Z c⟩
variable{b:Bx}{ts:Bn}{vs:B0}{o:Obj}
def fK{F:HO}{c:Addr}(h:c≠a):(xD b a F).B c=b.B c/\(xD b a F).Z c=b.Z c:=⟨bX λz=>h z.1,bX λz=>h z.1⟩
theorem bq.q0(S:Qao)(f:Z a=some QaB)(o:Obj):bq K CL QgR (upd H a Qat) (upd Z a Qat) U Y ts vs:=by
 have h:Conv Z (upd Z a Qat):=λc u q=>by
  by_cases e:c=a
  .subst e;rw[f]at q;cases q;exact .inr QlF
  .exact .inl (by rw[au e];exact q)
 obtain⟨fp,gp,e,r,nd,k⟩:=S.rep;have ne:∀c∈fp++gp,c≠a:=λc d z=>by
  have:=(k c d).1;rw[z,f]at this;cases this
 have j:=S.zh a _ f;refine⟨⟨fp,gp,e.conv h λc d=>au (ne c QkF),r.conv h λc d=>au (ne c (iF _ d)),nd,λc d=>⟨by rw[au QkG];exact(k c d).1,by rw[(fK QkG).1];exact(k c d).2⟩⟩,λc u q=>?_,λc u q=>?_,λc u q=>?_,λc u q z=>?_,λc u q im=>?_,λx i h0=>?_⟩
 .by_cases e:c=a
  .subst e;rw[aC];have q:QpS=some u:=q;by_cases hs:(b.B c).isSome=true
   .rw[cq ⟨rfl,hs⟩]at q;exact q
   .rw[bX λz=>hs z.2]at q;rw[q]at hs;exact absurd rfl hs
  .rw[(fK e).1]at q;rw[au e];exact S.bh c u q
 .by_cases e:c=a
  .subst e;rw[aC];have q:QpT=some u:=q;by_cases hs:(b.Z c).isSome=true
   .rw[cq ⟨rfl,hs⟩]at q;exact q
   .rw[bX λz=>hs z.2]at q;rw[q]at hs;exact absurd rfl hs
  .rw[(fK e).2]at q;rw[au e];exact S.zz c u q
 .by_cases e:c=a
  .subst e;rw[aC]at q ⊢;exact q
  .rw[au e]at q ⊢;exact S.zh c u q
 .by_cases e:c=a
  .subst e;have z:QpT=none:=z;have hz:b.Z c=none:=by
    by_cases hs:(b.Z c).isSome=true
    .rw[cq ⟨rfl,hs⟩]at z;cases z
    .rw[bX λz=>hs z.2]at z;exact z
   have g:=S.new c _ f hz;show QpS=none;rw[bX λz=>by rw[g]at z;exact absurd z.2 Wm];exact g
  .rw[au e]at q;rw[(fK e).2]at z;rw[(fK e).1];exact S.new c u q z
 .by_cases e:c=a
  .subst e;rw[aC]at q ⊢;exact q
  .rw[au e]at q ⊢;exact S.tp c u q im
 .have q:=S.tab x i h0;have e:CL x≠a:=λz=>by
   have:=S.zz _ _ q;rw[z,f]at this;cases this
  rw[(fK e).2];exact q
theorem bq.Xp(S:bq K CL QgR H Z U Y ts vs)(f:Z a=some Qat)(h1:∀u,b.B a=some u->u=.dT gs)(h2:∀u,b.Z a=some u->u=.dT gs)(i:b.Z a=none->b.B a=none):bq K CL b Qjg (upd Z a QaB) U Y ts vs:=by
 have g:Conv Z (upd Z a QaB):=λc u q=>by
  by_cases e:c=a
  .subst e;rw[f]at q;cases q;exact .inr (.inr ⟨gs,o,rfl,aC⟩)
  .exact .inl (by rw[au e];exact q)
 obtain⟨fp,gp,e,r,nd,k⟩:=S.rep;have ne:∀c∈fp++gp,c≠a:=λc d z=>by
  have:=(k c d).1;rw[z,f]at this;cases this
 refine⟨⟨fp,gp,e.conv g λc d=>au (ne c QkF),r.conv g λc d=>au (ne c (iF _ d)),nd,λc d=>⟨by rw[au QkG];exact(k c d).1,by rw[<- (fK (F:=.cu o QaB) QkG).1];exact(k c d).2⟩⟩,λc u q=>?_,λc u q=>?_,λc u q=>?_,λc u q z=>?_,λc u q im=>?_,λx h h0=>?_⟩
 .by_cases e:c=a
  .subst e;rw[aC,h1 u q]
  .rw[au e];exact S.bh c u (by rw[(fK e).1];exact q)
 .by_cases e:c=a
  .subst e;rw[aC,h2 u q]
  .rw[au e];exact S.zz c u (by rw[(fK e).2];exact q)
 .by_cases e:c=a
  .subst e;rw[aC]at q ⊢;exact q
  .rw[au e]at q ⊢;exact S.zh c u q
 .by_cases e:c=a
  .subst e;exact i z
  .rw[au e]at q;have:=S.new c u q (by rw[(fK e).2];exact z)
   rwa [(fK e).1]at this
 .by_cases e:c=a
  .subst e;rw[aC]at q;cases q;cases im
  .rw[au e]at q ⊢;exact S.tp c u q im
 .have q:=S.tab x h h0;have e:CL x≠a:=λz=>by
   have:=S.zz _ _ q;rw[z,f]at this;cases this
  rwa [(fK e).2]at q
theorem bq.Ou(S:Qao)(r:bD K CL H Z t v []):bq K CL b H Z U Y Qb5 QaS:=by
 obtain⟨fp,gp,e,q,nd,k⟩:=S.rep;exact⟨⟨fp,[]++gp,e,.cons r q,nd,k⟩,S.bh,S.zz,S.zh,S.new,S.tp,S.tab⟩
section
variable{D:dw}{pos:Pos}{x:Str}{i:Nat}
def yV{ks:Cc}(n:QaO)(h:U[i]? = some (some (tX ks))):bY X CL b QaE U (tX ks) U:=λH Z Y ts vs Q S k=>by
 obtain⟨fp,gp,e,q,nd,kk⟩:=S.rep;obtain⟨v,f1,f2,d,hv,c,rt,_,_⟩:=e.get h;have h2:f2=[]:=by
  obtain⟨_,_,rfl,hz,a⟩:=rt.lS;exact(aQ.toF a).2
 subst h2;exact cz Qex ⟨v,hv,k v H Z Qr Qr (S.Ou rt)⟩
end
variable{t0:T}{v0 w:V}{i:Nat}{p:QcS}{kvs:CA}{k:Cc}
theorem cG.fresh(rs:QfO)(b:k∉kvs.map (·.1))(v:V):putK gs k v=gs++[(k,v)]:=by
 refine ZF v ?_;cases a:iX gs k with
 | none=>rfl
 | some z=>
  exfalso;refine b ?_;rw[rs.keys];unfold iX at a;obtain⟨q,hf,_⟩:=nr.1 a;have h0:=List.find?_some hf;have h1:q.1=k:=l1 h0;rw[<- h1];exact List.mem_map_of_mem (IF hf)
theorem bq.afr(S:QbT)(ev:Y[i]? = some Qct)(hi:U[i]? = some Qb2)(n:T.lF p t0=some QcF)(h:Qek)(o:k∉kvs.map (·.1)) :
  ∃a gs,w=.ref a/\H a=some QaB/\gs.length=kvs.length/\bq K CL b Qtk Z (U.set i (some (T.lV p Qgl t0))) Y ts vs:=by
 obtain⟨f2,gp,j,l,nd,go⟩:=S.AF ev hi n h;cases j with
 | @dct a gs _ g q rs=>
  cases l with
  | @cons _ _ _ _ f e q1 m=>
   have ne:∀c∈g++Qdn,c≠a:=λc d z=>by subst z;exact(l4.1 nd).1 d
   have pm:((a::(g++(f++[])))++e).Perm ((a::g)++Qdn):=tF.2 λc=>by simp only[vi,List.count_cons,List.count_nil];lia
   refine⟨a,gs,rfl,q,rs.length.symm,?_⟩;rw[rs.fresh o];exact go rfl gk rfl (.dct aC (cG.snoc (rs.mono Qr λc d=>au (ne c (by simp[d]))) (q1.mono Qr λc d=>au (ne c (by simp[d])))))
    (m.mono Qr λc d=>au (ne c (by simp[d]))) Qtm λc d=>pm.mem_iff.1 d
section
variable{δ1:BB}{e0 e2:Expr}{t1:T}{D:dw}{pos ps:Pos}{dQ:CI}
theorem U4(k:Cc)(B:Qa0)(h:QaJ)(q:QmS)(h2:Qsw)(h1:δ1[i]? = some Qhj)(y:T.lF p t1=some QcF)(l:k∉kvs.map (·.1))(hl:QiV)(kk:cQ X CL b dQ (δ1.set i (some (T.lV p Qgl t1))) D)
  (hs:QpN:=by rfl):cQ X CL b Qk7 U D:=bS λH Z Y ts vs E S M=>
 lT (Js We cL cL cL hs) (h H Z Y ts vs _ S λv H1 Z1 g k1 x=>q H1 Z1 Y _ _ _ x λv0 w H2 Z2 f k2 u ev j=>h2 H2 Z2 Y _ _ _ u λv2 C Z3 d k3 c=>by
  obtain⟨z,rfl,n⟩:=c.JZ;obtain⟨a,gs,r,o,m,s⟩:=c.pop.afr ev h1 y (j.mono k3) l;exact⟨a,_,r,Jq.t o n (by rw[m];exact nq hl (by rw[ko];decide)),M.nx _ Y _ Z3 (g.trans (f.trans d)) s kk⟩)
end
section
variable{δ1:BB}{D:dw}{pos pp:Pos}
def Xr{ds:BA}(hm:QnK)(h:Qth)(f:QoN)(hs:Qan:=by exact aZ rfl):bY X CL b QqP U QdE δ1:=λH Z Y ts vs Q S k=>
 cz (jz wF f hm tQ QaH (he:=hs)) (h H Z Y ts vs _ S λv H1 Z1 c k1 a=>by
  have r:=a.Gi;obtain⟨_,_,rfl,d,g⟩:=r.lS;exact⟨_,_,rfl,.inr ⟨aB.Gb a.zh d,k _ H1 Z1 c k1 a⟩⟩)
end
variable{kvs:Qnn}
theorem dO.we:∀{kvs:Dx} {gs:B1},dO K CL Z kvs gs->∀{j:Nat} {x:Cc×V},gs[j]? = some x->∃d,kvs[j]? = some (x.1,d)/\bz K CL Z d x.2:=λ{kvs gs} h=>dO.ind (P:=λkvs gs=>∀{j:Nat} {x:Cc×V},gs[j]? = some x->∃d,kvs[j]? = some (x.1,d)/\bz K CL Z d x.2) (λ{j x} e=>by simp at e) (λ{k d v _ _} r _ i {j x} e=>by
  cases j with
  | zero=>
   simp at e;subst e;exact⟨d,rfl,r⟩
  | succ j=>
   rw[LG]at e ⊢;exact i e) h
variable{δ1:BB}{H1 Z1:Hp}
theorem dO.conv(e:Qb9)(h:dO X.K CL Z kvs gs):dO X.K CL Z' kvs gs:=dO.ind (P:=λkvs gs=>dO X.K CL Z' kvs gs) .nil (λr _ i=>.cons (r.conv e) i) h
def X1(X:Cx)(CL:BM)(b:Bx)(δ1:BB)(Y:L2.St)(ts:Bn)(vs:B0)(Z H:Hp)(ds:BA)(J:It)(c:Hp):Prop:=
 Aw X CL b δ1 Y ts vs Z H ds J c\/∃a o gs H1 Z1,Z1 a=some QaB/\aB Z Z1/\aB H H1/\bq X.K CL b H1 Z1 δ1 Y ts vs/\(∀d q,X.kc a≠some (.cu d q))/\c=upd H1 a Qat/\Aw X CL QgR δ1 Y ts vs QgI QnC ds J c
def T.xl:List AA->T->Option T
 | [],t=>some t
 | s::p,t=>(t.core.UZ s).bind (T.xl p)
def T.Xs:List AA->T->T->T
 | [],u,_=>u
 | s::p,u,t=>match t.core.UZ s with
  | some k=>t.J4 (t.core.Rf s (T.Xs p u k))
  | none=>t
variable{u:T}
theorem bD.raw(zh:aB Z H):∀(p:QcS) {t u:T} {v:V} {fp:BY},bD K CL H Z t v fp->T.xl p t=some u->∃w f2,Cp H v p w/\bD K CL H Z u w f2/\∀{b:T},bD K CL H Z b w f2->bD K CL H Z (T.Xs p b t) v fp
 | [],t,u,v,fp,h,e=>by
  cases e;exact⟨v,fp,rfl,h,λr=>r⟩
 | s::p,t,u,v,fp,h,e=>by
  obtain⟨h1,h2⟩:=h.Rg;rw[T.xl]at e;cases a:t.core.UZ s with
  | none=>rw[a]at e;cases e
  | some k=>
   rw[a]at e;obtain⟨c,a1,a2,a3,q1,m,l,j⟩:=h1.UZ zh a;obtain⟨w,f2,g,f,d⟩:=bD.raw zh p l e;refine⟨w,f2,⟨c,q1,g⟩,f,λ{b} i=>?_⟩;rw[T.Xs,a,m];exact h2 (j Qck (d i))
section
variable{o:Expr}{D:dw}{m:Nat}{c:Str}
noncomputable def aoP{U2:BB}(h:QaJ)(q:δ1=U2):bY X CL b e U t U2:=q▸h
structure FqR(X:Cx)(CL:BM)(c m:Str)(k n:Nat){A:Type}(arg:Qaj)(Pre:Q2)(exc:QcR):Prop where
 ex:∃f fd ps,Meth X.K (CL c) m f/\dz X.prog X.w X.K X.mg X.base Qgh k f fd ps Qsx/\Binds X.K fd ps []
 room:fj k X.A
 cls:yE X.K (CL c)
end
instance av1:DecidableEq D:=λa b=>Classical.propDecidable (a=b)
inductive qU:Nat->D->Prop where
 | int (n:Nat) (i:Int):qU n Qba
 | str (n:Nat) (x:Str) (h:PyData.strOk x=true):qU n Qbk
 | tup {n:Nat} {ds:BA} (h:∀d∈ds,qU n d):qU Q4 QdF
variable{n:Nat}
theorem qU.dep{d:D}(h:qU n d):Np n d:=by
 induction h with
 | int n i=>exact .int n i
 | str n x h=>exact .str n x h
 | tup _ a=>exact .tup a
mutual
inductive NV(h:Heap):D->Value->Prop where
 | int (i:Int) (t:Tok):NV h Qba QgS
 | str (x:Str) (t:Tok):NV h Qbk Qo7
 | tup {a:Addr} {o:Obj} {its:Cl} {m:Nat} {ds:BA}:h.get? a=some o->o.cls=.type "tuple"->o.data=.seq its m->o7 h ds its.toList->NV h QdF Q3
inductive o7(h:Heap):BA->B2->Prop where
 | nil:o7 h [] []
 | cons {d:D} {v:Value} {ds:BA} {vs:B2}:NV h d v->o7 h ds vs->o7 h (d::ds) QaS
end
variable{h:Heap}
theorem NV.reads{d:D}{v:Value}(q:NV h d v):∃as,Reads h v d.toPy as:=
 NV.rec (motive_1:=λd v _=>∃as,Reads h v d.toPy as) (motive_2:=λds vs _=>∃as,ReadsAll h vs Qfd as)
  (λi t=>by rw[D.toPy];exact⟨[],.int i t⟩) (λx t=>by rw[D.toPy];exact⟨[],.str x t⟩)
  (λe c f _ ⟨as,a⟩=>by rw[D.toPy];exact⟨as,.tuple e c f a⟩)
  (by rw[D.jJ];exact⟨[],.nil⟩) (λ_ _ ⟨as,a⟩ ⟨bs,b⟩=>by rw[D.jJ];exact⟨as++bs,.cons a b⟩) q
theorem NV.inj{d:D}{v:Value}(q:NV h d v):∀d2,NV h d2 v->d=d2:=
 NV.rec (motive_1:=λd v _=>∀d2,NV h d2 v->d=d2) (motive_2:=λds vs _=>∀d2,o7 h d2 vs->ds=d2)
  (λi t d2 q=>by cases q;rfl) (λx t d2 q=>by cases q;rfl)
  (λe c m _ j d2 q=>by
   cases q with
   | tup l n f g=>
    cases e.symm.trans l;cases m.symm.trans f;rw[j _ g])
  (λd2 q=>by cases q;rfl) (λ_ _ i1 k d2 q=>by
   cases q with
   | cons a b=>rw[i1 _ a,k _ b]) q
theorem NV.keeps{h':Heap}{d:D}{v:Value}{x:Addr}{es:Qjm}{ep:Nat}(q:NV h d v)(i:h.get? x=some o)(hd:o.data=.dict es ep)(hs:Heap.SameBut x h h'):NV h' d v:=
 NV.rec (motive_1:=λd v _=>NV h' d v) (motive_2:=λds vs _=>o7 h' ds vs) .int .str
  (λ{a} {j} {its} {m} {ds} e c f _ g=>.tup ((hs.2 a λz=>by subst z;cases i.symm.trans e;rw[hd]at f;cases f).trans e) c f g)
  .nil (λ_ _ a b=>.cons a b) q
theorem U5{a b:D}(k:qU n a):∀m,qU m b->sy a b=decide (a=b):=by
 induction k generalizing b with
 | int n i=>
  intro m c;unfold sy;cases c with
  | int _ j=>
   rw[D.toPy,D.toPy,PyData.eqv];by_cases e:i=j
   .rw[e,mu rfl,vc]
   .rw[kv (λz=>e (by injection z)),n4.2 e]
  | str _ y _=>rw[D.toPy,D.toPy,PyData.eqv,kv (λz=>by cases z)]
  | tup _=>rw[D.toPy,D.toPy,PyData.eqv,kv (λz=>by cases z)]
 | str n x _=>
  intro m c;unfold sy;cases c with
  | int _ j=>rw[D.toPy,D.toPy,PyData.eqv,kv (λz=>by cases z)]
  | str _ y _=>
   rw[D.toPy,D.toPy,PyData.eqv];by_cases e:x=y
   .rw[e,mu rfl,vc]
   .rw[kv (λz=>e (by injection z)),n4.2 e]
  | tup _=>rw[D.toPy,D.toPy,PyData.eqv,kv (λz=>by cases z)]
 | @tup n xs l g=>
  intro m c;cases c with
  | int _ j=>unfold sy;rw[D.toPy,D.toPy,PyData.eqv,kv (λz=>by cases z)]
  | str _ y _=>unfold sy;rw[D.toPy,D.toPy,PyData.eqv,kv (λz=>by cases z)]
  | @tup m ys h=>
   have all:∀(xs ys:BA),(∀x∈xs,∀b m,qU m b->sy x b=decide (x=b))->(∀y∈ys,qU m y)->PyData.eqvAll (D.jJ xs) (D.jJ ys)=decide (xs=ys):=by
    intro xs
    induction xs with
    | nil=>
     intro ys _ _;cases ys with
     | nil=>rw[D.jJ,PyData.eqvAll,mu rfl]
     | cons _ _=>rw[D.jJ,D.jJ,PyData.eqvAll,kv (λz=>by cases z)]
    | cons x xs d=>
     intro ys h1 h2;cases ys with
     | nil=>rw[D.jJ,D.jJ,PyData.eqvAll,kv (λz=>by cases z)]
     | cons y ys=>
      have e1:PyData.eqv x.toPy y.toPy=decide (x=y):=h1 x gk y m (h2 y gk);rw[D.jJ,D.jJ,PyData.eqvAll,e1,d ys (λz hz=>h1 z Qj8) λz hz=>h2 z Qj8];by_cases e:x=y
      .subst e;by_cases e2:xs=ys
       .subst e2;simp
       .simp[e2]
      .simp[e]
   unfold sy;rw[D.toPy,D.toPy,PyData.eqv,all xs ys (λx f b m c=>g x f m c) h];by_cases e:xs=ys
   .subst e;rw[mu rfl,mu rfl]
   .rw[kv e,kv (λz=>e (by injection z))]
mutual
def D.oC:D->Nat
 | .tup ds=>D.yW ds+1
 | _=>1
def D.yW:BA->Nat
 | []=>0
 | d::ds=>d.oC+D.yW ds
end
theorem yX(w:World):∀ds:BA,D.Jt w ds=ds.map (D.xu w)
 | []=>by rw[D.Jt];rfl
 | d::ds=>by rw[D.Jt,yX w ds];rfl
theorem HY(d:D):∀ds:BA,D.yW (ds++[d])=D.yW ds+d.oC
 | []=>by rw[ri,D.yW,D.yW,D.yW];lia
 | e::ds=>by rw[mv,D.yW,D.yW,HY d ds];lia
variable{P:Qag}{w:World}{A:Qas}{E:BN}
theorem afs:∀(n:Nat) {A:Qas} {E:BN} (l:A.units+n<cLine) {d:D} {v:Value} {s:Qb} {Q:Int->Shared->Prop},qU n d->NV s.heap d v->Q (d.xu w) {s with toks:=s.toks+d.oC}->wpAny Qcq A (pyHash v) Q E s:=by
 intro n
 induction n with
 | zero=>
  intro A E l d v s Q nd q k;cases q with
  | int i t=>exact wpAny_pyHash_int (by rw[D.xu,D.oC]at k;exact k;intro _ z;cases z)
  | str x t=>exact wpAny_pyHash_str (by rw[D.xu,D.oC]at k;exact k;intro _ z;cases z)
  | tup=>cases nd
 | succ n r=>
  intro A E l d v s Q nd q k;cases q with
  | int i t=>exact wpAny_pyHash_int (by rw[D.xu,D.oC]at k;exact k;intro _ z;cases z)
  | str x t=>exact wpAny_pyHash_str (by rw[D.xu,D.oC]at k;exact k;intro _ z;cases z)
  | @tup a o its m ds e c u qs=>
   cases nd with
   | tup nd=>
    have ty:s.TypeIs Q3 "tuple":=⟨o,e,c⟩;rw[D.xu,D.oC]at k;unfold pyHash
    first|unfold pyHashByItsType|skip
    first|refine ec (wpAny_cRoomFor_or (.inr We) (ec (tj ty wB.lookup ?_)))|refine ec (tj ty wB.lookup ?_)
    show wpAny _ A (ite ((some (Value.builtin "tuple.__hash__")==some Value.none)=true) _ _) Q E s;rw[bX (by rw[beq_builtin_none];decide)];refine ec (tj ty wB.lookup (ec (wpAny_callSpecialIfBoundUnlessNone?_slot ty wB (wpAny_call_entry wB ty F.entry_tuple_hash ?_ (F.args_tuple_hash_1 _)))));show wpAny _ _ (Builtin.Tuple.tupleItemsOf Q3 >>= λ_=>_) _ _ s;refine ec (wpAny_tupleItemsOf e u (ec ?_));rw[<- Array.forIn_toList];refine wpAny_forIn_list _ (λrest (g:Array Int) s1=>∃done left,ds=done++left/\o7 s.heap left rest/\g.toList=D.Jt w done/\s1={s with toks:=s.toks+D.yW done}) _ ?_ ?_ _ _ ⟨[],ds,rfl,qs,by rw[D.Jt],by rw[D.yW];rfl⟩
    .rintro x rest g s1 ⟨done,left,rfl,f,j,rfl⟩;cases f with
     | @cons y _ left _ q1 f=>
      have inv:∃b h,done++y::left=b++h/\o7 s.heap h rest/\(g.push (y.xu w)).toList=D.Jt w b/\({s with toks:=s.toks+D.yW done+y.oC}:Shared)={s with toks:=s.toks+D.yW b}:=
       ⟨done++[y],left,Wp,f,by rw[yX]at j ⊢;simp[j],by rw[HY,Nat.add_assoc]⟩
      refine ec (r (by show A.units+1+n<cLine;lia) (s:={s with toks:=s.toks+D.yW done}) (nd y Wp) q1 ?_)
      first
       | exact i2 inv
       | exact ec (i2 (i2 inv))
    .rintro g s1 ⟨done,left,rfl,f,j,rfl⟩;cases f;rw[js]at k;show wpAny _ _ (retInt (Builtin.Tuple.tupleHashOf g.toList)) _ _ _;rw[j];refine wpAny_ret_mkInt ?_;generalize Builtin.Tuple.tupleHashOf (D.Jt w done)=hv at k ⊢;show wpAny _ _ (ite ((decide (-(2:Int) ^ 63<=hv)&&decide (hv<2 ^ 63))=true) _ _) Q E _;unfold reduceHash at k;by_cases p:(decide (-(2:Int) ^ 63<=hv)&&decide (hv<2 ^ 63))=true
     .rw[cq p]at k ⊢;exact wpAny_pure (by simpa [Nat.add_assoc] using k)
     .rw[bX p]at k ⊢;exact wpAny_bind (wpAny_rule (wpAny_pure (by simpa [Nat.add_assoc] using k)))
def aa5:∀(n:Nat) {d:D} {v:Value} {s:Qb} {Q:Qmh},qU n d->NV s.heap d v->Q true s->wpAny Qcq A (eqIsQuiet n v) Q E s:=by
 intro n
 induction n with
 | zero=>
  intro d v s Q nd q k;cases q with
  | int i t=>rw[FV _ rfl];exact i2 k
  | str x t=>rw[FV _ rfl];exact i2 k
  | tup=>cases nd
 | succ n g=>
  intro d v s Q nd q k;cases q with
  | int i t=>rw[FV _ rfl];exact i2 k
  | str x t=>rw[FV _ rfl];exact i2 k
  | @tup a o its m ds e c h qs=>
   cases nd with
   | tup nd=>
    have ty:s.TypeIs Q3 "tuple":=⟨o,e,c⟩;unfold eqIsQuiet;refine ec (tj ty F.slot_tuple_eq.lookup ?_);refine ec (wpAny_isInstance ty isSubtype_tuple_tuple ?_);simp only[Bool.not_true,pj,n3];refine ec (wpAny_seqItems e h (ec ?_));show wpAny _ A (forIn its _ _) _ _ s;rw[<- Array.forIn_toList];refine wpAny_forIn_list _ (λrest r s1=>r.1=none/\s1=s/\∃left,o7 s.heap left rest/\∀d∈left,qU n d) _ ?_ ?_ _ _ ⟨rfl,rfl,ds,qs,nd⟩
    .rintro x rest r s1 ⟨f,rfl,left,b,hl⟩;cases b with
     | @cons y _ left _ q1 b=>
      refine ec (g (hl y gk) q1 ?_);simp only[Bool.not_true,pj,n3];exact i2 ⟨rfl,rfl,left,b,λd hd=>hl d (ij _ hd)⟩
    .rintro⟨l,j⟩ s1 ⟨f,rfl,_⟩;simp only at f;subst f;exact i2 k
def yZ(P:Qag)(w:World):HeapKind P w D where
 is:=λh d a=>qU 8 d/\NV h d Q3
 hash:=D.xu w
 draws:=D.oC
 room:=λA=>A.units+9<cLine
 inj:=λf c=>f.2.inj _ c.2
 keeps:=λx l hd hs=>⟨x.1,x.2.keeps l hd hs⟩
 pyHash:=λk g h=>afs 8 We g.1 g.2 h
 eqBool:=λ{A E s x y a b Q} k f c h=>by
  obtain⟨as,j⟩:=f.2.reads;obtain⟨bs,i⟩:=c.2.reads;have h1:=f.1.dep.lay;have h2:=c.1.dep.lay;have e:PyData.eqv x.toPy y.toPy=decide (x=y):=U5 f.1 8 c.1;have:=SeqAt.eqAt_reads _ _ A s _ _ _ _ j i h1.1 h2.1 (by have:=h1.2;lia);rw[e]at this;exact this P w E Q h
 quiet:=λg h=>aa5 8 g.1 g.2 h
variable{pins:BC}{s:Qb}
def Mn(I:Qa7){d:D}{u:Value}(hd:qU n d)(q:bz X.K CL H d v)(r:QcM):NV s.heap d u:=by
 refine bz.rec (motive_1:=λd v _=>∀(n:Nat) (u:Value),qU n d->RelV v u->NV s.heap d u)
  (motive_2:=λds vs _=>∀(n:Nat) (us:B2),(∀d∈ds,qU n d)->Vals vs us->o7 s.heap ds us) (motive_3:=λ_ _ _=>True) (motive_4:=λ_ _ _=>True) (motive_5:=λ_ _ _=>True)
  (λ_ _ hd _=>by cases hd) (λb _ _ hd _=>by cases hd) (λi _ _ _ r=>by obtain⟨t,rfl⟩:=r;exact .int i t) (λx _ _ _ r=>by obtain⟨t,rfl⟩:=r;exact .str x t) (λ_ _ _ hd _=>by cases hd) (λ_ _ _ hd _=>by cases hd) (λj _ f n u hd r=>?tup)
  (λ_ _ _ _ _ hd _=>by cases hd) (λ_ _ _ _ _ hd _=>by cases hd) (λ_ _ _ _ _ hd _=>by cases hd) (λ_ _ _ _ _ hd _=>by cases hd) (λ_ _ _ _ _ _ _ hd _=>by cases hd)
  (λ_ _ _ r=>by cases r;exact .nil) (λ_ _ f a n us h r=>?cons) trivial Qap trivial Qap trivial Qap q n u hd r
 case tup=>
  cases hd with
  | tup hd=>
   cases r;obtain⟨its,g,⟨o,e,c,k,l⟩,_⟩:=I.tuple j;exact .tup e c l (by simpa using f _ _ hd g)
 case cons=>
  cases r with
  | cons r rs=>exact .cons (f n _ (h _ gk) r) (a n _ QvO rs)
def r2(X:Cx)(CL:BM)(H:Hp)(a:Addr)(ds es:BA)(vs us:B0):Prop:=H a=some (.ext (Ju X.w a ds vs us))/\ay X.K CL H ds vs/\ay X.K CL H es us/\(∀d∈ds,qU 8 d)/\ds.Nodup
variable{us:B0}
theorem r2.have(I:Qa7){ds es:BA}(g:r2 X CL H a ds es vs us) :
  Qcj=false/\∃xs:EQ,s.heap.DictOfH (yZ X.prog X.w) a xs/\xs.map (·.1)=ds/\xs.map Qmf=vs/\Vals us Qiu:=by
 obtain⟨e,r,_,hn,nd⟩:=g;obtain⟨⟨h,xs,o,es,ep,h1,h2,n,m,c,f,l⟩,_⟩:=I.cR a _ e;refine⟨h,xs,⟨o,es,ep,h1,h2,n,m,λx k=>?_,by rw[c];exact nd⟩,c,f,l⟩;obtain⟨i,hi⟩:=List.mem_iff_getElem?.1 k;have hd:ds[i]? = some x.1:=by rw[<- c,j2,hi];rfl
 have hv:vs[i]? = some (.ref x.2.1):=by rw[<- f,j2,hi];rfl
 obtain⟨v,b,j⟩:=r.get hd;rw[hv]at b;cases b;have d:=hn x.1 (kA hd);exact⟨d,Mn I d j rfl⟩
def aoR{xs:EQ}{ds:BA}{k:D}{u:V}(h:xs.map (·.1)=ds)(nd:ds.Nodup)(hv:Vals us Qiu)(f:k∈ds)(d:us[ds.idxOf k]? = some u):∃p,atKey xs k=some p/\RelV u p.2:=by
 have hi:ds[ds.idxOf k]? = some k:=by
  rw[kf (List.idxOf_lt_length_iff.2 f)];exact congrArg some (List.getElem_idxOf _)
 rw[<- h,j2]at hi;obtain⟨x,a,e⟩:=nr.1 hi;rw[h]at a;obtain⟨y,b,c⟩:=Paired.we hv d;rw[j2,a]at b;cases b;exact⟨x.2,atKey_of_get (by rw[h];exact nd) (i:=ds.idxOf k) (by rw[a,<- e]),c⟩
def Of{xs:EQ}{ds:BA}{k:D}(h:xs.map (·.1)=ds)(a:k∉ds):atKey xs k=none:=
 atKey_none_of_get λj p b=>a (by rw[<- h];exact ip.2 ⟨_,kA b,rfl⟩)
def akF{xs:EQ}{ds:BA}{k:D}(h:xs.map (·.1)=ds)(nd:ds.Nodup)(a:k∈ds):∃p,atKey xs k=some p:=by
 rw[<- h]at a nd;obtain⟨x,b,e⟩:=ip.1 a;obtain⟨i,hi⟩:=List.mem_iff_getElem?.1 b;exact⟨x.2,atKey_of_get nd (i:=i) (by rw[hi,<- e])⟩
def SU{h':Heap}{ds:BA}(g:Ju w a ds vs us h'):dU P w H' h' a QlS:=by
 refine⟨g,?_,λh1 h2 q k=>?_⟩
 .obtain⟨_,_,o,_,_,h1,_⟩:=g;exact⟨o,h1⟩
 .obtain⟨b,xs,o,es,ep,q1,c⟩:=q;exact⟨b,xs,o,es,ep,k o q1,c⟩
def aft{h':Heap}{c:Addr}{ds:BA}{xs:EQ}{k:D}{u:V}{r:Value}(b:Qcj=false)(dd:h'.DictOfH (yZ P w) a (xs++[(k,c,r)]))(h:xs.map (·.1)=ds)(g:xs.map Qmf=vs)(hv:Vals us Qiu)(d:RelV u r) :
  Ju w a Qkv (vs++[.ref c]) (us++[u]) h':=by
 obtain⟨o,es,ep,h1,h2,f,e,_,_⟩:=dd;exact⟨b,_,o,es,ep,h1,h2,f,e,by rw[i5,h];rfl,by rw[i5,g];rfl,by rw[i5];exact Paired.snoc hv d⟩
variable{o i value:Expr}{es:Ch}{pos pos':Pos}{td ty tv:TE}
theorem J7(h:A.units+64<cLine):(yZ P w).room A.in1:=by
 show A.units+1+9<cLine;lia
noncomputable def afu(h:Heap)(a:Qmo):Ju w h.objs.size [] [] [] (h.push {cls:=.type "dict",data:=.dict #[]}):=
 ⟨n4.2 QoK,[],_,#[],0,l6 _ rfl,⟨rfl,rfl,rfl⟩,rfl,rfl,rfl,rfl,.nil⟩
def afv:PE X QeO (λ_ H Q=>∀p,H p=none->Q QbM (upd H p (.ext (Ju X.w p [] [] [])))):=λpins s Y H Q I h=>
 wpAny_Dict_empty ⟨.ref s.heap.objs.size,_,I.laid (a:=s.heap.objs.size) (o:=.ext (Ju X.w s.heap.objs.size [] [] [])) (t':=s.toks) QiF (ik _) (SU (afu s.heap I.big)),rfl,h _ Qc1⟩
def xI(X:Cx)(CL:BM)(H:Hp)(k:D)(c:Addr):Prop:=qU 8 k/\bz X.K CL H k Qfl
theorem xI.is{k:D}{c:Addr}(I:Qa7)(h:xI X CL H k c):(yZ X.prog X.w).is s.heap k c:=⟨h.1,Mn I h.1 h.2 rfl⟩
def afw(l:Qa0)(n:Qee)(hi:Qef)(hs:WK i):PE X QiE (λY H Q=>td Y H λx H1=>ty Y H1 λy H2=>∃a c ds es vs us k u,x=.ref a/\y=.ref c/\r2 X CL H2 a ds es vs us/\xI X CL H2 k c/\k∈ds/\us[ds.idxOf k]? = some u/\Q u H2):=by
 intro pins s Y H Q I h;refine UA PySem.F.slot_dict_getitem.lookup hs (dP Qt3 λu s1 ⟨x,H1,v,e,q1⟩=>dP (hi pins s1 Y H1 _ v q1) λj s2 zz=>?_);obtain⟨y,H2,b,d,a,c,ds,es,vs,us,k,w,ex,t,g,q,hm,hw,f⟩:=zz;subst ex t;obtain rfl:u=Value.ref a:=e;obtain rfl:j=Value.ref c:=d;obtain⟨z,xs,dd,h1,h2,r⟩:=r2.have b g;obtain⟨p,m,ep⟩:=aoR h1 g.2.2.2.2 r hm hw;exact⟨dd.typeIs,wpAny_getItem_heap (J7 l) (q.is b) dd m ⟨w,H2,b.tok _,ep,f⟩⟩
def afx(m:Qa0)(hi:Qef)(q:Qee):PC X .NotIn i o (λY H Q=>ty Y H λy H1=>td Y H1 λx H2=>∃a c ds es vs us k,x=.ref a/\y=.ref c/\r2 X CL H2 a ds es vs us/\xI X CL H2 k c/\Q (.bl (!decide (k∈ds))) H2):=by
 intro pins s Y H Q I h;refine dP Qiy λl s1 ⟨y,H1,v,e,q1⟩=>dP (q pins s1 Y H1 _ v q1) λu s2 zz=>?_;obtain⟨x,H2,b,f,a,c,ds,es,vs,us,k,ex,t,g,r,j⟩:=zz;subst ex t;obtain rfl:u=Value.ref a:=f;obtain rfl:l=Value.ref c:=e;obtain⟨d,xs,dd,h1,h2,w⟩:=r2.have b g;refine wpAny_notIn_heap (J7 m) (r.is b) d dd ⟨_,H2,b.tok _,?_,j⟩;by_cases hm:k∈ds
 .obtain⟨p,n⟩:=akF h1 g.2.2.2.2 hm;rw[n,mu hm];rfl
 .rw[Of h1 hm,kv hm];rfl
theorem afy(C:Qa0)(E:Qee)(hi:Qef)(hv:QjO)(hs:QpG) :
  PS X QqL (λD Y H=>tv Y H λv H1=>td Y H1 λx H2=>ty Y H2 λy d=>∃a c ds es vs us k,x=.ref a/\y=.ref c/\r2 X CL d a ds es vs us/\xI X CL d k c/\k∉ds/\ds.length<=1000000/\D.nx Y (upd d a (.ext (Ju X.w a Qkv (vs++[.ref c]) (us++[v]))))):=by
 intro pins s Y H D I h;refine wpAny_Assign_Subscript (dP Qmn λr s1 ⟨v,H1,L,p,q1⟩=>dP (E pins s1 Y H1 _ L q1) λu s2 ⟨x,H2,K,n,z⟩=>dP (hi pins s2 Y H2 _ K z) λB s3 zz=>?_) hs;obtain⟨y,d,j,m,a,c,ds,es,vs,us,k,ex,J,g,F,hm,hl,t⟩:=zz;subst ex J;obtain rfl:u=Value.ref a:=n;obtain rfl:B=Value.ref c:=m;obtain⟨l,xs,dd,h1,h2,G⟩:=r2.have j g;have hz:xs.length<=sizeLine:=by rw[ko,<- cK (f:=(·.1)),h1];lia
 refine wpAny_setItem_heap (hsz:=hz) (J7 C) (F.is j) dd λh' b e=>⟨Y,_,?_,t⟩;rw[storedH_new (Of h1 hm)]at b;have g2:=aft l b h1 h2 G p;exact Jr j (by rw[g.1];exact True.intro) e (let ⟨_,_,o,_,_,q,_⟩:=g2;⟨o,q⟩) (SU g2)
variable{ds:BA}{k d:D}
theorem ay.snoc{ds:BA}{d:D}(h:QfG)(q:QcO):ay K CL Z (ds++[d]) (vs++[v]):=
 ay.ind (P:=λds vs=>ay K CL Z (ds++[d]) (vs++[v])) (.cons q .nil) (λa _ i=>.cons a i) h
theorem bq.aoT{p:Addr}(S:Qao)(d:Qdt):aB H Qld/\bq K CL b Qld Z U Y (.j5 w [] []::ts) Qe5:=by
 obtain⟨fp,gp,e,r,nd,k⟩:=S.rep;have f:Z p=none:=S.zh.free d;have sh:aB H Qld:=aB.upd d;have keep:∀a∈fp++gp,a≠p:=λa c=>by
  have:∃o,H a=some o:=by
   obtain h|h:=iw.1 c
   .exact e.there a h
   .exact r.there a h
  obtain⟨o,q⟩:=this;exact aM q d
 refine⟨sh,⟨⟨fp,[p]++gp,e.mono Qr Qeu,.cons (.j5 aC .nil .nil) (r.mono Qr λa c=>au (keep a (by simp[c]))),?_,λa c=>?_⟩,S.bh.trans sh,S.zz,S.zh.trans sh,S.new,λa o q i=>?_,S.tab⟩⟩
 .refine(o3 (l₁:=fp) (l₂:=gp) (a:=p)).nodup_iff.2 QhY
 .rcases fP.1 ((o3 (l₁:=fp) (l₂:=gp) (a:=p)).mem_iff.1 c) with h|h
  .subst h;exact⟨f,S.bh.free d⟩
  .exact k a h
 .by_cases h:a=p
  .subst h;rw[aC]at q;cases q;cases i
  .rw[au h]at q;exact S.tp a o q i
section
variable{U2:BB}{e1 e2:Expr}{ds es ks:BA}{d:L3.D}{D:dw}
structure zv(ds:BA):Prop where
 n:∀d∈ds,qU 8 d
 d:ds.Nodup
 l:ds.length<=1000000
def afA:bY X CL b QeO U (.j5 X.w [] []) U:=λH Z Y ts vs Q S kk=>cz afv λp a=>by
 obtain⟨c,d⟩:=S.aoT a;exact kk _ _ Z Qr c d
def afB(o:Qa0)(ok:zv ds)(h1:cN X CL b e1 U QnT δ1)(h2:cN X CL b e2 δ1 Qfg U2)(h:Qu7)(hd:es[ds.idxOf Qfg]? = some d)(hs:WK e2:=by exactλ_ _=>rfl):cN X CL b QcY U d U2:=λH Z Y ts vs Q S kk=>
 cz (afw (CL:=CL) o cL cL hs) (h1 H Z Y ts vs _ S λv H1 Z1 j k1 r m=>h2 H1 Z1 Y ts vs _ r λv2 H2 Z2 i k2 q g=>by
  cases m with
  | @j5 a _ gs hs _ _ p l f=>
   have c:=g;obtain⟨_,_,rfl,t,s⟩:=g.lS;obtain⟨u,e,k⟩:=(f.mono k2).get hd;exact⟨a,_,ds,es,gs,hs,.tup ks,u,rfl,rfl,⟨k2 _ _ p,l.mono k2,f.mono k2,ok.n,ok.d⟩,⟨ok.n _ h,c⟩,h,e,kk u H2 Z2 (j.trans i) Qac q k⟩)
theorem afC(k:Qa0)(ok:zv ds)(h1:cN X CL b e1 U Qfg δ1)(h2:cN X CL b e2 δ1 QnT U2)(l:qU 8 Qfg)(hm:Qf2) :
  sR X CL b QdB U (!decide Qu7) U2:=λH Z Y ts vs Q S kk=>
 yK (Ak (afx (CL:=CL) k cL cL) hm) (h1 H Z Y ts vs _ S λv H1 Z1 g k1 p e=>h2 H1 Z1 Y _ _ _ p λv2 H2 Z2 f k2 o j=>by
  cases j with
  | @j5 a _ gs hs _ _ m h i=>
   have c:=e.mono k2;obtain⟨_,_,rfl,r,q⟩:=e.lS;exact⟨a,_,ds,es,gs,hs,.tup ks,rfl,rfl,⟨m,h,i,ok.n,ok.d⟩,⟨l,c⟩,_,rfl,kk H2 Z2 QoO Qac o⟩)
end
variable{pp:Pos}
theorem J8:nj X QuU (λxs H Q=>∃a gs,xs=[.ref a]/\Rd H a QaB/\gs.length<=1000000/\Q (.int (gs.length:Nat)) H):=by
 intro pins s Y H xs us Q I r h;obtain⟨a,gs,rfl,g,hl,q⟩:=h;obtain⟨u,rfl,c⟩:=vals1 r;cases c;obtain⟨z,b,xs,rel,dd⟩:=BH I.cR g;have ty:=dd.typeIs;obtain⟨i,es,ep,e,j,f,he,_,_⟩:=dd;have hz:es.size=gs.length:=by rw[size_of_entries he,<- vx rel]
 refine call_len_slot (n:=(gs.length:Nat)) ty PySem.F.slot_dict_len (λk d=>?_) We We ⟨.int (gs.length:Nat),H,I.tok _,⟨_,rfl⟩,q⟩;refine wpAny_call_entry PySem.F.slot_dict_len ty PySem.F.entry_dict_len ?_ (PySem.F.args_dict_len_1 _);show wpAny _ _ (dictSize a >>= λ_=>_) _ _ s;unfold dictSize;refine ec (ec (wpAny_dictEntries e f (i2 (show wpAny _ _ (Builtin.Dict.pendingCount a >>= λ_=>_) _ _ s from ec (wpAny_pendingCount_other b (wpAny_ret_mkInt ?_))))));rw[hz];simpa using d
def NC(hm:Qjv)(h:Qtp)(hl:QiV)(f:Qkn)(hs:Qan:=by exact aZ rfl):bY X CL b Qh3 U (.sh (.int (kvs.length:Nat))) δ1:=λH Z Y ts vs Q S k=>
 cz (lC J8 f hm PySem.boot_len QaH (he:=hs)) (h H Z Y ts vs _ S λv H1 Z1 d k1 i r=>by
  cases r with
  | @dct a gs _ g c=>exact⟨a,gs,rfl,g,by rw[<- c.length];exact hl,by rw[<- c.length];exact k _ H1 Z1 d k1 (i.push Qbq)⟩)
def N0{b:World}{ds:BA}(h:∀d∈ds,d.xu w=d.xu b)(a:Addr)(vs us:B0):Ju w a ds vs us=Ju b a ds vs us:=by
 have one:∀{w b:World},(∀d∈ds,d.xu w=d.xu b)->∀g:Heap,Ju w a ds vs us g->Ju b a ds vs us g:=λ{w b} h g q=>by
  obtain⟨e,xs,o,es,ep,h1,h2,l,k,c,j,i⟩:=q;refine⟨e,xs,o,es,ep,h1,h2,l,?_,c,j,i⟩;rw[k];refine mB λx f=>?_;rw[h x.1 (by rw[<- c];exact ip.2 ⟨x,f,rfl⟩)]
 funext g;exact propext ⟨one h g,one (λd hd=>(h d hd).symm) g⟩
theorem akG{c:World}{ds es:BA}(h:cN X CL b e U QgV δ1)(hw:∀d∈ds,d.xu w=d.xu c):cN X CL b e U Qop δ1:=λH Z Y ts vs Q S k=>
 h H Z Y ts vs _ S λv H1 Z1 f k1 l r=>k v H1 Z1 f k1 l (by
  cases r with
  | @j5 a _ gs hs _ _ j g i=>exact .j5 (by rw[<- N0 hw];exact j) g i)
section
variable{x:Str}{d:D}
def ai{i:Int}{j:Nat}:cN X CL b Ql4 U Qba U:=ak jG
def dg{j:Nat}:cN X CL b QlR U Qbk U:=ak cg
def aD(h:Nat.ble n 1000=true:=by rfl):n<=sizeLine:=WW h
variable{α:Type}{l:Qaa}{u0 u1 u2 v:α}
def lW:xq (v::l) 0=some v:=c9 rfl
def pe:xq (u0::v::l) 1=some v:=c9 rfl
def AG:xq (u0::u1::v::l) 2=some v:=c9 rfl
def NF:xq (u0::u1::u2::v::l) 3=some v:=c9 rfl
section
variable{scope:Scope}{Nc:At}{C:Addr}(i:Nat)
def J9(h1:Nc[i]? = some x:=by rfl)(h2:Qie:=by decide +kernel)(hd:AD x:=by decide)(iV:AE x:=by decide):Vn QbG i x:=ZZ h1 h2 hd iV
def X0(h1:Nc[i]? = some x:=by rfl)(h2:Qlw:=by decide +kernel)(hd:AD x:=by decide)(iV:AE x:=by decide):Vn QbG i x:=ajS h1 h2 hd iV
def jA(h:U[i]? = some QdJ:=by rfl)(n:Vn QbG i x:=by exact J9 _):cN QbG CL b QaE U d U:=ak (v_ n h)
def i6(h:U[i]? = some QdJ:=by rfl)(n:Vn QbG i x:=by exact X0 _):cN QbG CL b QaE U d U:=ak (v_ n h)
def y9(h2:Qk6:=by decide +kernel):Gl QbG x:=aeF h2
end
abbrev j6(X:Cx)(CL:BM)(b:Bx)(st:Stmt)(N:At){A:Type}(arg:Qaj)(Pre:Q2)(res:QaU):Prop:=∀ ⦃a:A⦄,Pre a->cQ X CL b Qbr QgH {nx:=λ_=>res a=.sh .non,rt:=λc _=>c=res a}
end
abbrev Ka(X:Cx)(s:Str):Prop:=X.env.kindOf s=some .cell
structure Wq(n:Nat)(p:Prop):Prop where
 h:p
structure jB(K:Frag)(x:Str)(st:Stmt)(f:Addr)(fd:QaT):Prop extends Uz K x x st f fd where
 m:InG K x f
 dn:fd.defaults=.none
structure oa(K:Frag)(C:Addr)(x qual:Str)(st:Stmt)(f:Addr)(fd:QaT):Prop extends Uz K x qual st f fd where
 a:findIn K Qai x=some Qc9
 i:isFn K Qad=true
 dn:fd.defaults=.none
variable{x:Str}{f:Addr}{fd:QaT}{ps:At}
theorem jB.binds(F:Qoq)
  (h:∀(kV doc pm:Value) (an:Do) (eB ct:Value) (us:B2),us.length=ps.length->bindArgs QkS ⟨us,[]⟩=pure QcG):Binds K fd ps []:=F.1.binds F.dn h
variable{C:Addr}{qual:Str}
theorem oa.binds(F:QuG)
  (h:∀(kV doc pm:Value) (an:Do) (eB ct:Value) (us:B2),us.length=ps.length->bindArgs QfR ⟨us,[]⟩=pure QcG):Binds K fd ps []:=F.1.binds F.dn h
abbrev TB(X:Cx)(CL:BM)(b:Bx)(st:Stmt)(N:At){A:Type}(arg:Qbt)(Pre:Q2)(res:QaU)(out:Qbt):Prop:=
 ∀a,Pre a->cQ X CL b Qbr QjD {nx:=λU=>res a=.sh .non/\Keeps U Qfw,rt:=λc U=>c=res a/\Keeps U Qfw}
section
variable{oc kV doc pm eB ct:Value}{od an:Do}{F3:D2}
def fn1(m:Qsy)(l:K.lookup f=some ⟨oc,od,.func QkS,F3⟩)(c:codeIn K eB x=true)(k:Qgx):jB K x st f QkS:=⟨ZE l c k,m,rfl⟩
def fn2(a:findIn K Qai x=some Qc9)(i:isFn K Qad=true)(l:QqK)(c:QmY)(k:Qgx):oa K C x qual st f QfR:=⟨ZE l c k,a,i,rfl⟩
end
abbrev LF(x qual:Str)(st:Stmt)(ps:At):Prop:=∀(kV doc pm:Value) (an:Do) (eB ct:Value),z0 ps.length λus=>bindArgs (W.fnOf x qual (gW st) Qbr QaX Value.none kV doc pm an eB ct) {pos:=us}=pure QcG
def aoU(P:Qag)(w:World)(mg:Bi)(base:Heap){K:Frag}{h:Heap}(CL:BM)(l:K.In h)(G:Qvw){x:Str}{st:Stmt}{f:Addr}{fd:QaT}{N ps:At}(k:Nat){A:Type}(arg:Qaj)(Pre:Q2)(res:QaU)(F:Qoq)(S:Qds)
  (j:∀{eB:Value} {i:Qas} {outer:D1} {s:Qb} {H:Hp} {E:XK} {b:Bx} {a:A},fj k (i.deeper (envOfC x QaX s.heap.objs.size f eB))->UO (tN oj P w K mg base N x QaX f eB i outer s H E).Qe->Pre a →
   cQ (tN oj P w K mg base N x QaX f eB i outer s H E).Qe CL b Qbr QgH {nx:=λ_=>res a=.sh .non,rt:=λt _=>t=res a})
  (q:LF x x st ps:=by(repeat intro _);rfl) :
  ∃f fd g,dz P w K mg base oj QaM f fd g Qrj/\mg x=some Qad/\keepIn K Qad=true/\Binds K fd g []:=⟨f,fd,ps,jH F.1 S λ_ _ _ _ _ _ _ _ _ r p=>j r ⟨⟨S.nd,rfl,.never⟩,r.units⟩ p,lh l G F.m,F.kp,F.binds λa b c d e f=>J5 QnU⟩
def afD:xy X "list.extend" (λx vs H Q=>Ov X.K x vs H Q\/OC X.K x vs H Q):=by
 intro pins s Y H x vs v us Q I a b h;obtain h|h:=h
 .exact afm _ _ _ _ _ _ _ _ _ I a b h
 .exact ae7 _ _ _ _ _ _ _ _ _ I a b h
section
variable{tl tl0:Bn}{sq:BA->L3.D}{ds:BA}{D:dw}{pa pb pc:Pos}{i:Nat}{c f:Str}{dQ:CI}{gs:BS}
def LS(X:Cx)(CL:BM)(b:Bx)(e:Expr)(U:BB)(ds:BA)(δ1:BB):Prop:=
 ∀(H Z:Hp) (Y:L2.St) (ts:Bn) (vs:B0) (Q:VK),bq X.K CL b H Z U Y ts vs->(∀a us H' Z',aB Z Z'->aB H H'->bq X.K CL b H' Z' δ1 Y ts vs->ay X.K CL Z' ds us->mJ X.K H' a us\/tL X.K H' a us->Q Q3 H')->yJ X e Y H Q
def Gk(h:cN X CL b e U (sq ds) δ1)(c:L3.D.bf ds=true)(hd:sq=.lst\/sq=.tup:=by first|exact .inl rfl|exact .inr rfl):LS X CL b e U ds δ1:=λH Z Y ts vs Q S k=>h H Z Y _ _ _ S λv H1 Z1 g k1 d a=>by
 obtain rfl|rfl:=hd
 .obtain⟨_,_,rfl,f,a⟩:=a.gT;exact k _ _ _ _ g k1 d (ay.m7 d.tp c a) (.inl f)
 .obtain⟨_,_,rfl,f,a⟩:=a.lS;exact k _ _ _ _ g k1 d (ay.m7 d.tp c a) (.inr f)
def XX(h:Ql7):LS X CL b e U ds δ1:=λH Z Y ts vs Q S k=>h H Z Y _ _ _ S λv H1 Z1 c k1 a=>by
 obtain⟨_,_,rfl,f,d⟩:=a.Gi.gT;exact k _ _ _ _ c k1 a.pop d (.inl (a.zh.seq f))
def nJ(n:QaO)(h0:U[i]? = some Qi0)(h:LS X CL b e U ds δ1)(h1:δ1[i]? = some QdX)(hl:tl.length+ds.length<=1000000)(k:cQ X CL b dQ (δ1.set i (some Qtn)) D)
  (s:attributeBase QaP "extend" X.env Qu5=eval QaP X.env:=by rfl)
  (o:QhD:=by rfl)
  (d:Qf5:=by rfl) (hs:Qan:=by exact aZ rfl) (w:swapsWith Qp9 none pos.line X.env=pure false:=by rfl) :
  cQ X CL b (.Expr Qp9 pos::dQ) U D:=bS λH Z Y ts vs E S M=>
 lT (vt (HD wy PySem.F.slot_list_extend PySem.F.type_list_extend afD Qex QaH s o d hs rfl) w) (by
  obtain⟨v0,e0,r⟩:=S.look h0;refine⟨ _,e0,?_,h H Z Y _ _ _ S λ_ us H1 Z1 m k1 v f c=>?_⟩
  .obtain⟨_,_,rfl,c,_⟩:=r.gT;exact .inl ⟨rfl,_,c⟩
  .obtain⟨a,ws,j,g,t,u⟩:=v.aaV (p:=[]) f e0 h1 rfl rfl;have q:=M.nx _ Y _ _ m u k;have l:ws.length+us.length<=sizeLine:=by rw[t,<- f.length];exact lx (nq hl Wm)
   exact c.imp (λc=>⟨a,_,_,_,j,rfl,g,c,l,q⟩) λc=>⟨a,_,_,_,j,rfl,g,c,l,q⟩)
def fZ(j:QfM)(n:QgO)(nm:QaO)(h:Qdw)(h1:δ1[i]? = some (some (.pin a (.ins c gs))))(hl:gs.length<1000)(k:cQ X CL b dQ (δ1.set i (some (.pin a (.ins c (qN f t gs))))) D)
  (hs:swapsWith e (some (.Attribute (.Name x pa) f pb)) pc.line X.env=pure false:=by rfl):cQ X CL b (.Assign [.Attribute (.Name x pa) f pb] e pc::dQ) U D:=bS λH Z Y ts vs E S M=>
 lT (ajo Qlx cL hs) (h H Z Y ts vs _ S λv H' Z' z d=>by
  obtain⟨v0,e0,_⟩:=d.look h1;obtain⟨m,dx,ws,l,g,hlen,o⟩:=d.HX (p:=[]) (f:=f) e0 h1 rfl rfl;exact⟨_,e0,m,CL c,dx,ws,l,g,j,n,hlen▸hl,M.nx _ Y _ Z' z o k⟩)
end
def U6{W:XK}:Passes Qgh Qbx W:=λpins Y H s ev s' I h=>by
 obtain⟨e,C,a0,B,H',rfl,i,g,f,d,c,b,a⟩:=h;exact⟨e,C,pins,Y,H,H',s,rfl,I.jr,a,i,g,.inr ⟨a0,B,⟨d,c,b⟩,.inr f⟩⟩
noncomputable def T.bad:T:=.pin 0 Qhh
section
variable{U2 U':BB}{D:dw}{apos:Pos}{i k:Nat}{dQ:CI}{W:XK}{c m:Str}{A:Type}{Pre:Q2}{exc:QcR}
def U7(i:Nat)(h:U[i]? = some (some T.bad)):cQ X CL b dQ U D:=λH Z Y ts vs E S M=>by
 obtain⟨fp,gp,e,r,nd,k⟩:=S.rep;obtain⟨v,_,_,_,_,_,rt,_⟩:=e.get h;unfold T.bad at rt;have d:=rt.QF;obtain⟨rfl,c⟩:=d;have a:=c.F4;cases a.2
theorem eL.at(e:eL b W C)(S:Qf8):eL ⟨H,Z⟩ W C:=λH' Z' d zz zh nw tp=>e H' Z' (S.bh.trans d) (S.zz.trans zz) zh (λa o q z=>by
 cases c:Z a with
 | none=>exact Jv S.bh (nw a o q c)
 | some u=>exact S.new a u c z) tp
theorem U8{arg:Qaj}(a:A)(g:QnD)(o:eL b W QdU)(F:QlY)(l:QaA)(h:ub X CL b Qau U ((arg a).map T.sh) δ1)(i:Pre a)(hn:QcP:=by rfl)
  (d:AD x:=by decide) (he:Qav:=by exact aZ rfl) (hpl:QaN:=by rfl) :
  bY X CL b QbW U t U2:=λH Z Y ts vs Q S kk=>by
 obtain⟨f,fd,ps,q,hm,j,m⟩:=F.ex;refine cz (Ji q F.room l hm j m .nil g MG d he hpl) (h H Z Y ts vs _ S λus H1 Z1 hl r c=>?_);rw[js];have p:us.length=(arg a).length:=by simp_all
 exact⟨Z1,a,c.zh,c.tp,c.CF p,hn,i,c.QH,o.at c⟩
theorem aqi{pl:QhC}{arg:Qaj}{fs:Qu8}{ds:BA}(a:A)(x:QnD)(J:eL b W QdU)(F:FqR X CL c m k n arg Pre exc)(C:cN X CL b o U QaZ δ1)(h:Gf X CL b Qau δ1 Qcz U2)(i:arg a=.ins c fs::ds)(B:Pre a)(hf:QgL:=by rfl)(hn:QcP:=by rfl)
  (he:Qav:=by exact aZ rfl) (hpl:QaN:=by rfl)
  (z:eval QhT X.env=(do
   let I ← eval o X.env
   standAt apos.atName
   let (f,first) ← holding [I] QiW
   callWith pos f first (backTo pos QeD) QdA):=by rfl) :
  bY X CL b QhT U t U':=λH Z Y ts vs Q S kk=>by
 obtain⟨f,fd,ps,M,N,G⟩:=F.ex;refine cz (Jj cL F.cls M N F.room G .nil x MG he hpl z) (C H Z Y ts vs _ S λv H1 Z1 R k1 L r=>?_);have s:=r;obtain⟨y,dx,gs,rfl,u,p⟩:=r.Dt;refine⟨y,dx,gs,rfl,u,p.none hf,h H1 Z1 Y ts vs _ L λus H2 Z2 hl P k2 g=>?_⟩;rw[js];have K:us.length=ds.length:=by simp_all
 have l:=(g.CF K).mono g.zh;refine⟨H2,a,.refl _,λ_ _ q _=>q,by rw[i];exact .cons (s.mono k2) l,hn,B,g.Nh,λH' Z' E ww j nw tp=>?_⟩;obtain⟨Z3,O,d⟩:=g.grown E g.zh ww j nw tp;exact J H' Z3 d.bh d.zz d.zh d.new d.tp
def Cd(K:Frag)(CL:BM)(n:Nat)(arg:Qbt)(Pre:Q2)(exc:QcR):Sp:=λvs H _ E=>
 ∃(W:Hp) (a:A) (gp:BY),aB W Qkt/\(∀c o,H c=some o->ju o=true->W c=some o)/\aQ K CL H W Qcn vs gp/\gp.Nodup/\(arg a).length=n/\Pre a/\ny CL W/\eL ⟨tV H gp,W⟩ E QdU
theorem U9{mg:Bi}{base:Heap}{N:At}{arg:Qbt}(F:Qdr)(S:Qds)
  (l:∀(eB:Value) (e:Qas) (outer:D1) (s:Qb) (H:Hp) (E:XK) (b:Bx) (a:A),fj k (e.deeper QfS)->Pre a->eL b E QdU →
   cQ ((tN Qft P w K mg base N qual QaX f eB e outer s H E).gS (XE (tN Qft P w K mg base N qual QaX f eB e outer s H E) E)) CL b Qbr QjD {nx:=λ_=>False,rt:=λ_ _=>False}) :
  dz P w K mg base Qft QaM f fd ps (Cd K CL ps.length arg Pre exc):=by
 obtain⟨dV,oc,od,kV,doc,pm,an,eB,ct,F3,rfl,lk,iV⟩:=F.ex;refine Ux lk iV S (λvs H Q E h=>?_) λe outer s H vs Q E i h=>?_
 .obtain⟨W,a,gp,_,_,r,_,hl,_⟩:=h;rw[<- r.length];exact hl
 .obtain⟨W,a,gp,g,tp,r,nd,hl,j,tb,m⟩:=h;have wn:∀c∈gp,W c=none:=λc d=>by
   cases q:W c with
   | none=>rfl
   | some o=>exact absurd d (kC (g c o q)).1
  have h0:fH K CL H W QjD Qoz gp:=by
   unfold oZ L2.start;rw[<- r.length];exact tW _ r
  have h1:∀c o,W c=some o->W c=none->tV H gp c=none:=λc o q z=>by grind
  have body:=l eB e outer s H E ⟨tV H gp,W⟩ a i j m H W _ [] [] {nx:=λ_ _=>False,rt:=λ_ _=>False} ⟨⟨gp,[],h0,.nil,by rw[js];exact nd,λc d=>by rw[js]at d;exact⟨wn c d,qT d⟩⟩,λc o q=>(kC q).2,.refl _,λc o q=>(kC (g c o q)).2,h1,tp,tb⟩ ⟨λ_ _ _ _ _ _ z=>z.elim,λ_ _ _ _ _ _ _ _ z=>z.elim,λ_ _ _ _ _ _ z=>z.elim,λ_ _ _ _ _ _ z=>z.elim⟩;refine⟨ _,UC,λpins s1 I=>?_⟩;refine la Qs5 (λfl s' z=>?_) λev s' z=>SH rfl rfl rfl rfl z;cases fl with
  | next=>obtain⟨_,_,_,q⟩:=z;exact q.elim
  | brk=>obtain⟨_,_,_,q⟩:=z;exact q.elim
  | cont=>obtain⟨_,_,_,q⟩:=z;exact q.elim
  | ret u=>obtain⟨_,_,_,_,_,q⟩:=z;exact q.elim
structure Ar(X:Cx)(CL:BM)(c m:Str)(k n:Nat){A:Type}(arg:Qbt)(Pre:Q2)(exc:QcR):Prop where
 ex:∃f fd ps,Meth X.K (CL c) m f/\dz X.prog X.w X.K X.mg X.base Qgh k f fd ps (Cd X.K CL n arg Pre exc)/\Binds X.K fd ps []
 room:fj k X.A
 cls:yE X.K (CL c)
theorem NK{pl:QhC}{arg:Qbt}{g:Qg6}{dl:BA}{fs:BS}(a:Addr->A)(v:QnD)(G:∀y,eL b W (CL (exc (a y))))(F:Ar X CL c m k n arg Pre exc)(nm:QaO)(hi:Qjs)(h:QqH)(C:∀y,g y->Pre (a y))
  (hf:QgL:=by rfl) (j:∀y,g y->arg (a y)=.pin y QaZ::dl.map T.sh:=by intros;rfl) (hlen:∀y,(arg (a y)).length=n:=by intros;rfl)
  (he:Qav:=by exact aZ rfl) (hpl:QaN:=by rfl)
  (B:eval Qeq X.env=(do
   let I ← eval QaP X.env
   standAt apos.atName
   let (f,first) ← holding [I] QiW
   callWith pos f first (backTo pos QeD) QdA):=by rfl) :
  bY X CL b Qeq U t U2:=λH Z Y ts vs Q S kk=>by
 obtain⟨f,fd,ps,M,N,D⟩:=F.ex;obtain⟨y,dx,gs,q,ev,E,hn,L⟩:=S.recv hi;refine cz (Jj Qlx F.cls M N F.room D .nil v MG he hpl B) ⟨_,ev,y,dx,gs,rfl,E,hn m hf,h H Z Y _ _ _ L λus H1 Z1 hl O k1 u=>?_⟩;rw[js];have o:bq X.K CL b H1 Z1 δ1 Y ((T.pin y QaZ::dl.map T.sh).reverse++ts) ((V.ref y::us).reverse++vs):=by simp_all
 obtain⟨gp,r,nd,l⟩:=o.cut WA;obtain⟨s,p,pm⟩:=r.rev;have J:tV H1 gp=tV H1 s:=funext λc=>by
  by_cases d:c∈gp
  .rw[qT d,qT QuF]
  .rw[jO d,jO Qq3]
 rw[J]at l;rw[<- j y q]at p;exact⟨Z1,a y,s,l.zh,u.tp,p,pm.nodup_iff.2 nd,hlen y,C y q,u.QH,(G y).at l⟩
end
variable{u wv:V}{i:Nat}{ds es:BA}{k d:L3.D}
theorem bq.akH(S:bq K CL b H Z U Y (.sh k::.sh d::ts) (v::u::vs))(ev:Y[i]? = some Qct)(hi:U[i]? = some Qb2)(o:T.lF p t0=some QgV)(l:Cp H v0 p wv) :
  ∃a gs hs,wv=.ref a/\H a=some (.ext (Ju w a ds gs hs))/\ay K CL Z ds gs/\ay K CL Z es hs/\bq K CL b (upd H a (.ext (Ju w a Qkv (gs++[v]) (hs++[u])))) Z (U.set i (some (T.lV p (.j5 w Qkv (es++[d])) t0))) Y ts vs:=by
 obtain⟨f2,gp,m,n,nd,go⟩:=S.AF ev hi o l;cases m with
 | @j5 a _ gs hs _ _ q rs h=>
  cases n with
  | @cons _ _ _ _ s j q1 g=>
   replace q1:=q1.F4;obtain⟨rfl,q1⟩:=q1;cases g with
   | @cons _ _ _ _ r j e g=>
    replace e:=e.F4;obtain⟨rfl,e⟩:=e;have ne:∀c∈j,c≠a:=λc f z=>by subst z;exact(l4.1 nd).1 (by simp[f])
    exact⟨a,gs,hs,rfl,q,rs,h,go rfl List.mem_cons_self rfl (.j5 aC (rs.snoc q1) (h.snoc e)) (g.mono Qr λc f=>au (ne c f)) (by simpa using nd) λc f=>by simpa using f⟩
section
variable{e0 e2:Expr}{t1:T}{ks:BA}{D:dw}{ps pb:Pos}{dQ:CI}{c f:Str}{fs:BS}
def afG(r:Qa0)(ok:zv ds)(h:Qir)(y:QmS)(h2:bY X CL b e2 δ1 (.sh Qfg) δ1)(h1:δ1[i]? = some Qhj)(G:T.lF p t1=some QnT)(s:qU 8 Qfg)(hn:L3.D.tup ks∉ds)(kk:cQ X CL b dQ (δ1.set i (some (T.lV p (.j5 X.w (ds++[.tup ks]) (es++[d])) t1))) D)
  (hs:QpN:=by rfl):cQ X CL b Qk7 U D:=bS λH Z Y ts vs E S M=>
 lT (afy (CL:=CL) r cL cL cL hs) (h H Z Y ts vs _ S λv H1 Z1 o k1 F=>y H1 Z1 Y _ _ _ F λv0 w H2 Z2 m k2 C ev q=>h2 H2 Z2 Y _ _ _ C λv2 K Z3 k k3 f=>by
  have j:=f.Gi;have g:=j;obtain⟨c,us,rfl,J,I⟩:=j.lS;obtain⟨a,gs,hs,z,x,u,t,B⟩:=f.akH ev h1 G (q.mono k3);exact⟨a,c,ds,es,gs,hs,.tup ks,z,rfl,⟨x,u.mono f.zh,t.mono f.zh,ok.n,ok.d⟩,⟨s,g.mono f.zh⟩,hn,ok.l,M.nx _ Y _ Z3 (o.trans (m.trans k)) B kk⟩)
def aa9{z w:Int}(B:QfM)(n:QgO)(F:n8 X CL b e0 U i p)(h1:U[i]? = some Qhj)(s:T.lF p t1=some QaZ)(hf:fs.lookup f=some (.sh (.int z)))(h:Qto)(hl:fs.length<1000)
  (k:cQ X CL b dQ (U.set i (some (T.lV p (.ins c (qN f (.sh (.int (z-w))) fs)) t1))) D):cQ X CL b (.AugAssign (.Attribute e0 f pb) .Sub e pos::dQ) U D:=bS λH Z Y ts vs E S M=>
 lT (Wy cL cL ajp) (F H Z Y ts vs _ S λv0 v H1 Z1 u k1 q ev o=>by
  obtain⟨v',f2,at',r⟩:=q.xk ev h1 s;have:=at'.inj o;subst this;obtain⟨a,dx,gs,g,rfl,rfl,C,rs⟩:=r.Dt;obtain⟨y,g1,g2,g3,A,_,j,_⟩:=cM.at _ rs hf;replace j:=j.F4;obtain⟨rfl,j⟩:=j;cases j;refine⟨a,CL c,dx,gs,_,rfl,C,B,n,A,h H1 Z1 Y ts vs _ q λv2 H2 Z2 t k2 L x=>?_⟩;cases x;obtain⟨N,m,l,G,I,hlen,J⟩:=(L.push (d:=.int (z-w)) Qbq).HX (f:=f) ev h1 s (o.mono k2);cases G;exact⟨z,w,rfl,rfl,m,l,I,by rw[hlen];exact hl,M.nx _ Y _ Z2 (u.trans t) J k⟩)
end
def Kc{a:World}{ds:BA}(h:∀d∈ds,d.xu w=d.xu a):(D.tup ds).xu w=(D.tup ds).xu a:=by
 rw[D.xu,D.xu,yX,yX,mB h]
section
variable{D:dw}{dQ:CI}
def Lu(p:QcS)(c:World)(hi:U[i]? = some Qb2)(n:T.xl p t0=some QgV)(hw:∀d∈ds,d.xu w=d.xu c)(k:cQ X CL b dQ (U.set i (some (T.Xs p Qop t0))) D):cQ X CL b dQ U D:=λH Z Y ts vs E S M=>by
 refine k H Z Y ts vs E ?_ M;obtain⟨fp,gp,e,r,nd,kk⟩:=S.rep;obtain⟨v1,e1,e2,q,hv,j,rt,put,_⟩:=e.get hi;obtain⟨h,f2,at',l,put2⟩:=rt.raw S.zh p n;have f:bD X.K CL H Z Qop h f2:=by
  cases l with
  | @j5 a _ gs hs _ _ o rs m=>exact .j5 (by rw[<- N0 hw];exact o) rs m
 have g:=put Qr Qck (put2 f);rw[g9 hv]at g;subst j;exact⟨⟨_,gp,g,r,nd,kk⟩,S.bh,S.zz,S.zh,S.new,S.tp,S.tab⟩
end
structure Tx(K:Frag)(x:Str)(st:Stmt)(f:Addr)(fd:QaT)(ps:At):Prop extends Uz K x x st f fd where
 m:InG K x f
 b:Binds K fd ps []
def fnD{tp:Addr}{oc:Value}{od an:Do}{F3:D2}{kV doc pm eB ct:Value}{o:Obj}{items:Cl}(m:Qsy)(l:K.lookup f=some ⟨oc,od,.func Qqk,F3⟩)
  (c:codeIn K eB x=true) (k:Qgx) (lt:K.lookup tp=some o) (od:o.data=.seq items n)
  (q:z0 ps.length λus=>∃kk,bindArgs (W.fnOf x x (gW st) Qbr QaX (.ref tp) kV doc pm an eB ct) {pos:=us}=seqItems? (.ref tp) >>= kk/\kk (some items)=pure QcG) :
  Tx K x st f Qqk ps:=by
 refine⟨⟨⟨_,oc,_,kV,doc,pm,an,eB,ct,F3,rfl,l,c⟩,k⟩,m,λs us a hl=>?_⟩;rw[js]at hl ⊢;obtain⟨kk,e1,e2⟩:=J5 q us hl;exact .of_defaults rfl (a _ _ lt) od e1 e2
variable{dQ:CI}
theorem cQ.mono{D D':dw}(h:cQ X CL b dQ U D)(nx:∀U,D.nx U->D'.nx U)(rt:∀t U,D.rt t U->D'.rt t U)(bk:∀U,D.bk U->D'.bk U:=by intro _ z;exact z)(ct:∀U,D.ct U->D'.ct U:=by intro _ z;exact z):cQ X CL b dQ U D':=λH Z Y ts vs E S M=>
 h H Z Y ts vs E S ⟨λU' Y' H' Z' z a q=>M.nx U' Y' H' Z' z a (nx _ q),λt v H' Z' U' Y' z a q=>M.rt t v H' Z' U' Y' z a (rt _ _ q),λU' Y' H' Z' z a q=>M.bk U' Y' H' Z' z a (bk _ q),λU' Y' H' Z' z a q=>M.ct U' Y' H' Z' z a (ct _ q)⟩
section
variable{D:dw}{px:Pos}{body:CI}
def Ts(b:QlO)(a:Addr)(o:Obj)(gs:B1):It:=
 ⟨λi H=>i<gs.length/\H a=some Qat,λi H x H'=>H'=H/\b gs i H x,λi H=>gs.length<=i/\H a=some Qat⟩
def XB(b:QlO)(X:Cx)(te:TE):TI:=λY H R=>te Y H λx H1=>∃a gs,x=.ref a/\((H1 a=some QaB/\∀o,(∀c q,X.kc a≠some (.cu c q))->R (Ts b a o gs) QnC)\/∃o,H1 a=some Qat/\R (Ts b a o gs) H1)
theorem akI{N:Expr}(yl:QlO)(tr:Cc->L3.D->T)(step:∀{F:Bx} {Z2 H2:Hp} {z:L2.St} {U2:BB} {ts:Bn} {vs:B0} {gs:B1} {j:Nat} {v:V},bq X.K CL F H2 Z2 U2 z ts vs->dO X.K CL Z2 kvs gs->yl gs j H2 v->i<U2.length->∃k d,kvs[j]? = some (k,d)/\bq X.K CL F H2 Z2 (U2.set i (some (tr k d))) (z.set i QaQ) ts vs)
  (pi:∀{te:TE},PE X e te->PI X Qg4 N (XB yl X te)) (g:Gx X) (nm:Qbl) (P:FA) (h:Ql1) (h0:QfK) (hl:∀j U,P j U->i<U.length)
  (hs:∀(F:Bx) (j:Nat) (k:Cc) (d:L3.D) U,kvs[j]? = some (k,d)->P j U->cQ X CL F body (U.set i (some (tr k d))) {nx:=P QF,rt:=D.rt,bk:=λU2=>cQ X CL b dQ U2 D,ct:=P QF}) (hd:∀U,P kvs.length U->cQ X CL b dQ U D)
  (hq:AN X N):cQ X CL b (.For Qg4 N body [] pos::dQ) U D:=bS λH Z Y ts vs E S M=>
 Xq (lT (Qp g.xe g.calm (pi cL) (vv g.nd nm.hi nm.loc nm.hf) UC hq) (h H Z Y ts vs _ S λv H1 Z1 C k1 w=>by
  have r:=w.Gi;cases r with
  | @dct a gs _ n G=>
   have W:kvs.length=gs.length:=G.length;obtain n|⟨o,n⟩:=n
   .have hH:=w.zh a _ n;refine⟨a,gs,rfl,.inl ⟨hH,λo hz=>?_⟩⟩;have S2:=w.pop.q0 n o;have WY:dO X.K CL QgI kvs gs:=dO.conv (λc u q=>by
     by_cases e:c=a
     .subst e;rw[n]at q;cases q;exact .inr QlF
     .exact .inl (by rw[au e];exact q)) G
    have t1:∀u,b.B a=some u->u=.dT gs:=λu q=>by
     have:=w.bh a u q;rw[hH]at this;exact(l5 this).symm
    have t2:∀u,b.Z a=some u->u=.dT gs:=λu q=>by
     have:=w.zz a u q;rw[n]at this;exact(l5 this).symm
    have t3:b.Z a=none->b.B a=none:=w.new a _ n;have back:∀{Z2:Hp},aB QgI Z2->aB Z (upd Z2 a QaB):=λ{Z2} s c u q=>by
     have q1:=C c u q;by_cases e:c=a
     .subst e;rw[n]at q1;cases q1;exact aC
     .rw[au e];exact s c u (by rw[au e];exact q1)
    refine⟨λj m Y H2=>m=gs.length-j/\j<=gs.length/\∃Z2 U2,aB QgI Z2/\bq X.K CL QgR H2 Z2 U2 Y ts vs/\P j U2,⟨_,rfl,i8 _,_,δ1,.refl _,S2,h0⟩,?_⟩;rintro j m z H2 ⟨rfl,hj,Z2,U2,s,p,p2⟩;have l:Z2 a=some Qat:=s a _ aC;by_cases A:j<gs.length
    .refine .inr ⟨⟨A,p.zh a _ l⟩,λY' H'=>∃Z2 U2,aB QgI Z2/\bq X.K CL QgR H' Z2 U2 Y' ts vs/\P QF U2,λY' H' h=>⟨gs.length-QF,We,rfl,A,h⟩,λy H' I=>?_⟩;obtain⟨rfl,J⟩:=I;obtain⟨k,d,O,R⟩:=step p (WY.mono s) J QjS;exact hs _ j k d U2 O p2 _ Z2 _ ts vs _ R ⟨λU' Y' H' Z' s' f k=>⟨Z',U',s.trans s',f,k⟩,λt v H' Z' U' Y' s' f k=>.inr ⟨a,o,gs,f.zh a _ (s' a _ l),hz,M.rt t v _ _ U' Y' (back QiR) Qsz k⟩,λU' Y' H' Z' s' f k=>.inr ⟨a,o,gs,f.zh a _ (s' a _ l),hz,M.nx U' Y' _ _ (back QiR) Qsz k⟩,λU' Y' H' Z' s' f k=>⟨Z',U',s.trans s',f,k⟩⟩
    .have L:j=gs.length:=by lia
     subst L;exact .inl ⟨⟨ik _,p.zh a _ l⟩,.inr ⟨a,o,gs,p.zh a _ l,hz,M.nx U2 z _ _ (back s) (p.Xp l t1 t2 t3) (hd U2 (W▸p2))⟩⟩
   .refine⟨a,gs,rfl,.inr ⟨o,w.zh a _ n,?_⟩⟩;refine⟨λj m Y H2=>m=gs.length-j/\j<=gs.length/\∃Z2 U2,aB Z1 Z2/\bq X.K CL b H2 Z2 U2 Y ts vs/\P j U2,⟨_,rfl,i8 _,_,δ1,.refl _,w.pop,h0⟩,?_⟩;rintro j m z H2 ⟨rfl,hj,Z2,U2,s,p,p2⟩;have l:Z2 a=some Qat:=s a _ n;by_cases A:j<gs.length
    .refine .inr ⟨⟨A,p.zh a _ l⟩,λY' H'=>∃Z2 U2,aB Z1 Z2/\bq X.K CL b H' Z2 U2 Y' ts vs/\P QF U2,λY' H' h=>⟨gs.length-QF,We,rfl,A,h⟩,λy H' I=>?_⟩;obtain⟨rfl,J⟩:=I;obtain⟨k,d,O,R⟩:=step p (G.mono s) J QjS;exact hs _ j k d U2 O p2 _ Z2 _ ts vs _ R ⟨λU' Y' H' Z' s' f k=>⟨Z',U',s.trans s',f,k⟩,λt v H' Z' U' Y' s' f k=>.inl (M.rt t v _ _ U' Y' Qvx f k),λU' Y' H' Z' s' f k=>.inl (M.nx U' Y' _ _ Qvx f k),λU' Y' H' Z' s' f k=>⟨Z',U',s.trans s',f,k⟩⟩
    .have L:j=gs.length:=by lia
     subst L;exact .inl ⟨⟨ik _,p.zh a _ l⟩,.inl (M.nx U2 z _ _ (C.trans s) p (hd U2 (W▸p2)))⟩))
def Va(g:Gx X)(nm:Qbl)(P:FA)(h:Ql1)(h0:QfK)(hl:∀j U,P j U->i<U.length)
  (hs:∀(a:Bx) (j:Nat) (k:Cc) (d:L3.D) U,kvs[j]? = some (k,d)->P j U->cQ X CL a body (U.set i (some (tX k))) {nx:=P QF,rt:=D.rt,bk:=λU2=>cQ X CL b dQ U2 D,ct:=P QF}) (hd:∀U,P kvs.length U->cQ X CL b dQ U D)
  (m:AN X e:=by intro _;rfl):cQ X CL b (.For Qg4 e body [] pos::dQ) U D:=
 akI (λgs i H x=>∃b k v,x=.ref b/\gs[i]? = some (k,v)/\H b=some Qf9) (λk _=>tX k) (λ{a Z2 H2 r U2 ts vs gs j v} c f l hi=>by
  obtain⟨q,k,v,rfl,o,n⟩:=l;obtain⟨d,p,_⟩:=f.we o;exact⟨k,d,p,(c.Ou (.tup (c.tp _ _ n rfl) (aQ.HH (yR _)))).set hi⟩) akD g nm P h h0 hl hs hd m
end
def NP(kvs:Qnn):BA:=kvs.map λq=>OA q.1
variable{o:Obj}
theorem HZ(S:bq X.K CL b H1 Z1 δ1 Y ts vs)(e:Z1 a=some Qat)(c:dO X.K CL Z1 kvs gs):Aw X CL b δ1 Y ts vs Z1 H1 (NP kvs) Qhb H1:=by
 have hl:=c.length;have l:(NP kvs).length=gs.length:=by unfold NP;rw[cK,hl]
 refine⟨Z1,.refl _,.refl _,S,λi H2 s hi=>⟨We,s a _ e⟩,λi Z2 H2 x H' s1 s2 tp hi f=>?_,λH2 s=>⟨We,s a _ e⟩⟩;obtain⟨rfl,j,k,v,rfl,h,g⟩:=f;obtain⟨d,hd,rd⟩:=c.we h;exact⟨Z2,OA k,by unfold NP;rw[j2,hd];rfl,.refl s2 tp,.tup (tL.of (tp _ _ g rfl)) (yR _)⟩
theorem An(h:Ql1)(S:Qf8):MW X (yJ X e) Y H (X1 X CL b δ1 Y ts vs Z H (NP kvs)):=h H Z Y ts vs _ S λv H1 Z1 g k1 f=>by
 have r:=f.Gi;cases r with
 | @dct a gs _ d i=>
  refine⟨a,gs,rfl,?_⟩;obtain d|⟨o,d⟩:=d
  .refine .inl ⟨f.zh a _ d,λo hz=>.inr ⟨a,o,gs,H1,Z1,d,g,k1,f.pop,hz,rfl,?_⟩⟩;refine HZ (f.pop.q0 d o) aC (dO.conv (λc u q=>?_) i);by_cases e:c=a
   .subst e;rw[d]at q;cases q;exact .inr QlF
   .exact .inl (by rw[au e];exact q)
  .obtain⟨Z2,q1,k,j⟩:=(HZ f.pop d i).ex;exact .inr ⟨o,f.zh a _ d,.inl ⟨Z2,g.trans q1,k1.trans k,j⟩⟩
variable{e1:Expr}{c:Str}{fs:Qu8}
def afH{kj:Nat}{p2:Pos}(h:cN X CL b e1 U QaZ δ1):sR X CL b QhR U false δ1:=λH Z Y ts vs Q S k=>
 yK Qov (h H Z Y ts vs _ S λv H1 Z1 a k1 d r=>by
   obtain⟨_,_,_,rfl,_,_⟩:=r.Dt;exact⟨_,rfl,by simpa using k H1 Z1 a k1 d⟩)
structure EL(X:Cx)(N G:At):Prop extends UO X where
 ll:∀(i:Nat) {x:Str} (_:N[i]? = some x:=by rfl),Ln X i x
 gg:∀(i:Nat) {x:Str} (_:G[i]? = some x:=by rfl),Gl X x
noncomputable abbrev Ro(N:At):Bool:=N.all λx=>!(x==("__debug__":Str)) && !(x==("__classdict__":Str))
variable{N P G:At}{tb:DA}
def gE(u:UO X)(c:QmT)(a:X.N=N:=by rfl)(hf:∀x,X.fn x=true:=by exactλ_=>rfl)(hd:Ro N=true:=by decide +kernel):EL X N G:=
 ⟨u,λi x h=>by
  have:=me.1 hd _ (kA h);simp only[lj,tw]at this;exact gL c i h (by rw[a];exact h) (hf x) this.1 this.2,λi x h=>gG c i h⟩
def Kd{sc:Scope}(h:UI sc tb=true){k:NameKind}(m:(x,k)∈tb):sc.names.lookup x=some k:=by
 obtain⟨i,hi⟩:=List.mem_iff_getElem?.1 m;exact dF h i hi
def cE(u:UO X)(c:UI X.env.scope tb=true)(a:X.N=N:=by rfl)(hf:∀x,X.fn x=true:=by exactλ_=>rfl)(hd:Ro N=true:=by decide +kernel)
  (hl:∀x∈N,(x,.local)∈tb\/(x,.cell)∈tb:=by decide +kernel) (b:∀x∈G,(x,.globalImplicit)∈tb:=by decide +kernel):EL X N G:=
 ⟨u,λi x h=>by
  have:=me.1 hd _ (kA h);simp only[lj,tw]at this;obtain m|m:=hl x (kA h)
  .exact Mo (by rw[a];exact h) (Kd c m) (hf x) this.1 this.2
  .exact US (by rw[a];exact h) (Kd c m) (hf x) this.1 this.2,λi x h=>Kd c (b x (kA h))⟩
theorem Fq.at{m:Str}{k:Nat}{A:Type}{arg:Qaj}{Pre:Q2}{res:QaU}(F:Fq X CL c m k n arg Pre res)(a:A)(b:Pre a):Fq X CL c m k n (λ_:Unit=>arg a) QgN (λ_=>res a):=by
 obtain⟨⟨f,fd,ps,m,G,B⟩,r,cl⟩:=F;refine⟨⟨f,fd,ps,m,G.imp λvs H Q E q=>?_,B⟩,r,cl⟩;obtain⟨W,_,h1,h2,h,g,_,e,d⟩:=q;exact⟨W,a,h1,h2,h,g,b,e,d⟩
abbrev Rj(K:Frag)(x:Str):Prop:=nsIn K mainGlobals x=some none
abbrev AH(K:Frag)(x:Str)(n:Int)(t:Tok):Prop:=nsIn K mainGlobals x=some (some (.int n t))
theorem jB.bA(F:Qoq)(ps:At)(q:LF x x st ps:=by(repeat intro _);rfl):Binds K fd ps []:=F.binds λa b c d e f=>J5 QnU
theorem oa.bA(F:QuG)(ps:At)(q:LF x qual st ps:=by(repeat intro _);rfl):Binds K fd ps []:=F.binds λa b c d e f=>J5 QnU
open PySem.W in
def Xv(n:Nat){α:Type}(R:α->Prop):KasT α->Prop
 | .ret a=>R a
 | .ask i j k=>i<n/\j<n/\∀c,Xv n R (k c)
open PySem.W in
noncomputable def y0{α:Type}(f:Qvy):KasT α->α
 | .ret a=>a
 | .ask i j k=>y0 f (k (f i j))
section
open PySem.W
variable{α β:Type}{p:QhG}{R:α->Prop}
theorem vH{S:β->Prop}{g:α->KasT β}(h:∀a,R a->Xv n S (g a)):∀{t:KasT α},Xv n R t->Xv n S (t.bind g)
 | .ret a,r=>h a r
 | .ask i j k,r=>⟨r.1,r.2.1,λc=>vH h (r.2.2 c)⟩
theorem Vb{f:Qvy}{cmp:Nat->Nat->Qmh->Shared->Prop}(h:∀i j C s,i<n->j<n->C (f i j) s->cmp i j C s):∀{t:KasT α},Xv n R t->R (y0 f t)/\∀Q s,Q (y0 f t) s->t.kasWp cmp Q s
 | .ret a,r=>⟨r,λQ s q=>q⟩
 | .ask i j k,r=>⟨(Vb h (r.2.2 _)).1,λQ s q=>h i j _ s r.1 r.2.1 ((Vb h (r.2.2 _)).2 Q s q)⟩
def MH(n:Nat)(p:QhG):Prop:=p.Perm (List.toArray (List.range Q4))
theorem MH.gd(h:MH n p){k:Nat}:p.getD k 0<n+1:=by
 unfold Array.getD;split
 .have:=h.mem_iff.1 (Array.getElem_mem ‹_›);simp_all
 .lia
theorem MH.rev(h:MH n p)(i j d:Nat):MH n (mirror p i j d):=(mirror_perm p i j d).trans h
theorem Rk(h:MH n p):∀m k,Xv Q4 QgN (kas_asc p m k)
 | 0,_=>trivial
 | m+1,k=>⟨h.gd,h.gd,fun|true=>trivial|false=>Rk h m _⟩
theorem Ke:∀m (p:QhG) k q,MH n p->Xv Q4 (λr=>MH n r.1) (kas_desc m p k q)
 | 0,_,_,_,h=>h
 | m+1,p,k,q,h=>⟨h.gd,h.gd,fun
  | true=>by
   show Xv _ _ (if q > 0 then _ else _);split<;>exact Ke m _ _ _ (by first|exact h.rev .. | exact h)
  | false=>⟨h.gd,h.gd,fun|true=>h|false=>Ke m _ _ _ h⟩⟩
def abe(h:MH n p)(k m:Nat):Xv Q4 Qug (kas_tail3 k m p):=vH (λ_ _=>by exact h.rev ..) (Rk (h.rev ..) _ _)
def Vc(h:MH n p)(k m:Nat):Xv Q4 Qug (kas_descPart k m p):=vH (λr q=>by split<;>exact abe (by first|exact q.rev .. | exact q) _ _) (Ke _ _ _ _ h)
theorem DU(h:MH n p)(k:Nat):∀m l r,Xv Q4 QgN (kas_place p k m l r)
 | 0,_,_=>trivial
 | m+1,l,r=>by
  unfold kas_place;split
  .trivial
  .exact⟨h.gd,h.gd,fun|true=>DU h k m _ _|false=>DU h k m _ _⟩
theorem P2:∀m (p:QhG) k,MH n p->Xv Q4 (MH n) (kas_bin m p k)
 | 0,_,_,h=>h
 | m+1,p,k,h=>vH (λl _=>P2 m _ _ ((bubble_perm ..).trans h)) (DU h k k 0 k)
def Vd:Xv Q4 (MH n) (kas_sort Q4):=by
 have h:MH n _:=Array.Perm.refl _;refine vH (R:=λr=>MH n r.2) (λr q=>?_) (vH (λk _=>?_) (Rk h _ _))
 .split
  .exact P2 _ _ _ q
  .exact q
 .split
  .exact h
  .split
   .exact⟨h.gd,h.gd,fun|true=>h|false=>Vc (h.rev ..) _ _⟩
   .exact Vc h _ _
end
variable{α:Type}
noncomputable def qk(p:Cn)(l:Qaa):List α:=p.filterMap (l[·]?)
def ot(kz:AT):Cn:=(y0 (λi j=>decide QuH) (PySem.W.kas_sort kz.length)).toList
def iR(g:Qky)(l:Qaa):List α:=qk (ot (l.map g)) l
variable{β:Type}{g:Qky}{l:Qaa}
theorem DV(kz:AT):(ot kz).Perm (List.range kz.length):=by
 cases kz with
 | nil=>exact .refl _
 | cons k kz=>exact Array.perm_iff_toList_perm.1 (Vb (λi j C s _ _ c=>c) Vd).1
theorem NQ:∀l:List α,qk (List.range l.length) l=l
 | []=>rfl
 | a::l=>by
  unfold qk;rw[mi,List.range_succ_eq_map,m4,List.filterMap_map];exact congrArg _ (NQ l)
variable{kz:AT}
noncomputable def Ic(h:kz.length=l.length):(qk (ot kz) l).Perm l:=((DV _).filterMap _).trans (.of_eq (h▸NQ l))
def qV(l:Qaa):(iR g l).Perm l:=Ic (cK _)
def Ie{x:α}:x∈iR g l↔x∈l:=(qV l).mem_iff
def AI(l:Qaa):(iR g l).length=l.length:=(qV l).length_eq
def Ig(f:β->α)(l:List β):iR g Qfe=(iR (λy=>g (f y)) l).map f:=by
 unfold iR qk;rw[i0,List.map_filterMap];congr 1;funext i;exact j2 ..
theorem AJ{R:Qn0}{m:List β}(h:l.length=m.length)(q:∀(i:Nat) a c,l[i]? = some a->m[i]? = some c->R a c):∀p,Paired R (qk p l) (qk p m)
 | []=>.nil
 | i::p=>by
  have b:=AJ h q p;unfold qk at b ⊢;rw[m4,m4];by_cases hi:i<l.length
  .have e1:=kf hi;have e2:=kf (h▸hi);rw[e1,e2];exact .cons (q i _ _ e1 e2) b
  simp_all
def zc(kz:AT)(xs:B0):B0:=qk (ot kz) xs
def Ih(h:Qvz):(zc kz xs).length=xs.length:=(Ic h).length_eq
theorem Xw{g:D->Int}{ds:BA}(r:Qn8):ay K CL Z (iR g ds) (zc Qo1 us):=by
 have h:=AJ (R:=bz K CL Z) r.length (λi a c h1 h2=>by
  obtain⟨v,e,q⟩:=r.get h1;simp_all) (ot Qo1)
 unfold iR zc;generalize qk _ _=x at h ⊢;generalize qk _ _=y at h ⊢
 induction h with
 | nil=>exact .nil
 | cons r _ i=>exact .cons r i
theorem NR{keys:Cl}{us:B2}(c:keys.size=us.length)(hl:QiS)(r:QcL){p:QhG}(b:p.toList=ot kz) :
  Vals Qfc ((p.map (kas_item Qix)).map (·.2)).toList:=by
 have e:∀q,(∀i∈q,i<us.length)->q.map (λi=>(kas_item Qix i).2)=qk q us:=by
  intro q
  induction q with
  | nil=>intro _;rfl
  | cons i q a=>
   intro h;have hi:=h i gk;unfold qk at a ⊢;rw[kn,a λj d=>h j Qhr];simp[kas_item,hi,c]
 rw[Array.map_map,Array.toList_map,b];refine(e _ λi hi=>?_)▸AJ r.length (λi x u h1 h2=>?_) _
 .have:=ma.1 ((DV _).mem_iff.1 hi);lia
 .obtain⟨v,e,q⟩:=r.get h1;simp_all
section
variable{kS l:Addr}{us:B2}{J:Qkh}{e1:Nat}{P:Qr9}
theorem afI{keys:Cl}{e:Nat}(I:Qa7)(q:Qoo)(v:QgZ)(b:kS≠a)(ok:s.heap.get? kS=some Qs4)(o:s.heap.get? a=some (seqObj "list" #[] e1))
  (l:IntsAre keys.toList kz) (hlen:QiS) (D:QoZ) (r:QcL)
  (h:∀s' out c,L2.Inv X pins Y H s'->s'.heap.get? a=some Qmj->Vals Qfc out.toList->P QiD s') :
  wpAny Qe A (ksk_end a false us.toArray e1 (.ref kS) keys) P E s:=by
 have hsz:keys.size=us.length:=by
  have h1:=l.length;rw[Array.length_toList]at h1;lia
 have k:(keys.zip us.toArray).size=us.length:=by rw[Array.size_zip,hsz,m3,Nat.min_self]
 unfold ksk_end
 try dsimp only
 simp only[pj,n3];by_cases h2:us.toArray.size<2
 .rw[cq h2,cq h2];refine ec (i2 ?_);rw[StateT.run_pure];refine ec (i2 ?_)
  try dsimp only
  rw[m3]at h2;have ep:QqD=ot kz:=by
   rw[k,<- hlen]
   match kz,hlen with
   | [],_=>rfl
   | [_],_=>rfl
   | _::_::_,e=>rw[<- e]at h2;simp at h2;lia
  refine UR I q v b ok o We We rfl λs' c m o'=>h s' _ c m o' ?_;have:=NR hsz hlen r (p:=List.toArray QqD) ep
  rwa [kas_range]at this
 .rw[bX h2,bX h2];rw[m3]at h2;rw[ksk_kind l (by rw[hsz];lia)];refine ec (i2 ?_);obtain⟨n,hn⟩:∃n,kz.length=n+1:=⟨kz.length-1,We⟩;have G:=(Vb (f:=λi j=>decide QuH) (cmp:=kas_cmp X.prog X.w A oneType' Qix) (λi j C s hi B c=>?cmp) (Vd (n:=n))).2
  case cmp=>
   have it:∀i,i<n+1->∃t,(kas_item Qix i).1=.int (kz.getD i 0) t:=λi hi=>by
    have h1:i<keys.size:=by lia
    obtain⟨t,e⟩:=l.int_at i keys[i] (by simp[h1]);have h2:i<us.length:=by lia
    exact⟨t,by rw[<- e];simp[kas_item,Array.getD,h1,h2];rw[dif_pos We]⟩
   obtain⟨t,e1⟩:=it i hi;obtain⟨u,e2⟩:=it j B;unfold kas_cmp;rw[e1,e2,keyLt'_oneType];exact oneLt_int c
  have R:=PySem.W.kas_runs (E:=E) (n:=n+1) (s:=s) (Q:=λ_ d s'=>s'=s/\failedOf d=none/\∃p:Array Nat,p.toList=ot kz/\arrOf d=p.map _) We We (λx d s' _ e1 e2 g=>⟨g.1,e2,x,g.2,e1⟩) (G (λp s'=>s'=s/\p.toList=ot kz) s ⟨rfl,by unfold ot;rw[hn]⟩);unfold PySem.W.kas_st at R;rw[show n+1=(keys.zip us.toArray).size by lia,kas_range]at R;refine ec (la R ?_ λ_ _ e=>e);rintro⟨⟨⟩,d⟩ s' ⟨rfl,hf,p,y,e⟩;have z:(arrOf d).size=us.length:=by
   have:=(DV kz).length_eq;grind
  refine UR I q v b ok o We We hf λs' c m o'=>h s' _ c m o' ?_;rw[e];exact NR hsz hlen r y
theorem abg(I:Qa7)(z:Qoo)(G:QgZ)(q:kS≠a)(ok:s.heap.get? kS=some (seqObj "list" #[] 0))(O:s.heap.get? a=some (seqObj "list" #[] e1))(T:J H)
  (hlen:QiS) (Y6:QoZ) (r:QcL)
  (turn:∀(i:Nat) (x:V) (k:Int),xs[i]? = some x->kz[i]? = some k->∀(M:BC) (s':Qb) (u:Value) (H':Hp),L2.Inv X M Y H' s'->J H'->RelV x u →
   wpAny Qe A Qjc (EP X M Y λv L=>v=.int k/\J L) Qbi s')
  (h:∀s' H' out c,L2.Inv X pins Y H' s'->J H'->H' a=none->s'.heap.get? a=some Qmj->Vals Qfc out.toList->P QiD s') :
  wpAny Qe A (ksk_rest a Qad false us.toArray e1 (.ref kS)) P E s:=by
 refine ec (wpAny_rule ?_)
 first
  | rw[List.forIn_toArray]
  | (simp)
  | rw[<- Array.forIn_toList]
 refine ec (ksk_fold (λi s'=>∃H' g e,L2.Inv X _ Y H' s'/\J H'/\H' _=none/\H' a=none/\s'.heap.get? _=some (seqObj _ g e)/\s'.heap.get? a=some _/\IntsAre g.toList (kz.take i)) _ 0 s
  ⟨H,_,0,I,T,z.1,G.1,ok,O,by simpa using IntsAre.nil⟩ ?step ?done)
 case step=>
  rintro j u s' U ⟨H',g,e,K,D,C,na,d,l,y⟩;simp only[Nat.zero_add]at y ⊢;have W:=(lr.1 U).1;obtain⟨k,p⟩:∃k,kz[j]? = some k:=⟨_,kf We⟩;obtain⟨x,o⟩:∃x,xs[j]? = some x:=⟨_,kf (r.length▸W)⟩;have N:RelV x u:=by
   obtain⟨u',e1,e2⟩:=r.get o;lia
  have hz:g.size<=us.length:=by
   have h1:=y.length;simp at h1;lia
  have Ip:=K.pinned (λb m=>by
   obtain rfl|m:=fP.1 m
   .exact wj z C
   .exact kx.1 m▸wj G na) (λb m=>by
   obtain rfl|m:=fP.1 m
   .exact⟨_,d,We ⟩
   simp_all)
  refine ec (wpAny_attempt (la (turn j x k o p _ _ u _ Ip D N) (λv n he=>?_) λ_ _ Z=>Z.elim));obtain⟨w,H2,t,B,rfl,S⟩:=he;obtain⟨t2,rfl⟩:=B;have pk:=t.pin _ (iF _ (iF _ (kg Wp d)));have pa:=t.pin _ (iF _ (iF _ (kg Wp l)));have I3:=CQ t.tM (wj z pk.2.1) (Obj.mapSeq (·.push (.int k t2)));have s1:=w8 n.heap kS (Obj.mapSeq (·.push (.int k t2)));obtain⟨c2,HB⟩:∃c2,(n.heap.update kS (Obj.mapSeq _)).get? kS=some _:=⟨_,get?_update_seq pk.1 (·.push _)⟩;have ek:kz.take QF=kz.take j++[k]:=by simp[rk,p]
  have ea:(g.push (Value.int k t2)).toList=g.toList++[Value.int k t2]:=by simp
  refine ec (listUpdate_at pk.1 rfl ?_ (by rw[ko];lia) (ky (Nat.le_of_eq (Array.size_push _)) (by rw[ko];lia)));exact i2 ⟨rfl,_,_,_,I3,S,pk.2.1,pa.2.1,HB,(s1.2 a q.symm).trans pa.1,by rw[ea,ek];exact ksk_snoc y⟩
 case done=>
  rintro s' ⟨H',g,e,K,D,C,na,d,l,y⟩;have F:IntsAre g.toList kz:=by grind
  refine ec (listItems_at d rfl ?_);exact afI K (wj z C) (wj G na) q d l F hlen Y6 r λs2 out c t R v2=>h _ _ _ c t D na R v2
theorem abh(I:Qa7)(p:QgZ)(g:s.heap.get? a=some (seqObj "list" us.toArray n))(q:J H)
  (hlen:QiS) (y:QoZ) (r:QcL)
  (turn:∀(i:Nat) (x:V) (k:Int),xs[i]? = some x->kz[i]? = some k->∀(m:BC) (s':Qb) (u:Value) (H':Hp),L2.Inv X m Y H' s'->J H'->RelV x u →
   wpAny Qe A Qjc (EP X m Y λv l=>v=.int k/\J l) Qbi s')
  (h:∀s' H' out c,L2.Inv X pins Y H' s'->J H'->H' a=none->s'.heap.get? a=some Qmj->Vals Qfc out.toList->P QiD s') :
  wpAny Qe A (ksk_tree a Qad false) P E s:=by
 have t:=j0 g;obtain⟨e1,d⟩:∃e1,(s.heap.update a _).get? a=some (seqObj _ _ e1):=⟨_,get?_update_seq g _ ⟩;have B:=CQ I p (Obj.mapSeq λ_=>(#[]));have j:((s.heap.update a (Obj.mapSeq λ_=>(#[]))).push Qrx).objs.size=s.heap.objs.size+1:=by simp
 have z:L2.Inv X _ Y H {s with heap:=((s.heap.update a _).push Qrx).push (seqObj "list" #[] 0)}:=
  B.kept λb o e=>ka _ Qfs
 refine ec (listItems_at g rfl ?_);refine ec (listUpdate_at g rfl ?_ (by rw[m3,ko];lia) Wp);refine ec (seqEpoch_at d rfl ?_);refine ec (wpAny_newTuple ?_ (by show us.length<=_;rw[ko];lia));refine ec (wpAny_newList ?_ Wp);apply tG;refine abg
  z (I.Di Wp (I.cR.fresh Wp)) p (j▸Nat.ne_of_gt (Nat.lt_succ_of_lt t)) (l6 _ rfl) (ka _ (ka _ d)) q hlen y r turn h
theorem Rl{Q:VK}(I:Qa7)(z:mJ X.K H l xs)(hlen:Qvz)(G:xs.length<64)(y:J H)
  (turn:∀(i:Nat) (x:V) (k:Int),xs[i]? = some x->kz[i]? = some k->∀(n:BC) (s':Qb) (u:Value) (H':Hp),L2.Inv X n Y H' s'->J H'->RelV x u →
   wpAny Qe X.A.in1.in1 Qjc (EP X n Y λv j=>v=.int k/\J j) Qbi s')
  (h:∀D H',J H'->H' D=none->Q Qfn (upd H' D (.lst Qfc))) :
  wpAny Qe X.A (call QiH [.ref l] [(Str.ofString "key",.ref f)]) Qa9 E s:=by
 obtain⟨us,r,pl,hz⟩:=I.list z;have F:=r.length;have hl:s.heap.IsList l us.toArray:=pl.isList;refine call_function_entry_kw kind_sorted plain_sorted entry_sorted (ksk_s1 _ _) ?_;unfold Builtin.«sorted»;refine ec (m:=checkCount "sorted" 1 1 _) (i2 ?_);refine ec (collect_list hl ?_ (by rw[ko];lia));refine ec (wpAny_newList ?_ (by rw[ko];lia));have hsz:((s.heap.push (seqObj "list" #[] 0)).update s.heap.objs.size (Obj.mapSeq (· ++ us.toArray))).objs.size=s.heap.objs.size+1:=by
  rw[Heap.size_update,size_push']
 have a:(((s.heap.push (seqObj "list" #[] 0)).update s.heap.objs.size (Obj.mapSeq (· ++ us.toArray))).push QfY).get? Qbm=some QfY:=by
  rw[<- hsz];exact l6 _ rfl
 have keep:∀b o,s.heap.get? b=some o->(((s.heap.push (seqObj "list" #[] 0)).update s.heap.objs.size (Obj.mapSeq (· ++ us.toArray))).push QfY).get? b=some o:=λb o q=>by
  have d:b<s.heap.objs.size:=j0 q;rw[Heap.get?_push_ne _ _ _ (by rw[hsz];exact kr (Nat.lt_succ_of_lt d)),Heap.get?_update_ne _ _ _ _ (kr d),Heap.get?_push_ne _ _ _ (kr d)];exact q
 show wpAny _ _ _ _ _ {s with heap:=((s.heap.push (seqObj "list" #[] 0)).update s.heap.objs.size (Obj.mapSeq (· ++ us.toArray))).push QfY};rw[hsz];have B:L2.Inv X pins Y H {s with heap:=((s.heap.push (seqObj "list" #[] 0)).update s.heap.objs.size (Obj.mapSeq (· ++ us.toArray))).push QfY}:=I.kept (t':=s.toks) keep;have p:∀{H':Hp},H' Qbm=none->lR X pins H' Qbm:=λ{H'} e=>I.Di (n2 _) e;refine ec (tG (wpAny_call_entry_kw slot_list_sort ⟨_,a,rfl⟩ entry_list_sort ?body (ksk_l1 _ _)))
 case body=>
  have g:=ksk_t1 f Qbm;show wpAny Qe X.A.in1.in1 (Builtin.«list.sort» ⟨[.ref Qbm],[(Str.ofString "key",.ref f)]⟩) _ _ _;rw[g];refine abh B (p QmD) a y We We r turn λs' H' out c C t na o' v'=>⟨_,rfl,?_⟩;refine i2 ⟨_,rfl,.ref Qbm,_,HR C (p na) (o:=.lst Qfc) ⟨?_,out.toList,c,v',?_⟩,rfl,h _ H' t na⟩
  .rw[Ih hlen];exact hz
  .simpa using o'
end
variable{body:Expr}{g:L3.D->Int}{scope:Scope}{y q tx:Str}{Nc:At}{ix:Cn}{params:Qkp}{lp p2:Pos}
theorem DW(L:xc X CL tx q)(g0:Gx X)(dp:X.A.depth<recursionLimit)(hm:Qi2)(hg:QjM)(sc:QfN)(h:QcV)(hi:Qdu)(hl:ds.length<64)
  (inner:aoA X CL q scope Nc body (Dy δ1 ix) ds g) (P:Qsu:=by rfl)
  (Nx:∀cl pm cd ct u,bindArgs QpY ⟨[u],[]⟩=pure [(y,u)]:=by intros;rfl) (G:QtQ:=by rfl) (O:QtR:=by rfl)
  (hs:Qan:=by exact aZ rfl) :
  bY X CL b (.Call QmK [e] [⟨some "key",.Lambda params body scope lp,p2⟩] pos) U (.lst ((iR g ds).map T.sh)) δ1:=by
 intro H Z Y ts vs Q S k pins s I;have m:PA X [e] (Uv (yJ X e) Zo):=bP cL di hs;have hk:PK X [⟨some "key",.Lambda params body scope lp,p2⟩] (Uv (yJ X (.Lambda params body scope lp)) Zo):=Uw cL Zu;refine pv (ni I hg hm qR ?_);refine callWith_kw (dP (m pos pins s Y H (λE H1=>∃v Z1,E=[v]/\aB Z Z1/\aB H H1/\bq X.K CL b H1 Z1 δ1 Y ts vs/\bz X.K CL H1 QcB v) I (h H Z Y ts vs _ S λv H1 Z1 C k1 l r=>⟨v,Z1,rfl,C,k1,l,r⟩)) λus s1 zz=>?_) (by rw[hs];rfl) (by rw[hs];rfl) rfl rfl;obtain⟨aa,H1,I1,r1,v1,Z1,e1,C,k1,l,rep1⟩:=zz;subst e1;have N:H1 (CL tx)=some (.tabs q):=by
  have:=l.Nh tx L.tab.1 L.tab.2.1;rw[L.tab.2.2]at this;exact this
 refine dP (hk pos pins s1 Y H1 (λzs H2=>∃f c,zs=[.ref f]/\aB H1 H2/\H2 f=some Qk3/\H2 c=some Qcu) I1
  (λmz s' W=>akg L W N (λy hy e=>W.ok.has y.1 (sc.frees y hy e).2) P λf c H2 s2 V k2 hf M _=>⟨.ref f,H2,V,rfl,f,c,rfl,k2,hf,M⟩)) λws s2 zz=>?_
 obtain⟨zs,H2,V,rz,f,c,e2,k2,hf,M⟩:=zz;subst e2;obtain⟨u,rfl,ru⟩:=rz.one;cases ru;obtain⟨v,rfl,rv⟩:=r1.one;obtain⟨p,UU,rfl,hq,F⟩:=rep1.gT;cases rv;show wpAny _ _ (call QiH [.ref p] [(Str.ofString "key",.ref f)]) _ _ s2;have hlen:=F.length;refine Rl (J:=λj=>∃Z3,aB H2 j/\aB H2 Z3/\aB Z3 j/\∀a o,j a=some o->ju o=true->Z3 a=some o) (kz:=ds.map g) V (k2.seq hq) (by rw[cK,hlen]) We
  ⟨H2,.refl _,.refl _,.refl _,λ_ _ q _=>q⟩ (λi x kk hx w mz s' u j R zz rx=>?_) λD j zz hD=>?_
 .obtain⟨Z3,a1,a2,a3,a4⟩:=zz;obtain⟨d,hd,rd⟩:=F.QD hx;have ek:kk=g d:=by
   rw[j2,hd]at w;exact(l5 w).symm
  subst ek;refine aaA sc R R.ok.frames (R.ok.hd g0.calm) dp (a1 _ _ hf) (a1 _ _ M) rx Nx G O ?_;have S0:bq X.K CL ⟨j,Z3⟩ j Z3 (some Qa3::Dy δ1 ix) (Au Y ix (some x)) [] []:=
   ⟨⟨[]++[],[],.cons (.sh (rd.mono Qjy)) ((yM l ix j).mono Qjy λa m=>by cases m),.nil,nc,λa m=>by cases m⟩,.refl _,.refl _,a3,λa o q z=>(by have n:Z3 a=none:=z;rw[show Z3 a=some o from q]at n;cases n),a4,l.Nh.mono Qjy⟩
  refine inner f c s' j ⟨j,Z3⟩ d (kA hd) j Z3 _ [] [] _ S0 λv H5 Z5 z5 k5 B r5=>⟨?_,Z5,a1.trans k5,a2.trans z5,B.zh,B.tp⟩;cases r5;rfl
 .obtain⟨Z3,a1,a2,a3,a4⟩:=zz;obtain⟨Z',n,S4⟩:=l.back (t:=.sh (.int 0)) (v:=.int 0) (fp:=[]) (k2.trans a1) l.zh Qjy a3 (λa o q z=>z) a4 (.sh (.int 0)) nc (λa m=>by cases m) Qay;obtain⟨c5,B⟩:=(bq.qg (Xw (g:=g) ((ay.m7 l.tp hi F).mono n)) S4.pop).nB (g0:=[]) (by rw[Ih (by rw[cK,hlen]),cK,AI];exact hlen.symm) hD;exact k _ _ _ (C.trans n) ((k1.trans (k2.trans a1)).trans c5) B
def PU{D:dw}(h:U[i]? = some QaI)(e:t.cu=.lst ds\/t.cu=.tup ds)(k:ds.length<=sizeLine->cQ X CL b dQ U D):cQ X CL b dQ U D:=λH Z Y ts vs E S M pins s I=>by
 obtain⟨v,_,r⟩:=S.look h;refine k ?_ H Z Y ts vs E S M pins s I;obtain e|e:=e<;>rw[e]at r
 .obtain⟨_,_,rfl,c,a⟩:=r.gT;rw[a.length];exact(I.list c).elim λ_ z=>z.2.2
 .obtain⟨_,_,rfl,c,a⟩:=r.lS;rw[a.length];exact(I.tuple c).elim λ_ z=>z.2.2
theorem bz.one(I:QE){d:D}(h:qU n d):∀{m:Nat} {e:D} {v:V},qU m e->bz X.K CL H d v->bz X.K CL H e v->d=e:=by
 induction h with
 | int n i=>
  intro m e v he c b;cases c;cases he with
  | int=>cases b;rfl
  | str=>cases b
  | tup=>obtain⟨_,_,z,_⟩:=b.lS;cases z
 | str n x=>
  intro m e v he c b;cases c;cases he with
  | int=>cases b
  | str=>cases b;rfl
  | tup=>obtain⟨_,_,z,_⟩:=b.lS;cases z
 | @tup n ds h o=>
  intro m e v he c b;obtain⟨a,vs,rfl,q1,g⟩:=c.lS;cases he with
  | int=>cases b
  | str=>cases b
  | @tup m es k=>
   obtain⟨_,ws,z,l,f⟩:=b.lS;cases z;cases I.Ht q1 l;have all:∀{ds es:BA} {vs:B0},(∀d∈ds,∀{m:Nat} {e:D} {v:V},qU m e->bz X.K CL H d v->bz X.K CL H e v->d=e)->(∀e∈es,qU m e)->ay X.K CL H ds vs->ay X.K CL H es vs->ds=es:=by
    intro ds
    induction ds with
    | nil=>intro es vs _ _ c b;cases c;cases b;rfl
    | cons d ds j=>
     intro es vs h1 h2 c b;cases c with
     | cons a1 b1=>
      cases b with
      | cons a2 b2=>rw[h1 _ gk (h2 _ gk) a1 a2,j (λd hd=>h1 d (ij _ hd)) (λe he=>h2 e Qhf) b1 b2]
   rw[all o k g f]
theorem MU(I:QE)(t:A.units+60<cLine){a:D}{x:V}{v:Value}{c:BA}{its:B2}(o:bz X.K CL H a x)(m:Qhz)(na:qU 8 a)(n:ay X.K CL H c us)(l:Vals us its)(r:∀d∈c,qU 8 d/\∃ds,d=.tup ds) :
  ∃e:Value->Bool,(∀y∈its,SeqAt.EqAt A s y v (e y))/\∀(j:Nat) (y:Value),its[j]? = some y->e y=decide (c[j]? = some a):=by
 classical
 have at':∀{j:Nat} {y:Value},its[j]? = some y->∃d b,c[j]? = some d/\y=.ref b/\bz X.K CL H d Qho/\qU 8 d:=λ{j y} f=>by
  have hl:j<us.length:=by rw[l.length];exact(lr.1 f).1
  obtain⟨u,e1,e2⟩:=l.get (kf hl);rw[f]at e1;cases e1;obtain⟨d,hd,rd⟩:=n.QD (kf hl);obtain⟨nd,ds,rfl⟩:=r d (kA hd);obtain⟨b,_,z,_⟩:=rd.lS;rw[z]at e2 rd;cases e2;exact⟨_,b,hd,rfl,rd,nd⟩
 have key:∀(j:Nat) (y:Value),its[j]? = some y->decide (∃j,its[j]? = some y/\c[j]? = some a)=decide (c[j]? = some a):=λj y f=>by
  refine decide_eq_decide.2 ⟨λ⟨k,h1,h2⟩=>?_,λh=>⟨j,f,h⟩⟩;obtain⟨d,b,e1,rfl,i,n1⟩:=at' f;obtain⟨d2,b2,e2,z,g,_⟩:=at' h1;cases z;rw[h2]at e2;cases e2;rw[e1,i.one I n1 na g]
 refine⟨λy=>decide (∃j,its[j]? = some y/\c[j]? = some a),λy q=>?_,key⟩;obtain⟨j,f⟩:=List.getElem?_of_mem q;show SeqAt.EqAt A s y v (decide _);rw[key j y f];obtain⟨d,b,e1,rfl,i,n1⟩:=at' f;obtain⟨bs,g⟩:=Z8 I n1.dep i rfl;obtain⟨as,p⟩:=Z8 I na.dep o m;rw[e1,show decide (some d=some a)=decide (d=a) from decide_eq_decide.2 ⟨l5,congrArg some⟩,<- U5 n1 8 na];exact SeqAt.eqAt_reads _ _ _ _ _ _ _ _ g p n1.dep.lay.1 na.dep.lay.1 (by have:=na.dep.lay.2;lia)
theorem abj(t:Qa0):BD X Quu (λx y H Q=>∃a c,bz X.K CL H a x/\bz X.K CL H Qkz y/\qU 8 a/\(∀d∈c,qU 8 d/\∃ds,d=.tup ds)/\∀q,(q=true↔a∉c)->Q (.bl q) H):=by
 intro pins s Y H x y v u Q I m k h;obtain⟨a,c,n,rc,na,p,q⟩:=h;obtain⟨l,us,rfl,o,i⟩:=rc.gT;cases k;obtain⟨its,g,pl,_⟩:=I.list o;obtain⟨e,h1,h2⟩:=MU I (A:=X.A.in1) (by show X.A.units+1+60<_;lia) n m na i g p;refine SeqAt.notIn_listAt e pl.isList (λy f=>h1 y (by simpa using f)) ⟨.bl _,H,I,rfl,q _ ?_⟩;rw[List.any_toArray,tw,List.any_eq_false];constructor
 .intro h r;obtain⟨j,b⟩:=List.getElem?_of_mem r;have hl:j<its.length:=by rw[<- g.length,<- i.length];exact(lr.1 b).1
  have:=h its[j] (o2 hl);rw[h2 j _ (kf hl),mu b]at this;exact this rfl
 .intro h y f z;obtain⟨j,b⟩:=List.getElem?_of_mem f;rw[h2 j y b]at z;exact h (kA (l1 z))
theorem Xx(L:Qa0):Hc X "list.index" (λx xs H Q=>∃(w:V) (c:BA) (a:D) (j:Nat),xs=[w]/\bz X.K CL H Qkz x/\bz X.K CL H a w/\qU 8 a/\(∀d∈c,qU 8 d/\∃ds,d=.tup ds)/\c[j]? = some a/\(∀i,i<j->c[i]? ≠ some a)/\Q Qjr H):=by
 intro pins s Y H x xs v us Q I y rs h;obtain⟨w,c,a,j,rfl,rc,B,na,G,o,g,q⟩:=h;obtain⟨p,us,rfl,E,l⟩:=rc.gT;cases y;obtain⟨u,rfl,z⟩:=rs.one;obtain⟨its,b,⟨⟨oc,od,C,F3⟩,n,e,r,hd,hs⟩,hz⟩:=I.list E;dsimp only at r hd hs;subst r hd hs;have J:c.length=its.length:=by rw[l.length,b.length]
 have t:j<its.toArray.size:=by rw[m3,<- J];exact(lr.1 o).1
 have hsz:its.toArray.size<=sizeLine:=by rw[m3,<- b.length];exact hz
 obtain⟨f,h1,h2⟩:=MU I (A:=X.A.in1) (by show X.A.units+1+60<_;lia) B z na l b G;refine rp FX ⟨_,e,rfl⟩ F.entry_list_index Qsv (SeqAt.list_indexAt p its.toArray n none F3 u f j t (by rw[ko]at hsz;lia) ?hit λm hm k=>?no) ⟨e,λw hw=>?eqs,?_⟩
 case hit=>exact(h2 j _ Wp).trans (mu o)
 case no=>exact(h2 m _ Wp).trans (kv (g m k))
 case eqs=>exact h1 w (by simpa using hw)
 exact⟨.int (j:Int),H,I.tok _,⟨_,rfl⟩,q⟩
variable{U2:BB}{o e2:Expr}{apos:Pos}{a:L3.D}{c:BA}
def abk(l:Qa0)(h1:cN X CL b e1 U a δ1)(h2:cN X CL b e2 δ1 Qkz U2)(na:qU 8 a)(n:∀d∈c,qU 8 d/\∃ds,d=.tup ds){q:Bool}(m:q=true↔a∉c)(hm:Qf2:=by rfl):sR X CL b QdB U q U2:=λH Z Y ts vs Q S k=>
 yK (yC (abj l) cL cL hm) (h1 H Z Y ts vs _ S λv1 H1 Z1 h f r j=>h2 H1 Z1 Y ts vs _ r λv2 H2 Z2 g e p i=>⟨a,c,j.mono e,i,na,n,λs o=>by
  rw[wA.2 (o.trans m.symm)];exact⟨_,rfl,k H2 Z2 Qg9 (f.trans e) p⟩⟩)
def Xy{j:Nat}(s:Qa0)(h1:cN X CL b o U Qkz δ1)(h2:cN X CL b e δ1 a U2)(na:qU 8 a)(v:∀d∈c,qU 8 d/\∃ds,d=.tup ds)(u:c[j]? = some a)(g:∀i,i<j->c[i]? ≠ some a)
  (r:Qp4:=by rfl) (n:((backTo pos QmB).all Qjp&&(backToKw pos QhJ).all QiA
   && decide (([e]:Ch).length+([]:Ev).length+QhZ<30))=true:=by rfl)
  (f:Qsa:=by rfl) (hs:Qan:=by exact aZ rfl) (z:(backTo pos QmR).any (·.1)=false:=by rfl) :
  bY X CL b Qqf U (.sh Qjr) U2:=λH Z Y ts vs Q S k=>
 cz (HD F.plainAttrs_list FX F.type_list_index (Xx s) cL QaH r n f hs z) (h1 H Z Y ts vs _ S λv1 H1 Z1 m k1 y h=>by
  obtain⟨p,us,rfl,t,B⟩:=id h.gT;refine⟨.inl ⟨rfl,_,t⟩,h2 H1 Z1 Y ts vs _ y λv2 H2 Z2 l k2 w q=>⟨v2,c,a,j,rfl,h.mono k2,q,na,v,u,g,k _ H2 Z2 (m.trans l) Qac (w.push Qbq)⟩⟩)
variable{pq:Pos}
def Rm:nj X Qsr (λxs H Q=>∃a gs,xs=[.ref a,.ty "dict"]/\Rd H a QaB/\Q QbA H):=by
 intro pins s Y H xs us Q I r h;obtain⟨a,gs,rfl,d,q⟩:=h;obtain⟨u,u2,rfl,c,b⟩:=r.two;cases (show u2=Value.type "dict" from b);cases (show u=Value.ref a from c);obtain⟨_,_,_,_,dd⟩:=BH I.cR d;exact ti PySem.W.kitx_dict I.Ah dd.typeIs (nG.trans (show FC "dict" "dict" = some true by decide +kernel)) (λz=>nomatch z) λtk=>⟨.bl _,H,I.tok tk,rfl,q⟩
def aoZ(hm:Qeg)(i:X.mg "dict" = none)(d:Qeh)(g:Gl X "dict")(h:Qtp)(hs:starEach [e,.Name "dict" pq] X.env=(false,eval e X.env)::starEach [.Name "dict" pq] X.env:=by exact aZ rfl) :
  bY X CL b (.Call QdD [e,.Name "dict" pq] [] pos) U (.sh QbA) δ1:=λH Z Y ts vs Q S k=>
 cz (lC Rm d hm boot_isinstance (bP cL (bP (Uq g i (show bootBuiltins "dict" = some Qjl by decide +kernel) (v:=.ty "dict") rfl Wm Wm) di) hs) (he:=hs)) (h H Z Y ts vs _ S λv H1 Z1 c k1 j r=>by
  cases r with
  | @dct a gs _ f l=>exact⟨a,gs,rfl,f,k _ H1 Z1 c k1 Qpi⟩)
end L3
namespace Law
open PySem L2 L3
noncomputable def top(i:Nat):Stmt:=PySem.Challenge.pw_moodtree_k51_the_table.main.body.getD i Qsk
noncomputable def DX:Nat->AT->Int->AT
 | 0,_,_=>[]
 | n+1,es,k=>if k=-1 then [] else k::DX n es (es.getD k.toNat 0)
def bV(es:AT)(m:Int):AT:=DX QeZ es QmU
def ez(es:AT):Prop:=∀k:Nat,k<es.length->-1<=es.getD k 0/\es.getD k 0<k
variable{es:AT}{k:Int}
theorem ez.at(h:ez es)(h0:0<=k)(h1:Qel):-1<=es.getD k.toNat 0/\es.getD k.toNat 0<k:=by
 have:=h k.toNat We;lia
noncomputable def dG(ks:At)(es ss:AT):D:=.ins "Tree" [("kinds",.lst QcD),("elders",.lst Qbv),("starts",.lst Qdb)]
variable{ks:At}{ss:AT}
def kD:List.lookup ("kinds":Str) [(("kinds":Str),D.lst QcD),("elders",.lst Qbv),("starts",.lst Qdb)]=some (.lst QcD):=vD
def ou:List.lookup ("elders":Str) [(("kinds":Str),D.lst QcD),("elders",.lst Qbv),("starts",.lst Qdb)]=some (.lst Qbv):=rfl
def NS:List.lookup ("starts":Str) [(("kinds":Str),D.lst QcD),("elders",.lst Qbv),("starts",.lst Qdb)]=some (.lst Qdb):=rfl
def bF(ds:BA):T.cu QdL=.lst ds:=by rw[T.cu,kU]
def aO(l:AT):(T.lst ((l.map D.int).map T.sh)).clean=true:=Av▸BJ _
theorem qW(l:At):(T.lst ((l.map D.str).map T.sh)).clean=true:=by
 induction l with
 | nil=>rfl
 | cons x l a=>exact a
noncomputable def zf(ks:At)(es ss:AT):BS:=[("kinds",.lst ((ks.map .str).map T.sh)),("elders",.lst ((es.map .int).map T.sh)),("starts",.lst ((ss.map .int).map T.sh))]
def AK(ks:At)(es ss:AT):T.cu QlA=dG ks es ss:=by
 unfold zf;rw[T.cu,T.sZ,T.sZ,T.sZ,bF,bF,bF];rfl
def jC(ks:At)(es ss:AT):T.cX (zf ks es ss)=true:=by
 unfold zf;rw[T.cX,T.cX,T.cX,qW,aO,aO];rfl
theorem Ve{es:AT}(h:ez es):∀(n:Nat) {k x:Int},-1<=k->k<es.length->x∈DX n es k->0<=x/\x<=k
 | 0,k,x,_,_,a=>by cases a
 | n+1,k,x,h0,h1,a=>by
  rw[DX]at a;split at a
  .cases a
  .have b:=h.at We h1;obtain rfl|a:=fP.1 a
   .lia
   .have:=Ve h n We We a;lia
theorem DY{es:AT}(h:ez es):∀(a b:Nat) {k:Int},-1<=k->k<es.length->k<a->k<b->DX a es k=DX b es k
 | 0,0,_,_,_,_,_=>rfl
 | 0,b+1,k,h0,_,e,_=>by
  rw[DX,DX,cq We]
 | a+1,0,k,h0,_,_,d=>by
  rw[DX,DX,cq We]
 | a+1,b+1,k,h0,h1,e,d=>by
  rw[DX,DX];split
  .rfl
  .have c:=h.at We h1;rw[DY h a b c.1 We We We]
theorem fQ(h:ez es){m:Int}(h0:0<=m)(h1:Qdx):bV es m=if es.getD m.toNat 0=-1 then [] else es.getD m.toNat 0::bV es QmU:=by
 have hm:=h.at h0 h1;unfold bV;rw[DX];split
 .rfl
 .rename_i b;have a:=h.at (k:=es.getD m.toNat 0) We We;rw[DY h es.length QeZ a.1 We We We]
variable{x:Int}
theorem bH(h:ez es){m:Int}(h0:0<=m)(h1:Qdx)(a:QoQ):0<=x/\x<m/\x<es.length:=by
 have hm:=h.at h0 h1;have:=Ve h _ hm.1 We a;lia
theorem qm{es:AT}(h:ez es):∀(n:Nat) {m x:Int},0<=m->m<es.length->m<n->x∈bV es m->∃pre,bV es m=pre++x::bV es x/\∀y∈pre,y∈bV es m/\x∈bV es y
 | 0,m,x,h0,_,hn,_=>by lia
 | n+1,m,x,h0,h1,hn,a=>by
  have hm:=h.at h0 h1;have e:=fQ h h0 h1;generalize d:es.getD m.toNat 0=k at hm e;by_cases c:k=-1
  .rw[e,cq c]at a;cases a
  .rw[bX c]at e;rw[e]at a;obtain rfl|a:=fP.1 a
   .exact⟨[],by rw[e];rfl,λy b=>by cases b⟩
   .obtain⟨pre,p1,p2⟩:=qm h n (m:=k) We We We a;refine⟨k::pre,by rw[e,p1];rfl,λy b=>?_⟩;obtain rfl|b:=fP.1 b
    .exact⟨by rw[e];exact gk,a⟩
    .exact⟨by rw[e];exact ij _ (p2 y b).1,(p2 y b).2⟩
variable{y:Int}
theorem kF(h:ez es){m:Int}(h0:0<=m)(h1:Qdx)(b:QoQ)(a:y∈bV es x):y∈bV es m:=by
 obtain⟨pre,p1,_⟩:=qm h Qj9 h0 h1 We b;exact p1▸iF _ (ij _ a)
theorem qX(h:ez es){m:Int}(h0:0<=m)(h1:Qdx)(b:QoQ)(a:y∈bV es m):x=y\/x∈bV es y\/y∈bV es x:=by
 obtain⟨pre,p1,p2⟩:=qm h Qj9 h0 h1 We b;rw[p1]at a;obtain a|a:=iw.1 a
 .exact .inr (.inl (p2 y a).2)
 .obtain e|a:=fP.1 a
  .exact .inl e.symm
  .exact .inr (.inr a)
theorem xE{es:AT}(h:ez es):∀(n:Nat) {m:Int},0<=m->m<es.length->m<n->(bV es m).Pairwise (λa b=>b<a)
 | 0,m,h0,_,hn=>by lia
 | n+1,m,h0,h1,hn=>by
  have hm:=h.at h0 h1;rw[fQ h h0 h1];split
  .exact .nil
  .have hs:=xE h n (m:=es.getD m.toNat 0) We We We;refine mT.2 ⟨λx c=>?_,hs⟩;have:=bH h We We c;lia
def Xz(h:ez es){m:Int}(h0:0<=m)(h1:Qdx)(a:es.getD m.toNat 0 ≠ -1):es.getD m.toNat 0∈bV es m:=by
 rw[fQ h h0 h1,bX a];exact gk
def oz(es:AT):Prop:=ez es/\∀k:Nat,k+1<es.length->es.getD QaM 0=k\/es.getD QaM 0∈bV es k
theorem oz.down(h:oz es){k:Nat}(c:k+1<es.length)(a:x∈bV es ((k+1:Nat):Int)):x=k\/x∈bV es k:=by
 have e:=fQ h.1 (m:=((k+1:Nat))) We We;rw[k4]at e;have b:=h.2 k c;rw[e]at a;split at a
 .cases a
 .obtain a|a:=fP.1 a
  .obtain b|b:=b
   .exact .inl (a.trans b)
   .exact a ▸ .inr b
  .obtain b|b:=b
   .rw[b]at a;exact .inr a
   .exact .inr (kF h.1 We We b a)
def cT(es:AT)(u m:Int):AT:=(m::(bV es m).takeWhile QcW).reverse
variable{u:Int}
theorem Cq(h:ez es){m:Int}(h0:0<=m)(h1:Qdx)(c:u∈bV es m)(b:x∈(bV es m).takeWhile QcW):u∈bV es x:=by
 obtain⟨pre,p1,p2⟩:=qm h Qj9 h0 h1 We c;rw[p1]at b;have ne:∀y∈pre,decide (y≠u)=true:=λy a=>by
  have:=bH h (m:=y) (by have:=bH h h0 h1 (p2 y a).1;lia) (by have:=bH h h0 h1 (p2 y a).1;lia) (p2 y a).2;simp;lia
 have:(pre++u::bV es u).takeWhile QcW=pre:=by
  rw[IH ne,List.takeWhile_cons,bX Wp,js]
 rw[this]at b;exact(p2 x b).2
def Kf(dS:Cf)(es:AT)(a b:Int):Int:=((bV es a).find? (λx=>dS x&&decide (x∈bV es b))).getD (-1)
theorem DZ{α:Type}{p:α->Bool}:∀{l:Qaa} {x:α},l.find? p=some x->∃pre a,l=pre++x::a/\p x=true/\∀y∈pre,p y=false
 | [],_,h=>by cases h
 | y::l,x,h=>by
  rw[nf]at h;cases e:p y with
  | true=>
   rw[e]at h;cases h;exact⟨[],l,rfl,e,Wp ⟩
  | false=>
   rw[e]at h;obtain⟨pre,a,h1,h2,b⟩:=DZ h;refine⟨y::pre,a,WA,h2,λz hz=>?_⟩;obtain rfl|hz:=fP.1 hz
   .exact e
   simp_all
def Vf(dS:Cf)(es:AT)(a b t:Int):Prop:=
 (t=-1/\∀x∈bV es a,x∈bV es b->dS x=false)\/(t∈bV es a/\t∈bV es b/\dS t=true/\∀x∈bV es a,x∈bV es b->dS x=true->x=t\/x∈bV es t)
variable{dS:Cf}
theorem afJ(h:ez es){a b:Int}(h0:0<=a)(h1:a<es.length):Vf dS es a b (Kf dS es a b):=by
 unfold Kf;cases e:(bV es a).find? _ with
 | none=>
  refine .inl ⟨rfl,λx d k=>?_⟩;have:=zd.1 e x d;simp_all
 | some t=>
  obtain⟨pre,i,p1,p2,j⟩:=DZ e;have g:t∈bV es a:=by simp_all
  simp at p2;refine .inr ⟨g,p2.2,p2.1,λx d k n=>?_⟩;obtain c|c|c:=qX h h0 h1 d g
  .exact .inl c
  .exact .inr c
  .exfalso;have hs:=xE h (a.toNat+1) h0 h1 We;rw[p1]at d hs;have m:=by
    have f:x∈bV es a:=p1▸d;have l:=bH h h0 h1 f;exact(bH h We We c).2.1
   obtain d|d:=iw.1 d
   .have:=j x d;lia
   .obtain e2|d:=fP.1 d
    .lia
    .have:=(mT.1 (y6.1 hs).2.1).1 x d;lia
variable{t:Int}
theorem Vf.symm{a b:Int}(h:Vf dS es a b t):Vf dS es b a t:=by
 obtain⟨e,h⟩|⟨h1,h2,g,f⟩:=h
 .exact .inl ⟨e,λx d c=>h x c d⟩
 .exact .inr ⟨h2,h1,g,λx d c=>f x c d⟩
theorem Vg{es:AT}{x:Int}(h:ez es):∀(n:Nat) {k:Int},-1<=k->k<es.length->DX n QdZ k=DX n es k
 | 0,_,_,_=>rfl
 | n+1,k,h0,h1=>by
  rw[DX,DX];split
  .rfl
  .have a:=h.at We h1;have e:(es++[x]).getD k.toNat 0=es.getD k.toNat 0:=by
    rw[kq,wz We,<- kq]
   rw[e,Vg h n a.1 We]
def D0{k:Nat}(h:Qel):(es++[x]).getD k 0=es.getD k 0:=by
 rw[kq,wz h,<- kq]
theorem Kg(h:ez es){m:Int}(h0:0<=m)(h1:Qdx):bV QdZ m=bV es m:=by
 have hm:=h.at h0 h1;unfold bV;rw[D0 We,Vg h _ hm.1 We,DY h _ QeZ hm.1 We WB We]
theorem ez.snoc(h:ez es)(h0:-1<=x)(h1:QcT):ez QdZ:=λk a=>by
 simp at a;by_cases e:k<es.length
 .exact D0 e▸h k e
 .have:k=es.length:=by lia
  simp_all
theorem oz.snoc(h:oz es){k:Nat}(d:k+1=es.length)(b:x=k\/x∈bV es k):oz QdZ:=by
 have a:-1<=x/\x<es.length:=by
  obtain e|e:=b
  .lia
  .have:=bH h.1 We We e;lia
 refine⟨h.1.snoc a.1 a.2,λj c=>?_⟩;simp at c;rw[Kg h.1 We We];by_cases e:j+1<es.length
 .exact D0 e▸h.2 j e
 .have:j=k:=by lia
  simp_all
structure afK(es:AT)(m:Int)(L:Nat):Prop where
 le:m+1+L<=es.length
 iff:∀i:Nat,i<es.length->((m=-1\/m∈bV es i)↔m<i/\(i:Int)<m+1+L)
 eld:∀i:Nat,m<i->(i:Int)<m+1+L->m<=es.getD i 0
 beh:m+1+L=es.length\/es.getD (m+1+L).toNat 0<m
theorem Rn(h:oz es){m:Int}(h0:-1<=m)(h1:Qdx):∃L,afK es m L:=by
 by_cases hm:m=-1
 .subst hm;refine⟨es.length,We,λi hi=>⟨λ_=>by lia,λ_=>.inl rfl⟩,λi hi d=>(h.1 i We).1,.inl We⟩
 .have h0:0<=m:=by lia
  have o:∀i:Nat,i<es.length->m∈bV es i->m<i:=λi hi b=>(bH h.1 We We b).2.1;have go:∀(r L:Nat),m+1+L+r=es.length->(∀i:Nat,m<i->(i:Int)<m+1+L->m∈bV es i)->∃n:Nat,m+1+n<=es.length/\(∀i:Nat,m<i->(i:Int)<m+1+n->m∈bV es i)/\(m+1+n=es.length\/m∉bV es (m+1+n)):=by
   intro r
   induction r with
   | zero=>intro L e l;exact⟨L,We,l,.inl We⟩
   | succ r q=>
    intro L e l;by_cases hw:m∈bV es (m+1+L)
    .refine q (L+1) We λi f d=>?_;by_cases hi:(i:Int)<m+1+L
     .exact l i f hi
     .have:(i:Int)=m+1+L:=by lia
      rw[this];exact hw
    .exact⟨L,We,l,.inr hw⟩
  obtain⟨L,u,k,t⟩:=go (es.length-Qj9) 0 We (λi f d=>by lia);have out:∀(r i:Nat),(i:Int)=m+1+L+r->i<es.length->m∉bV es i:=by
   intro r
   induction r with
   | zero=>
    intro i hi y b;obtain e|e:=t
    .lia
    .rw[show(i:Int)=m+1+L by lia]at b;exact e b
   | succ r q=>
    intro i hi y b;obtain⟨j,rfl⟩:∃j,i=j+1:=⟨i-1,We⟩;obtain e|e:=h.down y b
    .lia
    .exact q j We We e
  refine⟨L,u,λi hi=>⟨λhw=>?_,λ⟨a,c⟩=>.inr (k i a c)⟩,λi f d=>?_,?_⟩
  .have b:=hw.resolve_left hm;have:=o i hi b;refine⟨this,?_⟩;by_cases B:(i:Int)<m+1+L
   .exact B
   .exact absurd b (out (i-(m.toNat+1+L)) i We hi)
  .have b:=k i f d;have hi:i<es.length:=by lia
   have e:=fQ h.1 (m:=(i:Int)) We We;rw[k4]at e;rw[e]at b;split at b
   .cases b
   .rename_i D;have A:=h.1 i hi;obtain e2|b:=fP.1 b
    .lia
    .have:=bH h.1 (m:=es.getD i 0) We We b;lia
  .by_cases v:m+1+L=es.length
   .exact .inl v
   .refine .inr ?_;obtain⟨j,E⟩:∃j:Nat,(j:Int)=m+L:=⟨(m+L).toNat,We⟩;have g:j+1<es.length:=by lia
    have nw:m∉bV es ((j+1:Nat):Int):=out 0 QF We g;have x:m=j\/m∈bV es j:=by
     by_cases e:m=j
     .exact .inl e
     .exact .inr (k j We We)
    have C:(m+1+L).toNat=j+1:=by lia
    rw[C];have e:=fQ h.1 (m:=((j+1:Nat):Int)) We We;rw[k4]at e;have A:=h.1 QF g;by_cases s:es.getD QF 0=-1
    .lia
    .rw[bX s]at e;rw[e]at nw;have n1:m≠es.getD QF 0:=λz=>nw (by rw[<- z];exact gk);have p:m∉bV es Qu9:=λz=>nw (ij _ z);obtain z|z:=h.2 j g
     .rw[z]at n1 p;obtain w|w:=x
      .exact absurd w n1
      .exact absurd w p
     .obtain w|w:=x
      .have:=bH h.1 (m:=(j:Int)) We We z;lia
      .rcases qX h.1 (m:=(j:Int)) We We w z with c|c|c
       .exact absurd c n1
       .exact absurd c p
       .have:=bH h.1 (m:=m) We We c;lia
theorem zg:∀(n:Nat) (es:AT) (k:Int),(DX n es k).length<=n
 | 0,_,_=>ik _
 | n+1,es,k=>by
  rw[DX];split
  .exact i8 _
  .exact Nat.succ_le_succ (zg n es _)
noncomputable def eS(ks:At)(x:Int):Bool:=decide (ks.getD x.toNat Str.empty="one")
noncomputable def iG(es:AT)(m:Int):AT:=((List.range es.length).filter (λ(i:Nat)=>decide (es.getD i 0=m))).map (λ(i:Nat)=>(i:Int))
def abl(es:AT)(m:Int):(((List.range es.length).map λ(i:Nat)=>D.tup [.int i,.int (es.getD i 0)]).filter (λd=>decide (d.at2.tS=m))).map (λd=>T.sh d.JC)=((iG es m).map D.int).map T.sh:=by
 unfold iG;rw[tc,i0,i0,i0];rfl
def Vh(es:AT)(m:Int):(iG es m).length<=es.length:=by
 unfold iG;rw[cK];exact ky Qfu Wp
theorem qY{m:Int}(h:x∈iG es m):0<=x/\x<es.length/\es.getD x.toNat 0=m:=by
 obtain⟨i,hi,rfl⟩:=ip.1 h;obtain⟨h1,h2⟩:=l7.1 hi;have h1:=ma.1 h1;have h2:=l1 h2;exact⟨We,We,‹_› ⟩
theorem qZ{m:Int}(h0:0<=x)(h1:QcT)(h2:es.getD x.toNat 0=m):x∈iG es m:=by
 refine List.mem_map.2 ⟨x.toNat,List.mem_filter.2 ⟨List.mem_range.2 We,by simpa using h2⟩,We⟩
def D3(es:AT)(m:Int):(iG es m).Pairwise (· < ·):=by
 refine List.Pairwise.map _ (λa b h=>?_) (y5 _ List.pairwise_lt_range);exact Int.ofNat_lt.2 h
def Vi(es:AT)(m:Int)(n:Nat):Int:=(m::bV es m).getD n 0
theorem NT{es:AT}(h:ez es):∀(f:Nat) {m:Int} {n:Nat},0<=m->m<es.length->m<f->n<(bV es m).length->(0<=Vi es m n/\Vi es m n<es.length)/\es.getD (Vi es m n).toNat 0=Vi es m Q4
 | 0,m,n,h0,_,hf,_=>by lia
 | f+1,m,n,h0,h1,hf,hn=>by
  have hm:=h.at h0 h1;have e:=fQ h h0 h1;generalize c:es.getD _ 0=k at hm e;by_cases b:k=-1
  .rw[e,cq b]at hn;cases hn
  .rw[bX b]at e;cases n with
   | zero=>
    unfold Vi;refine⟨⟨h0,h1⟩,?_⟩;exact e▸c
   | succ n=>
    rw[e,mi]at hn;have a:=NT h f (m:=k) (n:=n) We We We We;unfold Vi at a ⊢;exact e▸a
variable{n:Nat}
theorem Vj{m:Int}(hn:n<=(bV es m).length):Vi es m n=m\/Vi es m n∈bV es m:=by
 cases n with
 | zero=>exact .inl rfl
 | succ n=>
  refine .inr ?_;show(bV es m).getD n 0∈_;grind
def XA(es:AT)(n:Nat):AT:=(List.range n).map λ(i:Nat)=>((bV es i).length:Int)
variable{i:Nat}
def PM(es:AT)(h:i<n):(XA es n).getD i 0=((bV es i).length:Int):=by
 unfold XA;rw[kq,j2,oI h];rfl
def getD_snoc:(es++[x]).getD es.length 0=x:=by
 rw[kq,y1 (ik _),Nat.sub_self];rfl
theorem abn(h:ez es)(h0:0<=x)(h1:QcT):bV QdZ es.length=x::bV es x:=by
 have h':=h.snoc We h1;rw[fQ h' We WE,k4,getD_snoc,bX We,Kg h h0 h1]
theorem abo(h:ez es)(h0:0<=x)(h1:QcT):XA QdZ QeZ=XA es es.length++[((bV es x).length:Int)+1]:=by
 unfold XA;rw[ph,i5];congr 1
 .apply mB;intro i hi;have:=ma.1 hi;rw[Kg h We We]
 .show [((bV _ _).length:Int)]=_;rw[abn h h0 h1];simp
noncomputable def zj(isAll:Cf)(es ch:AT):Nat->AT
 | 0=>[0]
 | j+1=>if es.getD QF 0∈zj isAll es ch j/\(isAll Qu9=true\/ch.getD (es.getD QF 0).toNat 0=((j+1:Nat):Int)) then zj isAll es ch j++[((j+1:Nat):Int)] else zj isAll es ch j
theorem oA{isAll:Cf}{es ch:AT}:∀(j:Nat) {x:Int},x∈zj isAll es ch j->0<=x/\x<=j
 | 0,x,h=>by simp_all [zj]
 | j+1,x,h=>by
  rw[zj]at h;split at h
  .obtain h|h:=iw.1 h
   .have:=oA j h;lia
   .have:=by simpa using h
    lia
  .have:=oA j h;lia
noncomputable def bw(ks:At)(x:Int):Bool:=decide (ks.getD x.toNat Str.empty="all")
theorem akL{k:Nat}(h:(k:Int)∈es):iG es k≠[]:=λz=>by
 obtain⟨i,hi,e⟩:=y3 h;have:(i:Int)∈iG es k:=qZ We We WA;simp_all
def Lo(ks:At)(es:AT):Prop:=∀k:Nat,k<es.length->ks.getD k Str.empty="one"->iG es k≠[]
noncomputable def aV(ks:At)(x:Int):Bool:=decide Qrd
noncomputable def D4(dS:Cf)(es a acc:AT)(m:Int):AT:=if es.getD m.toNat 0∈a/\dS QmU=true then acc.set (es.getD m.toNat 0).toNat m else acc
def oo(dS:Cf)(es a acc ops:AT):AT:=ops.foldl (D4 dS es a) acc
theorem Vk(dS:Cf)(es a:AT):∀(ops acc:AT),(oo dS es a acc ops).length=acc.length
 | [],acc=>rfl
 | m::ops,acc=>by
  show(oo _ es _ _ ops).length=_;rw[Vk _ es _ _];unfold D4;split
  .rw[List.length_set]
  .rfl
def abq(dS:Cf)(es a acc ops:AT)(m:Int):oo dS es a acc (ops++[m])=D4 dS es a (oo dS es a acc ops) m:=by
 unfold oo;simp
theorem CV{isAll:Cf}{es ch:AT}(g:ez es):∀(j:Nat) {k:Nat},k<=j->j<es.length->(((k:Int)∈zj isAll es ch j)↔(k=0\/(es.getD k 0∈zj isAll es ch j/\(isAll Qor=true\/ch.getD (es.getD k 0).toNat 0=(k:Int)))))
 | 0,k,n,h=>by
  have:k=0:=by lia
  subst this;simp[zj]
 | j+1,k,n,h=>by
  have mono:∀{x:Int},x∈zj isAll es ch j->x∈zj isAll es ch QF:=λ{x} a=>by
   rw[zj];split
   .exact i4 _ a
   .exact a
  have back:∀{x:Int},x<((j+1:Nat):Int)->x∈zj isAll es ch QF->x∈zj isAll es ch j:=λ{x} p a=>by
   rw[zj]at a;split at a
   .obtain z|z:=iw.1 a
    .exact z
    .have:x=((j+1:Nat):Int):=by simpa using z
     lia
   .exact a
  by_cases e:k=j+1
  .subst e;have o:=g QF h;have m:((j+1:Nat):Int)∉zj isAll es ch j:=λz=>by
    have:=oA j z;lia
   constructor
   .intro z;rw[zj]at z;split at z
    .rename_i c;exact .inr ⟨mono c.1,c.2⟩
    .exact absurd z m
   .rintro(z|⟨d,b⟩)
    .lia
    .rw[zj,cq ⟨back We d,b⟩];exact iF _ Wp
  .have f:=CV (isAll:=isAll) (ch:=ch) g j (k:=k) We We;have o:=g k We;constructor
   .intro z;obtain w|⟨l,i⟩:=f.1 (back We z)
    .exact .inl w
    .exact .inr ⟨mono l,i⟩
   .rintro(z|⟨d,b⟩)
    .exact mono (f.2 QdV)
    .exact mono (f.2 (.inr ⟨back We d,b⟩))
theorem q8{isAll:Cf}{es ch:AT}:∀j,(zj isAll es ch j).Pairwise (· < ·)
 | 0=>o1 _ _
 | j+1=>by
  rw[zj];split
  .refine y6.2 ⟨q8 j,o1 _ _,λa d b c=>?_⟩;have:=oA j d;have:=by simpa using c
   lia
  .exact q8 j
noncomputable def j8(ss mem:AT)(a:Bool)(e:Int):Int:=if a=true/\mem.getD e.toNat 0 ≠ -1 then mem.getD e.toNat 0 else ss.getD e.toNat 0
def MJ(aK isAll:Cf)(es ss mem:AT)(a:Bool)(m:Int):AT:=if aK m=true then [] else if isAll m=true then iG es m else [j8 ss mem a m]
def kG(aK isAll:Cf)(es ss mem:AT)(far:Bool):Nat->Bool->Int->AT
 | 0,_,m=>[m]
 | d+1,near,m=>m::(MJ aK isAll es ss mem (far || near) m).flatMap (λp=>kG aK isAll es ss mem far d false p)
structure e9(aK isAll:Cf)(es ss mem:AT):Prop where
 pre:oz es
 leaf:∀k:Nat,k<es.length->aK k=true->iG es k=[]
 one:∀k:Nat,k<es.length->aK k=false->isAll k=false->ss.getD k 0∈iG es k/\(mem.getD k 0=-1\/mem.getD k 0∈iG es k)
variable{aK isAll:Cf}{mem:AT}
def Vl(h:Qbg){u:Bool}{k:Nat}(b:Qel)(h1:aK k=false)(h2:isAll k=false):j8 ss mem u k∈iG es k:=by
 obtain⟨a,c⟩:=h.one k b h1 h2;unfold j8;split
 .rename_i z;exact c.resolve_left z.2
 .exact a
variable{p:Int}
def qo(h:Qbg){u:Bool}{k:Nat}(b:Qel)(a:p∈MJ aK isAll es ss mem u k):p∈iG es k:=by
 unfold MJ at a;split at a
 .cases a
 .rename_i h1;split at a
  .exact a
  .rename_i h2;have:=by simpa using a
   exact this▸Vl h b (by simpa using h1) (by simpa using h2)
def PH(h:Qbg){u:Bool}{k:Nat}(b:Qel)(a:p∈iG es k):p∈MJ aK isAll es ss mem u k↔(isAll k=true\/j8 ss mem u k=p):=by
 have hl:aK k=false:=by
  cases e:aK k with
  | false=>rfl
  | true=>rw[h.leaf k b e]at a;cases a
 unfold MJ;rw[bX (by rw[hl];decide)];cases e:isAll k with
 | true=>rw[cq rfl];exact⟨λ_=>.inl rfl,λ_=>a⟩
 | false=>
  rw[bX Wm,kx];exact⟨λz=>.inr z.symm,λz=>z.elim (λz=>by cases z) (λz=>z.symm)⟩
theorem cB(h:oz es)(b:p∈iG es k):0<=p/\p<es.length/\es.getD p.toNat 0=k/\k<p:=by
 have a:=qY b;have:=h.1 p.toNat We;refine⟨a.1,a.2.1,a.2.2,?_⟩;lia
theorem NW(h:Qbg){far:Bool}:∀(a c:Nat) {near:Bool} {k:Nat},k<es.length->es.length<=k+a+1->es.length<=k+c+1->kG aK isAll es ss mem far a near k=kG aK isAll es ss mem far c near k
 | 0,0,_,_,_,_,_=>rfl
 | 0,c+1,near,k,d,f,_=>by
  have:MJ aK isAll es ss mem (far || near) k=[]:=IS.2 λp b=>by
   have:=cB h.pre Qpa;lia
  rw[kG,kG,this];rfl
 | a+1,0,near,k,d,_,e=>by
  have:MJ aK isAll es ss mem (far || near) k=[]:=IS.2 λp b=>by
   have:=cB h.pre Qpa;lia
  rw[kG,kG,this];rfl
 | a+1,c+1,near,k,d,f,e=>by
  rw[kG,kG];congr 1;rw[List.flatMap_def,List.flatMap_def];congr 1;apply mB;intro p b;have g:=cB h.pre Qpa;obtain⟨q,rfl⟩:∃q:Nat,p=q:=⟨p.toNat,We⟩;exact NW h a c We We We
theorem oB(h:Qbg){far:Bool}:∀(d:Nat) {near:Bool} {k:Nat},k<es.length->es.length<=k+d+1->∀x:Nat,x<es.length →
  ((x:Int)∈kG aK isAll es ss mem far d near k↔(x=k\/(k<x/\es.getD x 0∈kG aK isAll es ss mem far d near k/\(isAll Qe0=true\/j8 ss mem (far || (near&&decide (es.getD x 0=(k:Int)))) Qe0=(x:Int)))))
 | 0,near,k,i,hd,x,g=>by
  rw[kG,kx];have t:=h.pre.1 x g;constructor
  .intro z;exact .inl We
  .rintro(z|⟨n,b,_⟩)
   .lia
   .lia
 | d+1,near,k,i,hd,x,g=>by
  have t:=h.pre.1 x g;rw[kG,fP,mn];have AO:∀p∈MJ aK isAll es ss mem (far || near) k,∀y:Nat,y<es.length->((y:Int)∈kG aK isAll es ss mem far d false p↔((y:Int)=p\/(p<y/\es.getD y 0∈kG aK isAll es ss mem far d false p/\(isAll (es.getD y 0)=true\/j8 ss mem far (es.getD y 0)=(y:Int))))):=λp a y c=>by
   have l:=cB h.pre (qo h i a);obtain⟨q,rfl⟩:∃q:Nat,p=q:=⟨p.toNat,We⟩;have:=oB h (far:=far) d (near:=false) (k:=q) We We y c;rw[this];simp only[Bool.false_and,vw];constructor
   .rintro(z|⟨n,b⟩)
    .exact .inl We
    .exact .inr ⟨We,b⟩
   .rintro(z|⟨n,b⟩)
    .exact .inl We
    .exact .inr ⟨We,b⟩
  have f:∀(dd:Nat) (p:Nat),p<es.length->∀y:Int,y∈kG aK isAll es ss mem far dd false p->(p:Int)<=y:=by
   intro dd
   induction dd with
   | zero=>intro p _ y c;rw[kG,kx]at c;lia
   | succ dd s=>
    intro p a y c;rw[kG,fP,mn]at c;obtain e|⟨q,u,c⟩:=c
    .lia
    .have l:=cB h.pre (qo h a u);obtain⟨r,rfl⟩:∃r:Nat,q=r:=⟨q.toNat,We⟩;have:=s r We y c;lia
  constructor
  .rintro(z|⟨p,a,z⟩)
   .exact .inl We
   .have j:=qo h i a;have l:=cB h.pre j;have v:p<=x:=by
     obtain⟨q,rfl⟩:∃q:Nat,p=q:=⟨p.toNat,We⟩;exact f d q We x z
    refine .inr ⟨We,?_⟩;rcases(AO p a x g).1 z with e|⟨e1,e2,w⟩
    .have A:es.getD x 0=(k:Int):=by
      rw[<- e,k4]at l;exact l.2.2.1
     rw[A];refine⟨gk,?_⟩;rw[mu rfl,xn];have:=(PH h i j).1 a;rw[<- e]at this;exact this
    .have o:p<=es.getD x 0:=by
      obtain⟨q,rfl⟩:∃q:Nat,p=q:=⟨p.toNat,We⟩;exact f d q We _ e2
     refine⟨ij _ (mn.2 ⟨p,a,e2⟩),?_⟩;rw[kv We,vy,vw];exact w
  .rintro(z|⟨n,b,m⟩)
   .exact .inl We
   .obtain e|b:=fP.1 b
    .
     have j:(x:Int)∈iG es k:=qZ We We (by rw[k4];exact e);rw[e,mu rfl,xn]at m;have a:=(PH h i j).2 m;exact .inr ⟨x,a,(AO x a x g).2 Qae⟩
    .obtain⟨p,a,b⟩:=mn.1 b;have j:=qo h i a;have l:=cB h.pre j;have o:p<=es.getD x 0:=by
      obtain⟨q,rfl⟩:∃q:Nat,p=q:=⟨p.toNat,We⟩;exact f d q We _ b
     rw[kv We,vy,vw]at m;exact .inr ⟨p,a,(AO p a x g).2 (.inr ⟨We,b,m⟩)⟩
theorem cA(h:Qbg){far:Bool}:∀(d:Nat) {near:Bool} {k:Nat},k<es.length->∀y∈kG aK isAll es ss mem far d near k,0<=y/\y<es.length/\(y=k\/(k:Int)∈bV es y)
 | 0,near,k,g,y,a=>by
  rw[kG,kx]at a;exact⟨We,We,.inl a⟩
 | d+1,near,k,g,y,a=>by
  rw[kG,fP,mn]at a;obtain e|⟨p,j,a⟩:=a
  .exact⟨We,We,.inl e⟩
  .have l:=cB h.pre (qo h g j);obtain⟨q,rfl⟩:∃q:Nat,p=q:=⟨p.toNat,We⟩;obtain⟨f,c,i⟩:=cA h d We y a;have b:(k:Int)∈bV es q:=by
    rw[fQ h.pre.1 We We,l.2.2.1];simp
   refine⟨f,c,.inr ?_⟩;obtain e|e:=i
   .exact e▸b
   .exact kF h.pre.1 f c e b
theorem nK(h:Qbg){far:Bool}:∀(d:Nat) {near:Bool} {k:Nat},k<es.length->(kG aK isAll es ss mem far d near k).Pairwise (· < ·)
 | 0,_,_,_=>by rw[kG];exact o1 _ _
 | d+1,near,k,g=>by
  rw[kG];refine mT.2 ⟨λy b=>?_,List.pairwise_flatMap.2 ⟨λp f=>?_,?_⟩⟩
  .obtain⟨p,f,b⟩:=mn.1 b;have s:=cB h.pre Qpb;obtain⟨q,rfl⟩:∃q:Nat,p=q:=⟨p.toNat,We⟩;obtain⟨l,j,i⟩:=cA h d (k:=q) We y b;obtain e|e:=i
   .lia
   .have:=bH h.pre.1 l j e;lia
  .have s:=cB h.pre Qpb;obtain⟨q,rfl⟩:∃q:Nat,p=q:=⟨p.toNat,We⟩;exact nK h d We
  .have hs:(MJ aK isAll es ss mem (far || near) k).Pairwise (· < ·):=by
    unfold MJ;split
    .exact .nil
    .split
     .exact D3 es k
     .exact o1 _ _
   refine IT ?_ hs;intro p r f n v x w y b;have s:=cB h.pre Qpb;have o:=cB h.pre (qo h g n);obtain⟨q,rfl⟩:∃q:Nat,p=q:=⟨p.toNat,We⟩;obtain⟨a,rfl⟩:∃a:Nat,r=a:=⟨r.toNat,We⟩;obtain⟨x0,A,t⟩:=cA h d (k:=q) We x w;obtain⟨l,j,i⟩:=cA h d (k:=a) We y b;obtain⟨L,S⟩:=Rn h.pre (m:=(q:Int)) We We;have xL:x<(q:Int)+1+L:=by
    obtain e|e:=t
    .lia
    .obtain⟨z,rfl⟩:∃z:Nat,x=z:=⟨x.toNat,We⟩;exact((S.iff z We).1 (.inr e)).2
   have u:¬ ((q:Int)∈bV es a):=λz=>by
    rw[fQ h.pre.1 (m:=(a:Int)) We We,o.2.2.1,bX We]at z;obtain e|e:=fP.1 z
    .lia
    .have:=bH h.pre.1 (m:=(k:Int)) We We e;lia
   have B:(q:Int)+1+L<=a:=by
    have:=S.iff a We;by_cases c:(a:Int)<(q:Int)+1+L
    .exact absurd ((this.2 ⟨v,c⟩).resolve_left We) u
    .lia
   have:(a:Int)<=y:=by
    obtain e|e:=i
    .lia
    .have:=bH h.pre.1 l j e;lia
   lia
def tY(mode:Str):Prop:=mode="new" \/ mode="near" \/ mode="far"
noncomputable def eN(mode:Str):Bool:=decide (mode="far")
noncomputable def gU(mode:Str):Bool:=decide (mode="near")
def Ij(ks:At)(es ss mem:AT)(mode:Str)(m:Int):AT:=kG Qa4 Qa5 es ss mem Qks es.length (gU mode) m
variable{far near:Bool}
theorem CW(h:Qbg){d k:Nat}(g:Qel):(kG aK isAll es ss mem far d near k).length<=es.length:=by
 have hs:=nK h (far:=far) d (near:=near) g;have e:=cA h (far:=far) d (near:=near) g;generalize kG _ _ es ss _ _ d _ k=l at hs e;have go:∀(l:Qec) (lo:Int),l.Pairwise (· < ·)->(∀x∈l,lo<=x/\x<es.length)->l.length<=es.length-lo\/l=[]:=by
  intro l
  induction l with
  | nil=>intro lo _ _;exact .inr rfl
  | cons x r i=>
   intro lo h1 h2;obtain⟨a,c⟩:=mT.1 h1;have b:=h2 x gk;rcases i _ c (λy f=>⟨a y f,(h2 y (ij _ f)).2⟩) with z|z
   .left;grind
   .left;rw[z];simp;lia
 rcases go l 0 hs (λx b=>⟨(e x b).1,(e x b).2.1⟩) with z|z
 .lia
 simp_all
def iT(es:AT)(u t x:Int):Prop:=x=t\/(x∈bV es t/\(u=-1\/u∈bV es x))
theorem D5(h:ez es)(t0:0<=t)(t1:QbS)(a:Qgu)(x:Int):x∈cT es u t↔iT es u t x:=by
 unfold cT iT;rw[vT,fP];refine or_congr Iff.rfl ?_;obtain rfl|a:=a
 .have e:(bV es t).takeWhile (λx=>decide (x ≠ -1))=bV es t:=by
   have:=IH (p:=λx=>decide (x≠(-1:Int))) (l₁:=bV es t) (l₂:=[]) (λy b=>by
    have:=bH h t0 t1 b;simp;lia)
   simpa using this
  simp_all
 .have i:=bH h t0 t1 a;constructor
  .intro z;exact⟨(y8 _).subset z,.inr (Cq h t0 t1 a z)⟩
  .rintro⟨c,f⟩;obtain⟨pre,p1,p2⟩:=qm h (t.toNat+1) t0 t1 We a;have ne:∀y∈pre,decide (y≠u)=true:=λy b=>by
    have g:=bH h t0 t1 (p2 y b).1;have:=bH h (m:=y) We We (p2 y b).2;simp;lia
   have e:(bV es t).takeWhile QcW=pre:=by
    rw[p1,IH ne,List.takeWhile_cons,bX Wp,js]
   rw[e];have k:=bH h t0 t1 c;have d:u∈bV es x:=f.resolve_left We;have j:=bH h (m:=x) We We d;rw[p1]at c;obtain z|z:=iw.1 c
   .exact z
   .obtain z|z:=fP.1 z
    .lia
    .have:=bH h (m:=u) We We z;lia
variable{t:Nat}
def n9(aK isAll:Cf)(es ss mem:AT)(far near:Bool)(u:Int)(t:Nat)(x:Int):Prop:=
 (iT es u t x/\x≠t)\/x∈kG aK isAll es ss mem far es.length near t\/∃s p,iT es u t s/\s≠t/\isAll s=true/\p∈iG es s/\¬ iT es u t p/\x∈kG aK isAll es ss mem false es.length false p
def BQ(aK isAll:Cf)(es ss mem:AT)(far near:Bool)(u:Int)(t:Nat)(e x:Int):Prop:=
 isAll e=true\/(j8 ss mem ((decide (e=t)&&(far || near)) || QpE) e=x/\(e=t\/¬ iT es u t e))
theorem jP(h:ez es)(b:QbS)(a:iT es u t x):0<=x/\x<=t:=by
 obtain e|⟨e,_⟩:=a
 .lia
 .have:=bH h We We e;lia
theorem Vm(h:ez es)(c:QbS){s:Int}(hs:iT es u t s)(d:p∈iG es s)(a:p∈bV es t\/p=t):iT es u t p:=by
 obtain a|a:=a
 .refine .inr ⟨a,?_⟩;have f:=jP h c hs;have b:=qY d;have pb:=bH h (m:=(t:Int)) We We a;have e:=fQ h (m:=p) b.1 b.2.1;rw[b.2.2,bX We]at e;have st:s∈bV es t:=kF h We We a (by rw[e];exact gk);obtain z|⟨_,z|z⟩:=hs
  .have:=bH h (m:=(t:Int)) We We st;lia
  .exact .inl z
  .exact .inr (by rw[e];exact ij _ z)
 .exact .inl a
theorem zk(h:Qbg)(d:QbS){s:Int}(hs:iT es u t s)(c:s≠t)(f:p∈iG es s)(hpl:¬ iT es u t p)(b:x=p\/p∈bV es x)(x0:0<=x)(g:QcT):¬ iT es u t x/\¬ Qtq:=by
 have a:=h.pre.1;have i:=jP a d hs;have pb:=cB h.pre f;have up:=λz=>hpl (Vm a d hs f z);have key:¬ Qtq:=by
  rintro(z|z)
  .rw[z]at b;obtain e|e:=b
   .exact up (.inr e.symm)
   .exact up Qhp
  .obtain e|e:=b
   .rw[e,fQ a (m:=p) pb.1 pb.2.1,pb.2.2.1,bX We]at z;obtain w|w:=fP.1 z
    .exact c w.symm
    .have:=bH a (m:=s) We We w;lia
   .obtain w|w|w:=qX a x0 g z e
    .exact up (.inr w.symm)
    .rw[fQ a (m:=p) pb.1 pb.2.1,pb.2.2.1,bX We]at w;obtain v|v:=fP.1 w
     .exact c v.symm
     .have:=bH a (m:=s) We We v;lia
    .exact up Qd0
 refine⟨λz=>?_,key⟩;obtain z|⟨z,_⟩:=z
 .exact key QdV
 .obtain e|e:=b
  .rw[e]at z;exact up QdV
  .exact up (.inl (kF a We We z e))
theorem Vo(h:Qbg)(c:QbS)(x:Nat)(g:QcT) :
  n9 aK isAll es ss mem far near u t x↔(iT es u t x\/(n9 aK isAll es ss mem far near u t Qe0/\¬ iT es u t x/\BQ aK isAll es ss mem far near u t Qe0 x)):=by
 have i:=h.pre.1;have P:=i x g;have f:=λy F=>cA h (far:=far) (near:=near) es.length c y F;have uj:(t:Int)∈kG aK isAll es ss mem far es.length near t:=(oB h es.length c We t c).2 Qae;have n:∀y:Int,y∈kG aK isAll es ss mem far es.length near t->y≠t->¬ iT es u t y:=λy F L z=>by
  obtain⟨D,C,B⟩:=f y F;have:=jP i c z;obtain e|e:=B
  .exact L e
  .have:=bH i D C e;lia
 constructor
 .rintro(z|z|⟨s,p,a,l,j,o,A,m⟩)
  .exact .inl z.1
  .by_cases e:(x:Int)=t
   .exact .inl Qhp
   .refine .inr ?_;have I:=z;rw[oB h es.length c We x g]at I;obtain⟨r,d,b⟩:=I.resolve_left We;refine⟨.inr (.inl d),n x z e,?_⟩;unfold BQ;obtain b|b:=b
    .exact .inl b
    .refine .inr ⟨?_,?_⟩
     .rw[mu d,xn];rw[<- b];congr 1;cases far<;>cases near<;>simp
     .by_cases e2:es.getD x 0=t
      .exact .inl e2
      .exact .inr (n _ d e2)
  .have pb:=cB h.pre o;have K:=jP i c a;obtain⟨q,rfl⟩:∃q:Nat,p=q:=⟨p.toNat,We⟩;obtain⟨D,C,B⟩:=cA h (far:=false) (near:=false) es.length (k:=q) We x m;obtain⟨M,O⟩:=zk h c a l o A B D C;refine .inr ⟨?_,M,?_⟩
   .rw[oB h es.length (k:=q) We We x g]at m;obtain w|⟨_,d,_⟩:=m
    .subst w;have:es.getD x 0=s:=by have:=pb.2.2.1;rwa [k4]at this
     rw[this];exact .inl ⟨a,l⟩
    .exact .inr (.inr ⟨s,q,a,l,j,o,A,d⟩)
   .rw[oB h es.length (k:=q) We We x g]at m;unfold BQ;obtain w|⟨_,d,b⟩:=m
    .subst w;have:es.getD x 0=s:=by have:=pb.2.2.1;rwa [k4]at this
     rw[this];exact .inl j
    .obtain b|b:=b
     .exact .inl b
     .obtain⟨e0,e1,e2⟩:=cA h (far:=false) (near:=false) es.length (k:=q) We _ d;obtain⟨p1,p2⟩:=zk h c a l o A e2 e0 e1;refine .inr ⟨?_,.inr p1⟩;rw[kv Qs7,kv QqA];rw[<- b];congr 1;simp
 .rintro(z|⟨a,l,j⟩)
  .by_cases e:(x:Int)=t
   .rw[e];exact .inr (.inl uj)
   .exact .inl ⟨z,e⟩
  .unfold BQ at j;obtain a|a|⟨s,p,r,d,b,E,J,w6⟩:=a
   .
    have K:=jP i c a.1;have H:isAll Qe0=true:=j.elim id (λw=>w.2.elim (λv=>absurd v a.2) (λv=>absurd a.1 v));have N:(x:Int)∈iG es Qe0:=qZ We We (by rw[k4]);exact .inr (.inr ⟨_,x,a.1,a.2,H,N,l,(oB h es.length g We x g).2 Qae⟩)
   .obtain⟨e0,e1,e2⟩:=f _ a;have G:(t:Int)<=es.getD x 0:=by
     obtain e|e:=e2
     .lia
     .have:=bH i e0 e1 e;lia
    refine .inr (.inl ((oB h es.length c We x g).2 (.inr ⟨We,a,?_⟩)));obtain w|⟨w,_⟩:=j
    .exact .inl w
    .refine .inr ?_;rw[<- w,mu a,xn];congr 1;cases far<;>cases near<;>simp
   .have pb:=cB h.pre E;have K:=jP i c r;obtain⟨q,rfl⟩:∃q:Nat,p=q:=⟨p.toNat,We⟩;obtain⟨e0,e1,e2⟩:=cA h (far:=false) (near:=false) es.length (k:=q) We _ w6;obtain⟨p1,p2⟩:=zk h c r d E J e2 e0 e1;have G:(q:Int)<=es.getD x 0:=by
     obtain e|e:=e2
     .lia
     .have:=bH i e0 e1 e;lia
    refine .inr (.inr ⟨s,q,r,d,b,E,J,(oB h es.length (k:=q) We We x g).2 (.inr ⟨We,w6,?_⟩)⟩);obtain w|⟨w,_⟩:=j
    .exact .inl w
    .refine .inr ?_;rw[<- w,kv Qs7,kv QqA];congr 1;simp
def rh(aK isAll:Cf)(es ss mem:AT)(far near:Bool)(u:Int)(t:Nat):AT:=
 (cT es u t).dropLast++kG aK isAll es ss mem far es.length near t++((cT es u t).dropLast.filter Qm0).flatMap (λs=>((iG es s).filter Qlb).flatMap (λp=>kG aK isAll es ss mem false es.length false p))
def AQ(es:AT)(u t:Int):(cT es u t).dropLast=((bV es t).takeWhile QcW).reverse:=by
 unfold cT;rw[pE,List.dropLast_concat]
theorem vI(h:ez es)(d:QbS)(b:x∈(cT es u t).dropLast):x∈cT es u t/\x≠t:=by
 have a:=b;rw[AQ,vT]at b;have c:=(y8 _).subset b;have:=bH h We We c;exact⟨List.dropLast_subset _ a,We⟩
def Vp(a:x∈cT es u t)(b:x≠t):x∈(cT es u t).dropLast:=by
 rw[AQ,vT];unfold cT at a;rw[vT]at a;exact(fP.1 a).resolve_left b
theorem CY(h:Qbg)(b:QbS)(j:Qgu)(x:Int):x∈rh aK isAll es ss mem far near u t↔n9 aK isAll es ss mem far near u t x:=by
 have li:=D5 h.pre.1 We We j;unfold rh n9;rw[iw,iw,or_assoc];refine or_congr ?_ (or_congr Iff.rfl ?_)
 .constructor
  .intro z;obtain⟨a,c⟩:=vI h.pre.1 b z;simp_all
  .rintro⟨a,c⟩;exact Vp ((li x).2 a) c
 .simp only[mn,l7];constructor
  .rintro⟨s,⟨s1,s2⟩,p,⟨p1,p2⟩,z⟩;obtain⟨a,c⟩:=vI h.pre.1 b s1;refine⟨s,p,(li s).1 a,c,s2,p1,λw=>?_,z⟩;simp_all
  .rintro⟨s,p,i,g,f,e,k,d⟩;refine⟨s,⟨Vp ((li s).2 i) g,f⟩,p,⟨e,?_⟩,d⟩;simp_all
variable{l:AT}
theorem zl(h:l.Pairwise (· < ·)):l.Nodup:=List.Pairwise.imp (λ{a b} c=>by lia) h
theorem AU(h:Qbg)(j:QbS)(Z:Qgu):(rh aK isAll es ss mem far near u t).Nodup:=by
 have d:=h.pre.1;have li:=D5 d (u:=u) (t:=(t:Int)) We We Z;have E:(cT es u t).dropLast.Nodup:=by
  rw[AQ];have hs:=xE d (t+1) (m:=(t:Int)) We We We;exact List.pairwise_reverse.2 (List.Pairwise.imp (λ{a b} (aa:b<a)=>(by lia:b≠a)) (List.Pairwise.sublist (y8 _) hs))
 have side:∀s∈(cT es u t).dropLast.filter Qm0,∀p∈(iG es s).filter Qlb,iT es u t s/\s≠t/\p∈iG es s/\¬ iT es u t p:=λs hs p n=>by
  obtain⟨s1,s2⟩:=l7.1 hs;obtain⟨p1,p2⟩:=l7.1 n;obtain⟨a,c⟩:=vI d j s1;refine⟨(li s).1 a,c,p1,λw=>?_⟩;rw[mu ((li p).2 w)]at p2;cases p2
 have wit:∀s p x,iT es u t s->s≠t->p∈iG es s->¬ iT es u t p->x∈kG aK isAll es ss mem false es.length false p->0<=x/\x<es.length/\(x=p\/p∈bV es x):=λs p x _ _ n _ v=>by
  have pb:=cB h.pre n;have K:∃q:Nat,p=q:=⟨p.toNat,by
   have:=pb.1;lia⟩
  obtain⟨q,rfl⟩:=K;exact cA h es.length We x v
 unfold rh;refine l2.2 ⟨l2.2 ⟨E,zl (nK h _ j),λa N b B e=>?_⟩,?_,λa N b B e=>?_⟩
 .subst e;obtain⟨a1,a2⟩:=vI d j N;have lb:=jP d j ((li a).1 a1);obtain⟨V,U,T⟩:=cA h es.length j a B;obtain e|e:=T
  .exact a2 e
  .have:=bH d V U e;lia
 .refine List.pairwise_flatMap.2 ⟨λs hs=>List.pairwise_flatMap.2 ⟨λp n=>?_,?_⟩,?_⟩
  .obtain⟨_,_,p1,_⟩:=side s hs p n;have pb:=cB h.pre p1;have K:∃q:Nat,p=q:=⟨p.toNat,by
    have:=pb.1;lia⟩
   obtain⟨q,rfl⟩:=K;exact zl (nK h _ We)
  .have L:((iG es s).filter Qlb).Pairwise (· < ·):=y5 _ (D3 es s);refine IT ?_ L;intro p l n A j4 x v y G e;subst e;obtain⟨s1,s2,p1,p2⟩:=side s hs p n;obtain⟨_,_,i,r⟩:=side s hs l A;obtain⟨x0,D,C⟩:=wit s p x s1 s2 p1 p2 v;obtain⟨_,_,k⟩:=wit s l x s1 s2 i r G;have pb:=cB h.pre p1;have f:=cB h.pre i;have O:=jP d j s1;have S:∀z,z∈bV es l->z<=s:=λz hz=>by
    rw[fQ d (m:=l) f.1 f.2.1,f.2.2.1,bX We]at hz;obtain w|w:=fP.1 hz
    .lia
    .have:=bH d (m:=s) We We w;lia
   have R:∀z,z∈bV es p->z<=s:=λz hz=>by
    rw[fQ d (m:=p) pb.1 pb.2.1,pb.2.2.1,bX We]at hz;obtain w|w:=fP.1 hz
    .lia
    .have:=bH d (m:=s) We We w;lia
   obtain e|e:=C
   .obtain g|g:=k
    .lia
    .rw[e]at g;have:=R _ g;lia
   .obtain g|g:=k
    .rw[g]at e;have:=S _ e;lia
    .obtain w|w|w:=qX d x0 D e g
     .lia
     .have:=S _ w;lia
     .have:=R _ w;lia
  .have M:((cT es u t).dropLast.filter Qm0).Nodup:=y5 _ E;refine IT ?_ M;intro s s' hs J W x v y G e;subst e;obtain⟨p,n,v⟩:=mn.1 v;obtain⟨l,A,G⟩:=mn.1 G;obtain⟨s1,s2,p1,p2⟩:=side s hs p n;obtain⟨o,I,i,r⟩:=side s' J l A;obtain⟨x0,D,C⟩:=wit s p x s1 s2 p1 p2 v;obtain⟨_,_,k⟩:=wit s' l x o I i r G;have pb:=cB h.pre p1;have f:=cB h.pre i;have O:=jP d j s1;have H:=jP d j o;have up:∀{s p s':Int},iT es u t s->p∈iG es s->¬ iT es u t p->iT es u t s'->0<=s'->¬ (p=s'\/p∈bV es s'):=λ{s p s'} ls pin np F _ z=>by
    refine np ?_;obtain z|z:=z
    .rw[z];exact F
    .refine Vm d j ls pin (.inl ?_);obtain w|⟨w,_⟩:=F
     .rw[<- w];exact z
     .exact kF d We We w z
   have d1:¬ p∈bV es l:=λz=>by
    rw[fQ d (m:=l) f.1 f.2.1,f.2.2.1,bX We]at z;exact up s1 p1 p2 o H.1 ((fP.1 z))
   have d2:¬ l∈bV es p:=λz=>by
    rw[fQ d (m:=p) pb.1 pb.2.1,pb.2.2.1,bX We]at z;exact up o i r s1 O.1 ((fP.1 z))
   have P:p≠l:=λz=>W (by rw[<- pb.2.2.1,<- f.2.2.1,z]);obtain e|e:=C
   .obtain g|g:=k
    .exact P (e.symm.trans g)
    .rw[e]at g;exact d2 g
   .obtain g|g:=k
    .rw[g]at e;exact d1 e
    .obtain w|w|w:=qX d x0 D e g
     .exact P w
     .exact d1 w
     .exact d2 w
 .subst e;obtain⟨s,hs,B⟩:=mn.1 B;obtain⟨p,n,B⟩:=mn.1 B;obtain⟨s1,s2,p1,p2⟩:=side s hs p n;obtain⟨x0,D,C⟩:=wit s p a s1 s2 p1 p2 B;obtain⟨Y,X⟩:=zk h j s1 s2 p1 p2 C x0 D;obtain z|z:=iw.1 N
  .exact Y ((li a).1 (vI d j z).1)
  .exact X ((cA h es.length j a z).2.2.elim .inl .inr)
theorem Lm(h:Qbg)(a:QbS)(c:Qq4):0<=x/\x<es.length:=by
 obtain z|z|⟨s,p,i,g,f,b,e,w6⟩:=c
 .have:=jP h.pre.1 a z.1;lia
 .have:=cA h _ a x z;lia
 .have pb:=cB h.pre b;have d:∃q:Nat,p=q:=⟨p.toNat,by
   have:=pb.1;lia⟩
  obtain⟨q,rfl⟩:=d;have:=cA h _ We _ w6;lia
theorem zm{α:Type}{f:α->AT}{c:Nat}:∀{l:Qaa},(∀x∈l,(f x).length<=c)->(l.flatMap f).length<=l.length*c
 | [],_=>by simp
 | x::l,h=>by
  rw[FR,ke,mi];have:=zm λy a=>h y (ij _ a);have:=h x gk;lia
variable{α:Type}
theorem XC(l:Qaa):cutD l none QoR=l.dropLast:=by
 unfold cutD;have e1:HT.F9 l.length 0 none=0:=rfl;have e2:HT.F9 l.length l.length QoR=l.length-1:=by
  unfold HT.F9;lia
 rw[e1,e2,List.drop_zero,Nat.sub_zero,List.dropLast_eq_take]
def JO(dS:Cf)(es ch:AT):Prop:=∀k:Nat,k<es.length->dS k=true->ch.getD k 0∈iG es k
def Pt(aK dS isAll:Cf)(es:AT):Prop:=∀k:Nat,k<es.length->(aK k=true/\dS k=false/\isAll k=false/\iG es k=[])\/(aK k=false/\dS k=true/\isAll k=false)\/(aK k=false/\dS k=false/\isAll k=true)
variable{ch:AT}
theorem Vq(b:ez es):∀(f:Nat) {t e:Int},0<=t->t<es.length->t<f->e∈bV es t->∃y:Int,Qnb/\0<=y/\y<es.length/\es.getD y.toNat 0=e
 | 0,t,e,h0,_,hf,_=>by lia
 | f+1,t,e,h0,h1,hf,he=>by
  have a:=fQ b h0 h1;have i:=b.at h0 h1;by_cases e1:es.getD t.toNat 0=-1
  .rw[a,cq e1]at he;cases he
  .rw[bX e1]at a;rw[a]at he;obtain z|z:=fP.1 he
   .exact⟨t,.inl rfl,h0,h1,z.symm⟩
   .obtain⟨y,h,g,d,c⟩:=Vq b f We We We z;refine⟨y,.inr ?_,g,d,c⟩;rw[a];obtain z|z:=h
    .exact z▸gk
    .exact ij _ z
theorem XD(h:ez es){t:Int}(t0:0<=t)(t1:QbS)(x0:0<=x)(e:QcT)(d:0<=y)(b:y<es.length)(he:es.getD x.toNat 0=es.getD y.toNat 0)(g:x=t\/x∈bV es t)(f:Qnb):x=y:=by
 have no:∀a c:Int,0<=a->a<es.length->0<=c->c<es.length->es.getD a.toNat 0=es.getD c.toNat 0->¬ a∈bV es c:=λa c a0 a1 c0 i j hm=>by
  have k:=h.at a0 a1;rw[fQ h c0 i]at hm;by_cases e1:es.getD c.toNat 0=-1
  .rw[cq e1]at hm;cases hm
  .rw[bX e1]at hm;obtain z|z:=fP.1 hm
   .lia
   .have:=bH h We We z;lia
 obtain rfl|g:=g<;>obtain rfl|f:=f
 .rfl
 .exact absurd f QsA
 .exact absurd g Quh
 .obtain z|z|z:=qX h t0 t1 g f
  .exact z
  .exact absurd z Quh
  .exact absurd z QsA
theorem xF(h:oz es):∀(f t:Nat),t<f->t<es.length->t=0\/(0:Int)∈bV es t
 | 0,t,hf,_=>by lia
 | f+1,t,hf,b=>by
  by_cases e:t=0
  .exact .inl e
  .obtain⟨s,rfl⟩:∃s,t=s+1:=⟨t-1,We⟩;have d:=h.1 _ b;have h2:0<=es.getD (s+1) 0:=by
    obtain z|z:=h.2 s b
    .lia
    .have:=bH h.1 We We z;lia
   have c:=fQ h.1 (m:=((s+1:Nat))) We We;rw[k4]at c;refine .inr ?_;rw[c];obtain⟨q,a⟩:∃q:Nat,es.getD (s+1) 0=q:=⟨(es.getD (s+1) 0).toNat,We⟩;rw[a];obtain z|z:=xF h f q We We
   .rw[z];simp
   simp_all
def AV(es:AT)(u x:Int):Prop:=u=-1\/u∈bV es x
def Kh(c:ez es)(x0:0<=x)(a:QcT)(b:y∈bV es x)(d:AV es u y):AV es u x:=by
 obtain z|z:=d
 .exact .inl z
 .exact .inr (kF c x0 a b z)
def D6(b:Qgu)(a:iT es u t x):AV es u x:=by
 obtain rfl|z:=a
 .exact b
 .exact z.2
theorem zo(h:Qbg)(f:QbS)(c:Qgu)(i:Qq4):AV es u x:=by
 have a:=h.pre.1;obtain z|z|⟨s,p,hs,_,_,e,_,z⟩:=i
 .exact D6 c z.1
 .obtain⟨x0,d,y⟩:=cA h _ f x z;obtain rfl|y:=y
  .exact c
  .exact Kh a x0 d y c
 .have b:=cB h.pre e;have j:=jP a f hs;obtain⟨q,rfl⟩:∃q:Nat,p=q:=⟨p.toNat,We⟩;have g:=Kh a b.1 b.2.1 (b.2.2.1▸Xz a b.1 b.2.1 We) (D6 c hs);obtain⟨x0,d,y⟩:=cA h _ We x z;obtain rfl|y:=y
  .exact g
  .exact Kh a x0 d y g
theorem yz(W:Pt aK dS isAll es)(hc:JO dS es ch)(h:Qbg)(p:QbS)
  (L:u=-1\/(u∈bV es t/\dS u=true/\u∈zj isAll es ch Qbw)) :
  ∃A:AT,A.length=es.length/\JO dS es A ∧
   (zj isAll es A Qbw).Perm ((zj isAll es ch Qbw).filter (λx=>!(decide (u=-1) || decide (u∈bV es x)))++rh aK isAll es ss mem far near u t)/\(t:Int)∈zj isAll es A Qbw:=by
 classical
 have o:=h.pre.1;have hn:0<es.length:=by lia
 have d:u=-1\/u∈bV es t:=L.imp id (·.1);have F:∀e:Int,∃y:Int,e∈bV es t->Qnb/\0<=y/\y<es.length/\es.getD y.toNat 0=e:=λe=>by
  by_cases z:e∈bV es t
  .obtain⟨y,hy⟩:=Vq o (t+1) (t:=(t:Int)) We We We z;exact⟨y,λ_=>hy⟩
  .exact⟨0,λy=>absurd y z⟩
 obtain⟨st,F⟩:∃st:Int->Int,∀e:Int,e∈bV es t->(st e=t\/st e∈bV es t)/\0<=st e/\st e<es.length/\es.getD (st e).toNat 0=e:=⟨λe=>Classical.choose (F e),λe=>Classical.choose_spec (F e)⟩
 let fl:Int->Bool:=λe=>(decide (e=t)&&(far || near)) || QpE
 let c:Nat->Int:=λk=>if (k:Int)=u\/(iT es u t k/\(k:Int)≠t) then st k else if AV es u k then j8 ss mem (fl k) k else ch.getD k 0
 have CP:∀k:Nat,k<es.length->((List.range es.length).map c).getD k 0=c k:=λk l=>by
  rw[kq,j2,oI l];rfl
 have K:∀e:Int,iT es u t e->n9 aK isAll es ss mem far near u t e:=λe he=>by
  have X:=jP o p he;obtain⟨q,rfl⟩:∃q:Nat,e=q:=⟨e.toNat,We⟩;exact(Vo h p q We).2 (.inl he)
 let N:Int->Prop:=λx=>(x∈zj isAll es ch Qbw/\¬ AV es u x)\/n9 aK isAll es ss mem far near u t x
 have J:∀x,N x->0<=x/\x<es.length:=λx hx=>by
  obtain z|z:=hx
  .have:=oA _ z.1;lia
  .exact Lm h p z
 have hN:∀k:Nat,k<es.length->(N k↔(k=0\/(N Qor/\(isAll Qor=true\/c (es.getD k 0).toNat=(k:Int))))):=by
  intro k l;have Z:=o k l;have n:=fQ o (m:=(k:Int)) We We;rw[k4]at n;by_cases k0:k=0
  .subst k0;rw[cq We]at n;refine⟨λ_=>.inl rfl,λ_=>?_⟩;obtain z|z:=L
   .refine .inr (K _ ?_);obtain y|y:=xF h.pre (t+1) t We p
    .exact .inl We
    .exact .inr ⟨y,.inl z⟩
   .refine .inl ⟨(CV o Qbw (k:=0) We We).2 Qae,?_⟩;rintro(y|y)
    .have:=oA _ z.2.2;lia
    .rw[n]at y;cases y
  .have e0:es.getD k 0 ≠ -1:=by
    obtain y|y:=xF h.pre (k+1) k We l
    .exact absurd y k0
    .intro z;rw[n,cq z]at y;cases y
   rw[bX e0]at n;have S:=CV (isAll:=isAll) (ch:=ch) o Qbw (k:=k) We We;have T:=Vo (far:=far) (near:=near) (u:=u) h p k l;obtain⟨e,he⟩:∃e:Nat,es.getD k 0=e:=⟨(es.getD k 0).toNat,We⟩;rw[he]at n S T Z ⊢;rw[k4]at S ⊢;have U:e<es.length:=by lia
   have eb:AV es u e->AV es u k:=λz=>Kh o We We (by rw[n];exact gk) z;have self:∀x:Int,0<=x->x<es.length->¬ x∈bV es x:=λx a0 a1 z=>by
    have:=bH o a0 a1 z;lia
   have C:(e:Int)∈bV es t->(st e=k↔((k:Int)=t\/(k:Int)∈bV es t)):=λz=>by
    obtain⟨s1,s2,s3,s4⟩:=F e z;constructor
    .intro y;rw[<- y];exact s1
    .intro y;exact XD o (t:=(t:Int)) We We s2 s3 We We (by rw[s4,k4,he]) s1 y
   by_cases v:AV es u k
   .by_cases i:(e:Int)=u
    .have g:=L.resolve_left We;rw[<- i]at g;have I:¬ AV es u e:=by
      rintro(z|z)
      .lia
      .rw[i]at z;exact self u We We z
     have M:¬ isAll e=true:=λz=>by
      obtain y|y|y:=W e U
      .rw[y.2.1]at g;cases g.2.1
      .rw[y.2.2]at z;cases z
      .rw[y.2.1]at g;cases g.2.1
     have j:c e=st e:=cq (.inl i);rw[j];have O:¬ n9 aK isAll es ss mem far near u t e:=λz=>I (zo h p d z);constructor
     .rintro(z|z)
      .exact absurd v z.2
      .obtain y|y:=T.1 z
       .refine .inr ⟨.inl ⟨g.2.2,I⟩,.inr ((C g.1).2 ?_)⟩;obtain y|y:=y
        .exact .inl y
        .exact .inr y.1
       .exact absurd y.1 O
     .rintro(z|⟨_,z|z⟩)
      .exact absurd z k0
      .exact absurd z M
      .refine .inr (K _ ?_);rcases(C g.1).1 z with y|y
       .exact .inl y
       .exact .inr ⟨y,v⟩
    .have s:AV es u e:=by
      obtain z|z:=v
      .exact .inl z
      .rw[n]at z;obtain y|y:=fP.1 z
       .exact absurd y.symm i
       .exact .inr y
     have V:N k↔n9 aK isAll es ss mem far near u t k:=⟨λz=>z.resolve_left (λy=>y.2 v),.inr⟩;have L2:N e↔n9 aK isAll es ss mem far near u t e:=⟨λz=>z.resolve_left (λy=>y.2 s),.inr⟩;rw[V,L2,T];by_cases r:iT es u t e/\(e:Int)≠t
     .have j:c e=st e:=cq (.inr r);rw[j];have het:(e:Int)∈bV es t:=by
       obtain y|y:=r.1
       .exact absurd y r.2
       .exact y.1
      have hm:BQ aK isAll es ss mem far near u t e k↔isAll e=true:=by
       unfold BQ;constructor
       .rintro(z|z)
        .exact z
        .obtain y|y:=z.2
         .exact absurd y r.2
         .exact absurd r.1 y
       .exact .inl
      rw[hm,C het];constructor
      .rintro(z|z)
       .refine .inr ⟨K _ r.1,.inr ?_⟩;obtain y|y:=z
        .exact .inl y
        .exact .inr y.1
       .exact .inr ⟨z.1,.inl z.2.2⟩
      .rintro(z|⟨z1,E⟩)
       .exact absurd z k0
       .by_cases D:iT es u t k
        .exact .inl D
        .obtain E|E:=E
         .exact .inr ⟨z1,D,E⟩
         .refine absurd ?_ D;obtain y|y:=E
          .exact .inl y
          .exact .inr ⟨y,v⟩
     .have j:c e=j8 ss mem (fl e) e:=by
       show Qpp=_;rw[bX (λz=>z.elim i r),cq s]
      rw[j];have H:¬ iT es u t k:=by
       rintro(z|z)
       .refine r ⟨.inr ⟨?_,s⟩,We⟩;rw[<- z,n];exact gk
       .have:=bH o (m:=(t:Int)) We We z.1;exact r ⟨.inr ⟨kF o We We z.1 (by rw[n];exact gk),s⟩,We⟩
      have hm:BQ aK isAll es ss mem far near u t e k↔(isAll e=true\/j8 ss mem (fl e) e=k):=by
       have:(e:Int)=t\/¬ iT es u t e:=by
        by_cases y:(e:Int)=t
        .exact .inl y
        .exact .inr (λw=>r ⟨w,y⟩)
       unfold BQ;constructor
       .rintro(z|z)
        .exact .inl z
        .exact .inr z.1
       .rintro(z|z)
        .exact .inl z
        .exact .inr ⟨z,this⟩
      rw[hm];constructor
      .rintro(z|z)
       .exact absurd z H
       .exact .inr ⟨z.1,z.2.2⟩
      .rintro(z|z)
       .exact absurd z k0
       .exact .inr ⟨z.1,H,z.2⟩
   .have B:¬ AV es u e:=λz=>v (eb z);have i:(e:Int)≠u:=λz=>v (.inr (by rw[n,z];exact gk));have j:c e=ch.getD e 0:=by
     show Qpp=_;rw[bX (λz=>z.elim i (λy=>B (D6 d y.1))),bX B]
    rw[j];have V:N k↔(k:Int)∈zj isAll es ch Qbw:=⟨λz=>z.elim (·.1) (λy=>absurd (zo h p d y) v),λz=>.inl ⟨z,v⟩⟩;have L2:N e↔(e:Int)∈zj isAll es ch Qbw:=⟨λz=>z.elim (·.1) (λy=>absurd (zo h p d y) B),λz=>.inl ⟨z,B⟩⟩;rw[V,L2];exact S
 have Cj:∀x,x∈zj isAll es ((List.range es.length).map c) Qbw↔N x:=by
  have key:∀(f k:Nat),k<f->k<es.length->((k:Int)∈zj isAll es ((List.range es.length).map c) Qbw↔N k):=by
   intro f
   induction f with
   | zero=>intro k h;lia
   | succ f ih=>
    intro k aa l;rw[CV o Qbw We We,hN k l];have Z:=o k l;by_cases e:es.getD k 0=-1
    .rw[e];constructor
     .rintro(z|z)
      .exact .inl z
      .have:=oA _ z.1;lia
     .rintro(z|z)
      .exact .inl z
      .have:=J _ z.1;lia
    .obtain⟨q,n⟩:∃q:Nat,es.getD k 0=q:=⟨(es.getD k 0).toNat,We⟩;rw[n,ih q We We,k4,CP q We]
  intro x;constructor
  .intro z;have:=oA _ z;obtain⟨q,rfl⟩:∃q:Nat,x=q:=⟨x.toNat,We⟩;exact(key (q+1) q We We).1 z
  .intro z;have:=J _ z;obtain⟨q,rfl⟩:∃q:Nat,x=q:=⟨x.toNat,We⟩;exact(key (q+1) q We We).2 z
 have Y:∀x:Int,((!(decide (u=-1) || decide (u∈bV es x)))=true↔¬ AV es u x):=λx=>by
  unfold AV;simp
 refine⟨(List.range es.length).map c,Wp,λk l G=>?_,?_,(Cj _).2 (.inr (K _ Qae))⟩
 .rw[CP k l];show(if (k:Int)=u\/(iT es u t k/\(k:Int)≠t) then st k else if AV es u k then j8 ss mem (fl k) k else ch.getD k 0)∈_;by_cases z:(k:Int)=u\/(iT es u t k/\(k:Int)≠t)
  .rw[cq z];have P:(k:Int)∈bV es t:=by
    obtain y|y:=z
    .rw[y];exact d.resolve_left We
    .exact(y.1.resolve_left y.2).1
   obtain⟨_,s2,s3,s4⟩:=F k P;exact qZ s2 s3 s4
  .rw[bX z];by_cases y:AV es u k
   .rw[cq y];obtain w|w|w:=W k l
    .rw[w.2.1]at G;cases G
    .exact Vl h l w.1 w.2.2
    .rw[w.2.1]at G;cases G
   .rw[bX y];exact hc k l G
 .refine(List.perm_ext_iff_of_nodup (zl (q8 _)) ?_).2 λx=>?_
  .rw[l2];refine⟨y5 _ (zl (q8 _)),AU h p d,λa ha b X R=>?_⟩;subst R;exact(Y a).1 (l7.1 ha).2 (zo h p d ((CY h p d a).1 X))
  .rw[Cj,iw,l7,CY h p d,Y]
abbrev ql:=AT×AT×AT
inductive J where
 | out (m:Int)|W4 (m:Int)|keep (m p q:Int)|put (x p q:Int)|W8 (w:Str) (ds:BA)
noncomputable def J.w:J->Str
 | .out _=>"out"
 | .W4 _=>"in"
 | .keep _ _ _=>"keep"
 | .put _ _ _=>"put"
 | .W8 w _=>w
noncomputable def J.ds:J->BA
 | .out m=>[.int m]
 | .W4 m=>[.int m]
 | .keep m p q=>[.int m,.int p,.int q]
 | .put x p q=>[.int x,.int p,.int q]
 | .W8 _ ds=>ds
def J.d(r:J):D:=.tup (.str r.w::r.ds)
def Na:At:=["sign","way","call","say","rest"]
def NY(d:D):Prop:=(∃i,d=.int i)\/∃x,d=.str x
def J.ok(s:ql):J->Prop
 | .keep m _ _=>0<=m/\m<s.2.1.length
 | .put x _ _=>0<=x/\x<s.2.2.length
 | .W8 w ds=>w∈Na/\ds.length<=3/\∀d∈ds,NY d
 | _=>True
def ao5(back:Bool)(r:J)(ops:AT):AT:=match r with
 | .out m=>if back then sortI (ops++[m]) else ops.filter QsT
 | .W4 m=>if back then ops.filter QsT else sortI (ops++[m])
 | _=>ops
noncomputable def Ym(back:Bool)(r:J)(mem:AT):AT:=match r with
 | .keep m p q=>mem.set m.toNat QqN
 | _=>mem
noncomputable def Yf(back:Bool)(r:J)(bs:AT):AT:=match r with
 | .put x p q=>bs.set x.toNat QqN
 | _=>bs
def ao6(back:Bool)(s:ql)(r:J):ql:=(ao5 back r s.1,Ym back r s.2.1,Yf back r s.2.2)
def Fits(back:Bool):List J->ql->Prop
 | [],s=>s.1.length<60
 | r::rs,s=>s.1.length<60/\r.ok s/\Fits back rs (ao6 back s r)
theorem Fits.len{back:Bool}{rs:List J}{s:ql}(h:Fits back rs s):s.1.length<60:=by
 cases rs with
 | nil=>exact h
 | cons r rs=>exact h.1
structure NU(n:Nat)(s:ql):Prop where
 up:s.1.Pairwise (· < ·)
 lo:∀x∈s.1,0<=x/\x<n
 mem:s.2.1.length=n
def Right(n:Nat)(s:ql):J->Prop
 | .out m=>m∈s.1
 | .W4 m=>m∉s.1/\0<=m/\m<n
 | .keep m p _=>0<=m/\m<s.2.1.length/\s.2.1.getD m.toNat 0=p
 | .put x p _=>0<=x/\x<s.2.2.length/\s.2.2.getD x.toNat 0=p
 | .W8 w ds=>w∈Na/\ds.length<=3/\∀d∈ds,NY d
theorem Right.ok{s:ql}{r:J}(h:Right n s r):r.ok s:=by
 cases r with
 | out m=>trivial
 | W4 m=>trivial
 | keep m p q=>exact⟨h.1,h.2.1⟩
 | put m p q=>exact⟨h.1,h.2.1⟩
 | W8 w ds=>exact h
theorem Rp{n:Nat}:∀{l:AT} {lo:Int},l.Pairwise (· < ·)->(∀x∈l,lo<=x/\x<n)->0<=lo->l.length<=((n:Int)-lo).toNat
 | [],_,_,_,_=>i8 _
 | y::l,lo,b,hl,h0=>by
  have c:=hl y Wp;obtain⟨h1,h2⟩:=mT.1 b;have:=Rp (lo:=y+1) h2 (λx a=>⟨by have:=h1 x a;lia,(hl x (ij _ a)).2⟩) We;simp;lia
theorem NU.len{s:ql}(h:NU n s):s.1.length<=n:=by
 have:=Rp h.up h.lo Wp;lia
theorem D7(h:l.Pairwise (· <= ·))(nd:QfP):l.Pairwise (· < ·):=by
 induction l with
 | nil=>exact .nil
 | cons y l c=>
  obtain⟨h1,h2⟩:=mT.1 h;obtain⟨n1,b⟩:=l4.1 nd;refine mT.2 ⟨λx a=>?_,c h2 b⟩;have:=h1 x a;have:y≠x:=λe=>n1 (e▸a);lia
theorem abx(h:l.Pairwise (· < ·)):l.Nodup:=h.imp We
noncomputable def J.m:J->Int
 | .out m=>m
 | .W4 m=>m
 | _=>0
noncomputable def fz(bs nm:BA)(tr:D)(is os ws:BA):D:=.ins "Chart" [("boxes",.lst bs),("names",.lst nm),("tree",tr),("ins",.lst is),("outs",.lst os),("ways",.lst ws)]
variable{bs nm is os ws:BA}{tr:D}
def NX:List.lookup ("boxes":Str) [(("boxes":Str),D.lst bs),("names",.lst nm),("tree",tr),("ins",.lst is),("outs",.lst os),("ways",.lst ws)]=some (.lst bs):=vD
def NZ:List.lookup ("names":Str) [(("boxes":Str),D.lst bs),("names",.lst nm),("tree",tr),("ins",.lst is),("outs",.lst os),("ways",.lst ws)]=some (.lst nm):=rfl
def fB:List.lookup ("tree":Str) [(("boxes":Str),D.lst bs),("names",.lst nm),("tree",tr),("ins",.lst is),("outs",.lst os),("ways",.lst ws)]=some tr:=rfl
def Ik:List.lookup ("ins":Str) [(("boxes":Str),D.lst bs),("names",.lst nm),("tree",tr),("ins",.lst is),("outs",.lst os),("ways",.lst ws)]=some (.lst is):=rfl
def Rq:List.lookup ("outs":Str) [(("boxes":Str),D.lst bs),("names",.lst nm),("tree",tr),("ins",.lst is),("outs",.lst os),("ways",.lst ws)]=some (.lst os):=rfl
def fC:List.lookup ("ways":Str) [(("boxes":Str),D.lst bs),("names",.lst nm),("tree",tr),("ins",.lst is),("outs",.lst os),("ways",.lst ws)]=some (.lst ws):=rfl
noncomputable def D8(bs nm:BA):BS:=[("boxes",.lst (bs.map T.sh)),("names",.lst (nm.map T.sh))]
noncomputable def xG(is os ws:BA):BS:=[("ins",.lst (is.map T.sh)),("outs",.lst (os.map T.sh)),("ways",.lst (ws.map T.sh))]
def lX(bs nm:BA)(t:T)(is os ws:BA):BS:=D8 bs nm++(("tree":Str),t)::xG is os ws
def xH(bs nm:BA)(t:T)(is os ws:BA):T.cu (.ins "Chart" QtS)=fz bs nm t.cu is os ws:=by
 unfold lX D8 xG;rw[mv,mv,ri,T.cu,T.sZ,T.sZ,T.sZ,T.sZ,T.sZ,T.sZ,bF,bF,bF,bF,bF];rfl
def bW{ds:BA}(h:Qdu):(T.lst Qcz).clean=true:=by
 rw[Av]
 induction ds with
 | nil=>rfl
 | cons d ds a=>
  rw[D.bf,lj]at h;rw[kn,T.dW,a h.2,T.clean,h.1];rfl
def rj(h1:D.bf bs=true)(h2:D.bf nm=true):T.cX (D8 bs nm)=true:=by
 unfold D8;rw[T.cX,T.cX,bW h1,bW h2];rfl
def rA(h1:D.bf is=true)(h2:D.bf os=true)(a:D.bf ws=true):T.cX (xG is os ws)=true:=by
 unfold xG;rw[T.cX,T.cX,T.cX,bW h1,bW h2,bW a];rfl
noncomputable def j7(p:QoG):D:=.tup [.str p.1,.int p.2]
noncomputable def z6(p:D×Str×BA):D:=.tup (p.1::.str p.2.1::p.2.2)
structure bM where
 src:Int
 sign:Str
 asks:BA
 lG:BA
 jj:Int
 mode:Str
def dN(w:bM):D:=.tup [.int w.src,.str w.sign,.tup w.asks,.tup w.lG,.int w.jj,.str w.mode]
noncomputable def w0:bM:=⟨0,Str.empty,[],[],0,Str.empty⟩
def gC(ws:QR)(i:Int):bM:=ws.getD i.toNat w0
theorem rB{ws:QR}{i:Int}(h0:0<=i)(h1:i<ws.length):gC ws i∈ws:=by
 unfold gC;simp_all
def j9(ks:At)(es:AT)(w:bM):Int:=Kf QcK es w.src w.jj
def wG(es ops:AT)(u:Int):AT:=(ops.filter (λm=>decide (u=-1) || decide (u∈bV es m))).reverse
def Ap(es:AT)(u v:Int):Prop:=u ≠ -1/\v ≠ -1/\u≠v/\u∉bV es v/\v∉bV es u
theorem Ap.symm{v:Int}(h:Ap es u v):Ap es v u:=⟨h.2.1,h.1,λe=>h.2.2.1 e.symm,h.2.2.2.2,h.2.2.2.1⟩
def XF(b:ez es){v:Int}(x0:0<=x)(a:QcT)(ap:Ap es u v)(h:AV es u x):¬ AV es v x:=λk=>by
 have h:=h.resolve_left ap.1;have k:=k.resolve_left ap.2.1;obtain e|e|e:=qX b x0 a h k
 .exact ap.2.2.1 e
 .exact ap.2.2.2.1 e
 .exact ap.2.2.2.2 e
theorem iJ(nd:QfP)(b:∀x∈l,0<=x/\x<n):l.length<=n:=by
 have:=Rp (D7 (jL l) ((sortI_perm l).nodup_iff.2 nd)) (λx a=>b x (gP.1 a)) Wp;rw[kB]at this;lia
theorem xJ{α:Type}{es:AT}(i:ez es){top:Qky}{f:α->AT}:∀{gs:Qaa},gs.Pairwise (λa c=>Ap es (top a) (top c))->(∀a∈gs,(f a).Nodup/\∀x∈f a,QiP/\AV es (top a) x) →
  (gs.flatMap f).Nodup/\∀x∈gs.flatMap f,QiP/\∃a∈gs,AV es (top a) x
 | [],_,_=>⟨Wp,λx b=>by simp at b⟩
 | a::gs,k,hf=>by
  obtain⟨h1,h2⟩:=mT.1 k;obtain⟨i1,h⟩:=xJ i h2 (λc d=>hf c Qhr);obtain⟨f1,f2⟩:=hf a Wp;refine⟨l2.2 ⟨f1,i1,λx b y j e=>?_⟩,λx b=>?_⟩
  .subst e;obtain⟨b1,c,d,g⟩:=h x j;exact XF i b1.1 b1.2 (h1 c d) (f2 x b).2 g
  .obtain b|b:=iw.1 b
   .exact⟨(f2 x b).1,a,gk,(f2 x b).2⟩
   .obtain⟨b1,c,d,g⟩:=h x b;exact⟨b1,c,ij _ d,g⟩
def Rr(ks:At)(es ss mem:AT)(w:bM):AT:=rh Qa4 Qa5 es ss mem (eN w.mode) (gU w.mode) Qcp w.jj.toNat
def Goes(ks:At)(es:AT)(w:bM):Prop:=(0<=w.jj/\w.jj<es.length)/\(j9 ks es w=-1\/j9 ks es w∈bV es w.jj.toNat)
theorem akQ(b:QlM){w:bM}(h:Goes ks es w):(Rr ks es ss mem w).Nodup/\∀x∈Rr ks es ss mem w,QiP/\AV es Qcp x:=by
 have a:w.jj.toNat<es.length:=by have:=h.1;lia
 refine⟨AU b a h.2,λx c=>?_⟩;have hi:=(CY b a h.2 x).1 c;exact⟨Lm b a hi,zo b a h.2 hi⟩
def pA(ks:At)(es ops:AT)(gs:QR):AT:=(sortI (gs.flatMap λw=>wG es ops Qcp)).reverse
noncomputable def Il(h:QfP):l.reverse.Nodup:=List.pairwise_reverse.2 (h.imp λh e=>h e.symm)
variable{ops:AT}
def tZ:x∈wG es ops u↔x∈ops/\AV es u x:=by
 unfold wG AV;simp
variable{gs:QR}
def Kl:x∈pA ks es ops gs↔x∈ops/\∃w∈gs,AV es Qcp x:=by
 unfold pA;rw[vT,gP,mn];constructor
 .rintro⟨w,hw,a⟩;exact⟨(tZ.1 a).1,w,hw,(tZ.1 a).2⟩
 .rintro⟨a,w,hw,b⟩;exact⟨w,hw,tZ.2 ⟨a,b⟩⟩
def N1(d:ez es)(e:ops.Pairwise (· < ·))(f:∀x∈ops,0<=x/\x<es.length)(g:QiX) :
  (gs.flatMap λw=>wG es ops Qcp).Nodup/\(gs.flatMap λw=>wG es ops Qcp).length<=es.length:=by
 have h:=xJ d g (λw _=>⟨by
  exact Il ((abx e).filter _),λx b=>⟨f x (tZ.1 b).1,(tZ.1 b).2⟩⟩)
 exact⟨h.1,iJ h.1 λx b=>(h.2 x b).1⟩
def Im(b:ez es)(d:ops.Pairwise (· < ·))(e:∀x∈ops,0<=x/\x<es.length)(f:QiX):(pA ks es ops gs).Nodup/\(pA ks es ops gs).length<=es.length:=by
 obtain⟨h1,h2⟩:=N1 b d e f;unfold pA;exact⟨Il ((sortI_perm _).nodup_iff.2 h1),by rw[rF,kB];exact h2⟩
def XG{a c:AT}(h:a.Perm c):sortI a=sortI c:=DH ((sortI_perm a).trans h) (jL a)
def xK(ks:At)(es ss mem:AT)(gs:QR):AT:=sortI (gs.flatMap QeP)
def D9(b:QlM)(f:QiX)(e:∀w∈gs,Goes ks es w) :
  (gs.flatMap QeP).Nodup/\(gs.flatMap QeP).length<=es.length/\∀x∈gs.flatMap QeP,QiP/\∃w∈gs,AV es Qcp x:=by
 have h:=xJ b.pre.1 f (λw hw=>akQ b (e w hw));exact⟨h.1,iJ h.1 λx d=>(h.2 x d).1,h.2⟩
def z4(ks:At)(es ss mem ops:AT)(gs:QR):AT:=sortI (ops.filter Qk4++xK ks es ss mem gs)
theorem Po(l:QlM)(i:ops.Pairwise (· < ·))(k:∀x∈ops,0<=x/\x<es.length)(m:QiX)(j:∀w∈gs,Goes ks es w) :
  (z4 ks es ss mem ops gs).Pairwise (· < ·)/\(∀x∈z4 ks es ss mem ops gs,0<=x/\x<es.length)/\(ops.filter Qk4++xK ks es ss mem gs).length<=es.length:=by
 obtain⟨n,_,f⟩:=D9 l m j;have nd:(ops.filter (λx=>!decide _)++xK ks es ss mem gs).Nodup:=l2.2 ⟨(i.imp We).filter _,(sortI_perm _).nodup_iff.2 n,λx b y g e=>by
  subst e;obtain⟨h1,h2⟩:=l7.1 b;exact of_decide_eq_false (by simpa using h2) (Kl.2 ⟨h1,(f x (gP.1 g)).2⟩)⟩
 have d:∀x∈ops.filter Qk4++xK ks es ss mem gs,0<=x/\x<es.length:=λx b=>by
  obtain z|z:=iw.1 b
  .exact k x (l7.1 z).1
  .exact(f x (gP.1 z)).1
 refine⟨?_,λx b=>d x (gP.1 b),iJ nd d⟩;exact((jL _).and ((sortI_perm _).nodup_iff.2 nd)).imp λh=>by lia
def nL(ws:QR)(i:Int):Bool:=!decide ((gC ws i).jj=-1)
def rC(ws:QR)(some:AT):List bM:=(some.filter Qdm).map QbO
theorem pB{β:Type}{f:α->List β}(l:Qaa)(j:Nat):((l.take j).flatMap f).length<=(l.flatMap f).length:=by
 have h2:=t4 j l
 conv=>rhs;rw[<- h2]
 rw[w4,ke];lia
theorem AW{α:Type}{f:α->AT}:∀l:List α,(l.flatMap λa=>sortI (f a)).Perm (l.flatMap f)
 | []=>.refl _
 | a::l=>(sortI_perm _).append (AW l)
def xp(n:Nat)(w:bM):Prop:=(0<=w.src/\w.src<n)/\(w.jj=-1\/(0<=w.jj/\w.jj<n))/\tY w.mode/\w.lG.length<=12/\D.bf w.lG=true/\D.bf w.asks=true
def Io(es:AT)(m:Int)(w:bM):Bool:=(!decide (w.mode="new")&&decide (w.jj=m)) || (decide (w.mode="far")&&(decide (w.jj=-1) || decide (w.jj∈bV es m)))
def lH(ks:At)(es:AT)(ws:QR)(m:Int):Bool:=eS ks m&&ws.any (Io es m)
abbrev _root_.EU:=List BA
def inR(is:EU)(a:AT):BA:=a.flatMap λm=>D.tup [.str "in",.int m]::is.getD m.toNat []
def pC(is:EU):Prop:=∀l∈is,l.length<=12/\D.bf l=true
def Km(Cr:Cf)(os:EU)(mem bh gone:AT):BA:=gone.flatMap λm=>D.tup [.str "out",.int m]::QsB
def N2(ws:QR)(some:AT):BA:=some.flatMap λi=>D.tup [.str "way",.int i]::(gC ws i).lG
theorem pC.get{is:EU}(h:pC is)(k:Nat):(is.getD k []).length<=12/\D.bf (is.getD k [])=true:=by
 by_cases a:k<is.length
 .rw[kq,kf a];exact h _ Wp
 .rw[kq,List.getElem?_eq_none We];exact⟨Wp,rfl⟩
theorem kH{α β:Type}{f:α->List β}{c:Nat}:∀l:List α,(∀a∈l,(f a).length<=c)->(l.flatMap f).length<=c*l.length
 | [],_=>by simp
 | a::l,h=>by
  have h1:=h a gk;have h2:=kH l (λb d=>h b Qhr);rw[FR,ke,mi];lia
def AX{f:α->BA}{l:Qaa}(h:∀a∈l,D.bf (f a)=true):D.bf (l.flatMap f)=true:=fU λd hd=>by
 obtain⟨a,b,hd⟩:=mn.1 hd;exact qh (h a b) d hd
def N3{a c:BA}(h1:D.bf a=true)(h2:D.bf c=true):D.bf (a++c)=true:=fU λd hd=>(iw.1 hd).elim (qh h1 d) (qh h2 d)
theorem Kn{Cr:Cf}{os:EU}{bh:AT}(h:pC os)(gone:AT):(Km Cr os mem bh gone).length<=14*gone.length/\D.bf (Km Cr os mem bh gone)=true:=by
 refine⟨kH _ λm _=>?_,AX λm _=>?_⟩
 .have:=(h.get m.toNat).1;have h1:(if Cr m=true then [D.tup [.str "keep",.int m,.int Qmz,.int QmV]] else []).length<=1:=by split<;>simp
  rw[mi,ke];lia
 .refine N3 ?_ (h.get _).2;split<;>rfl
theorem AY{is:EU}(h:pC is)(a:AT):(inR is a).length<=13*a.length/\D.bf (inR is a)=true:=by
 refine⟨kH _ λm _=>?_,AX λm _=>?_⟩
 .have:=(h.get m.toNat).1;simp_all
 .exact(h.get _).2
theorem Ko{ws:QR}{some:AT}(h:∀i∈some,xp n Qcr):(N2 ws some).length<=13*some.length/\D.bf (N2 ws some)=true:=by
 refine⟨kH _ λm hm=>?_,AX λm hm=>?_⟩
 .have:=(h m hm).2.2.2.1;simp;lia
 .exact(h m hm).2.2.2.2.1
def XH(Cr:Cf)(os:EU)(mem bh gone:AT)(m:Int):Km Cr os mem bh (gone++[m])=Km Cr os mem bh gone++(D.tup [.str "out",.int m]::QsB):=by
 unfold Km;simp
def XI(ws:QR)(some:AT)(i:Int):N2 ws (some++[i])=N2 ws some++(D.tup [.str "way",.int i]::(gC ws i).lG):=by
 unfold N2;simp
def abz(is:EU)(a:AT)(m:Int):inR is (a++[m])=inR is a++(D.tup [.str "in",.int m]::is.getD m.toNat []):=by
 unfold inR;simp
def Y7(ks:At)(es:AT)(ws:QR)(mem ops:AT)(gs:QR):AT:=oo QcK es ((pA ks es ops gs).filter Qe1) mem ops
def z3(ks:At)(es ss:AT)(is os:EU)(ws:QR)(mem ops some:AT):BA:=
 Km Qe1 os mem Qq5 (pA ks es ops (rC ws some))++N2 ws some++inR is (xK ks es ss Qq5 (rC ws some))
def BR(ks:At)(es mem:AT):Prop:=mem.length=es.length/\∀k:Nat,k<es.length->eS ks k=true->mem.getD k 0=-1\/mem.getD k 0∈iG es k
structure oE(ks:At)(es ss:AT)(is os:EU)(ws:QR):Prop where
 n0:0<es.length
 n1:es.length<=61
 kl:ks.length=es.length
 sl:ss.length=es.length
 il:is.length=es.length
 ol:os.length=es.length
 kd:Pt Qa4 QcK Qa5 es
 pre:oz es
 st:JO QcK es ss
 ir:pC is
 or:pC os
 wo:∀w∈ws,xp es.length w
 wl:ws.length<=60
structure t6(ks:At)(es:AT)(ws:QR)(some:AT):Prop where
 i:∀i∈some,0<=i/\i<ws.length
 l:some.length<=60
 ap:(rC ws some).Pairwise Qpm
section
variable{is os:EU}{ws:QR}{some:AT}
theorem oE.tree(h:QiM)(hm:BR ks es mem):e9 Qa4 Qa5 es ss mem:=⟨h.pre,(λk a e=>by
  obtain⟨_,_,_,z⟩|⟨z,_⟩|⟨z,_⟩:=h.kd k a
  .exact z
  .rw[z]at e;cases e
  simp_all),λk a e1 e2=>by
  obtain⟨z,_⟩|⟨_,z,_⟩|⟨_,_,z⟩:=h.kd k a
  .rw[z]at e1;cases e1
  .exact⟨h.st k a z,hm.2 k a z⟩
  simp_all⟩
theorem oE.kinds(h:QiM):∀k:Nat,k<es.length->aV ks k=true\/bw ks k=true\/ks.getD k Str.empty="one":=λk a=>by
 obtain⟨z,_⟩|⟨_,z,_⟩|⟨_,_,z⟩:=h.kd k a
 .exact .inl z
 .refine .inr (.inr ?_);have:=l1 z;assumption
 .exact .inr QdV
def akR{w:bM}(hw:w∈rC ws some):∃i∈some,w=gC ws i/\w.jj ≠ -1:=by
 obtain⟨i,hi,rfl⟩:=ip.1 hw;obtain⟨h1,h2⟩:=l7.1 hi;refine⟨i,h1,rfl,?_⟩;unfold nL at h2;simpa using h2
theorem t6.wi(h:QiM)(hs:t6 ks es ws some):∀w∈rC ws some,Goes ks es w:=λw hw=>by
 obtain⟨i,hi,rfl,c⟩:=akR hw;obtain⟨b,i1⟩:=hs.i i hi;have ui:=h.wo _ (rB b i1);have a:=ui.2.1.resolve_left c;refine⟨a,?_⟩;have e:((gC ws i).jj.toNat)=(gC ws i).jj:=by lia
 obtain z|z:=afJ h.pre.1 ui.1.1 ui.1.2
 .exact .inl z.1
 .exact .inr (e▸z.2.1)
theorem t6.ui(h:QiM)(hs:t6 ks es ws some):∀i∈some,xp es.length Qcr:=λi hi=>h.wo _ QrJ
theorem RO{d:AT}(a:∀x∈d,0<=x):∀(ops acc:AT),(∀x∈ops,0<=x/\x<es.length)->BR ks es acc->BR ks es (oo QcK es d acc ops)
 | [],_,_,h=>h
 | m::ops,acc,c,h=>by
  obtain⟨m0,m1⟩:=c m Wp;apply RO a ops _ (λx f=>c x (ij _ f));unfold D4;split
  .rename_i z;have g:=a _ z.1;refine⟨(List.length_set ..).trans h.1,λk b h1=>?_⟩;by_cases e:(es.getD m.toNat 0).toNat=k
   .rw[<- e,kq,za (by rw[e,h.1];exact b),Option.getD_some];refine .inr (qZ m0 m1 ?_);lia
   .rw[kq,List.getElem?_set_ne e];exact h.2 k b h1
  .exact h
noncomputable def NO(a:∀x∈ops,0<=x/\x<es.length)(hm:BR ks es mem)(gs:QR):BR ks es (Y7 ks es ws mem ops gs):=RO (λx b=>(a x (Kl.1 (l7.1 b).1).1).1) ops mem a hm
end
def N4{p:α->Bool}{l:Qaa}{j:Nat}{x:α}(h:l[j]? = some x)(a:p x=true):l.any p=true:=List.any_eq_true.2 ⟨x,kA h,a⟩
theorem any_none{p:α->Bool}{l:Qaa}(h:∀(j:Nat) (x:α),l[j]? = some x->p x=false):l.any p=false:=by
 rw[List.any_eq_false];intro x a;obtain⟨j,b,e⟩:=y3 a;rw[h j x WA];decide
noncomputable def AZ(a mo:Int)(bs:AT):Int:=if a=-1 then mo else bs.getD a.toNat 0+mo
inductive Ct where
 | put (x b m:Int)
 | call (s:Str)
 | say (s:Str) (b m:Int)
noncomputable def Ct.w:Ct->Str
 | .put _ _ _=>"put"
 | .call _=>"call"
 | .say _ _ _=>"say"
def Ct.ds:Ct->BA
 | .put x b m=>[.int x,.tup [.int b,.int m]]
 | .call s=>[.str s]
 | .say s b m=>[.str s,.tup [.int b,.int m]]
def Ct.d(q:Ct):D:=.tup (.str q.w::q.ds)
def L4(bs:AT)(b:Int):Prop:=b=-1\/(0<=b/\b<bs.length)
def Ct.ok(bs:AT):Ct->Prop
 | .put x b _=>(0<=x/\x<bs.length)/\L4 bs b
 | .call _=>True
 | .say _ b _=>L4 bs b
def Ct.row(bs:AT):Ct->J
 | .put x b m=>.put x (bs.getD x.toNat 0) (AZ b m bs)
 | .call s=>.W8 "call" [.str s]
 | .say s b m=>.W8 "say" [.str s,.int (AZ b m bs)]
inductive It where
 | out (m:Int)|keep (m p q:Int)|way (i:Int)|W4 (m:Int)|N5 (q:Ct)
def It.sj:It->J
 | .out m=>.out m
 | .keep m p q=>.keep m p q
 | .way i=>.W8 "way" [.int i]
 | .W4 m=>.W4 m
 | .N5 q=>.W8 q.w q.ds
def It.d(x:It):D:=x.sj.d
def It.j(bs:AT):It->J
 | .N5 q=>q.row bs
 | x=>x.sj
def It.ok(bs:AT):It->Prop
 | .N5 q=>q.ok bs
 | _=>True
noncomputable def w6:At:=["out","put","say","shut","then","to"]
def M6(mk:Str)(i j:Int):Bool:=if mk="<" then decide (i<j) else if mk="<=" then decide (i<=j) else if mk="=" then decide (i=j) else !decide (i=j)
inductive xM where
 | Ea (op:Bool) (m:Int)
 | num (mk:Str) (b1 m1 b2 m2:Int)
def zq:xM->D
 | .Ea op m=>.tup [.str (if op then "open" else "shut"),.int m]
 | .num mk b1 m1 b2 m2=>.tup [.str mk,.tup [.int b1,.int m1],.tup [.int b2,.int m2]]
noncomputable def xb:At:=["<","<=","=","!="]
def xM.Ok(n:Nat)(bs:AT):xM->Prop
 | .Ea _ m=>0<=m/\m<n
 | .num mk b1 _ b2 _=>mk∈xb/\(b1=-1\/(0<=b1/\b1<bs.length))/\(b2=-1\/(0<=b2/\b2<bs.length))
def abC(a:xM):(zq a).m7=true:=by cases a<;>rfl
def Kp(es:AT)(t u:Int):Bool:=decide (t=u) || (decide (t=-1) || decide (u=-1)) || (decide (u∈bV es t) || decide (t∈bV es u))
theorem abD{a c:Int}:Kf dS es a c=-1\/Kf dS es a c∈bV es a:=by
 unfold Kf;cases e:(bV es a).find? _ with
 | none=>exact .inl rfl
 | some x=>exact .inr (IF e)
def HU(ks:At)(es:AT)(w v:bM):Bool:=(!decide (w.jj=-1) && !decide (v.jj=-1))&&Kp es Qcp (j9 ks es v)
def ao9(w v:bM):HU ks es w v=HU ks es v w:=by
 unfold HU Kp;simp[Bool.and_comm (!decide (w.jj=-1))];have e1:decide (j9 ks es w=j9 ks es v)=decide (j9 ks es v=j9 ks es w):=by simp[eq_comm]
 rw[e1,Bool.or_comm (decide (j9 ks es w=-1)),Bool.or_comm (decide (j9 ks es v∈bV es _))]
noncomputable def awy:D->Int
 | .tup (_::_::_::_::.int t::_)=>t
 | _=>0
noncomputable def XJ(ln:AT)(y:Int):Nat:=ln.findIdx (λz=>decide (z=y))
variable{ln:AT}
noncomputable def akS(h:y∈ln):XJ ln y<ln.length:=List.findIdx_lt_length_of_exists ⟨y,h,Wp⟩
def afR(h:y∈ln):ln[XJ ln y]? = some y:=by
 have hl:=akS h;have:=List.findIdx_getElem (w:=hl);exact kf hl▸congrArg _ (l1 this)
def akT(h:i<XJ ln y):ln[i]? ≠ some y:=λe=>by
 have:=List.not_of_lt_findIdx h;rw[(lr.1 e).2]at this;simp at this
def XM(ops:AT):D->Bool
 | .tup [.str k,.int m]=>if k="open" then decide QjX else if k="shut" then !decide QjX else true
 | _=>true
def N6(ops:AT)(l:BA):Bool:=l.all (XM ops)
def xM.JJ:xM->Prop
 | .Ea _ _=>True
 | .num mk _ _ _ _=>mk∈xb
theorem xM.Ok.mk{bs:AT}{a:xM}(h:a.Ok n bs):a.JJ:=by
 cases a with
 | Ea op m=>trivial
 | num mk b1 m1 b2 m2=>exact h.1
def afS{mk:Str}(h:mk∈xb):mk≠"open" /\ mk≠"shut":=by
 have:∀x∈xb,x≠"open" /\ x≠"shut":=by decide +kernel
 exact this mk h
def abE(ops:AT)(op:Bool)(m:Int):XM ops (zq (.Ea op m))=if op then decide QjX else !decide QjX:=by
 cases op
 .rfl
 rfl
def u7(ops:AT)(sg:Str)(ln:AT)(w:bM):Bool:=decide (w.sign=sg)&&(decide (w.src∈ln)&&N6 ops w.asks)
def sv(ws:QR)(ops:AT)(sg:Str)(ln:AT)(n:Nat):Cn:=(List.range n).filter λk=>u7 ops sg ln (ws.getD k w0)
def so(ws:QR)(ops:AT)(sg:Str)(ln:AT):AT:=iR (λk:Int=>(XJ ln (ws.getD k.toNat w0).src:Int)) ((sv ws ops sg ln ws.length).map λ(k:Nat)=>(k:Int))
def Kq(ws:QR)(ops:AT)(sg:Str)(ln:AT)(n:Nat):(sv ws ops sg ln n).length<=n:=by
 have:=oT (λk=>u7 ops sg ln (ws.getD k w0)) (List.range n);rw[nh]at this;exact this
def abF(ws:QR)(ops:AT)(sg:Str)(ln:AT)(n:Nat):sv ws ops sg ln Q4=sv ws ops sg ln n++(if u7 ops sg ln (ws.getD n w0)=true then [n] else []):=by
 unfold sv;rw[ph,p4,List.filter_cons,tf]
def afT(ws:QR)(ops:AT)(sg:Str)(ln:AT):(so ws ops sg ln).length<=ws.length:=by
 unfold so;rw[AI,cK];exact Kq _ _ _ _ _
def Eb(ws:QR):Prop:=∀w∈ws,∃l:List xM,w.asks=l.map zq/\∀a∈l,a.JJ
abbrev Ask:=Str×Int×Int×Int×Int
noncomputable def xN(q:Ask):D:=.tup [.str q.1,.tup [.int q.2.1,.int q.2.2.1],.tup [.int q.2.2.2.1,.int q.2.2.2.2]]
def hQ(bs:AT)(q:Ask):Bool:=M6 q.1 (AZ q.2.1 q.2.2.1 bs) (AZ q.2.2.2.1 q.2.2.2.2 bs)
def N7(l:BA):BA:=l.filter λd=>!decide QqI
abbrev _root_.Da:=List Ask
noncomputable def MO:xM->Da
 | .Ea _ _=>[]
 | .num mk b1 m1 b2 m2=>[(mk,b1,m1,b2,m2)]
theorem afU{bs:AT}{l:List xM}(h:∀a∈l,a.Ok n bs):N7 Qo5=(l.flatMap MO).map xN:=by
 unfold N7
 induction l with
 | nil=>rfl
 | cons a l b=>
  have b:=b λq c=>h q (ij _ c);have d:=h a gk;rw[kn,FR,i5,<- b];cases a with
  | Ea op m=>
   rw[wx]
   .rfl
   .show ¬ (!decide ((if op=true then("open":Str) else "shut")∈(["open","shut"]:At)))=true;grind
  | num mk b1 m1 b2 m2=>
   rw[wt]
   .rfl
   .have:∀x∈xb,(!decide (x∈(["open","shut"]:At)))=true:=by decide +kernel
    exact this mk d.1
def hD(vs:AT):D->Bool
 | .tup [.str mk,.tup [.int b1,.int m1],.tup [.int b2,.int m2]]=>M6 mk (AZ b1 m1 vs) (AZ b2 m2 vs)
 | _=>true
def rD(n:Nat)(bs:AT)(ws:QR):Prop:=∀w∈ws,∃l:List xM,w.asks=l.map zq/\l.length<=12/\∀a∈l,a.Ok n bs
theorem rD.ok{bs:AT}{ws:QR}(h:rD n bs ws):Eb ws:=λw hw=>by
 obtain⟨l,e,_,hl⟩:=h w hw;exact⟨l,e,λa b=>(hl a b).mk⟩
noncomputable def qp(l:AT)(s:Int):AT:=if s∈l then l else l++[s]
noncomputable def MM(ks:At)(x:Int):Bool:=decide Qrd
def Qh(ks:At)(ops:AT):AT:=ops.filter (MM ks)
variable{sg:Str}
theorem Kr{ws:QR}(h:k∈so ws ops sg ln):0<=k/\k<ws.length:=by
 obtain⟨i,hi,rfl⟩:=ip.1 (Ie.1 h);have:=ma.1 (l7.1 hi).1;lia
noncomputable def XO(h:Cf)(tp:QhB)(tm:QgF)(s:QhH)(k:Int):AT×AT:=
 if h k=true then(if s.2.any (tm (tp k))=true then s else(s.1++[k],s.2++[tp k])) else(s.1++[k],s.2)
def abG(es:AT)(t u:Int):Kp es t u=Kp es u t:=by
 unfold Kp;have e1:decide (t=u)=decide (u=t):=by simp[eq_comm]
 rw[e1,Bool.or_comm (decide (t=-1)),Bool.or_comm (decide (u∈bV es t))]
def XQ(es:AT)(ws:QR)(k:Int):Int:=-((bV es (gC ws k).src).length:Nat)
def nC(ks:At)(es:AT)(ws:QR)(l:AT):AT×AT:=l.foldl QhP ([],[])
def abI(ks:At)(es:AT)(ws:QR)(l:AT)(k:Int):nC ks es ws (l++[k])=XO Qdm Qpo (Kp es) (nC ks es ws l) k:=by
 unfold nC;simp
theorem afV{h:Cf}{tp:QhB}{tm:QgF}(s:QhH)(k:Int):(XO h tp tm s k).1.length<=s.1.length+1/\(XO h tp tm s k).2.length<=s.2.length+1:=by
 unfold XO;split
 .split
  .lia
  .simp
 .simp
theorem Vs(ks:At)(es:AT)(ws:QR):∀l:AT,(nC ks es ws l).1.length<=l.length/\(nC ks es ws l).2.length<=l.length:=by
 have gen:∀(l:Qec) (s:List _×List _),(l.foldl QhP s).1.length<=s.1.length+l.length/\(l.foldl QhP s).2.length<=s.2.length+l.length:=by
  intro l
  induction l with
  | nil=>simp
  | cons k l a=>
   intro s;have h1:=afV (h:=nL ws) (tp:=λk=>j9 ks es Qi3) (tm:=Kp es) s k;have h2:=a (XO Qdm Qpo (Kp es) s k);simp;lia
 intro l;have:=gen l ([],[]);simpa [nC] using this
def NN(ks:At)(es:AT)(ws:QR)(row:AT):AT:=sortI (nC ks es ws (iR Qb0 row)).1
abbrev Pl:=AT×AT
def pO(m:Nat)(a:Int):Prop:=a=-1\/(0<=a/\a<(m:Int))
def Tu(m:Nat):It->Prop
 | .N5 (.put i a _)=>(0<=i/\i<(m:Int))/\pO m a
 | .N5 (.say _ a _)=>pO m a
 | _=>True
def Y8(m:Nat)(d:D):Prop:=∃q:Ct,d=q.d/\Tu m (.N5 q)
def wb(m:Nat)(d:D):Prop:=∃x:It,d=x.d/\Tu m x
variable{m:Nat}
theorem Y8.it{d:D}(h:Y8 m d):wb m d:=by
 obtain⟨q,rfl,a⟩:=h;exact⟨ _,rfl,a⟩
theorem Ks{P:D->Prop}{l:EU}(h:∀a∈l,∀d∈a,P d)(k:Nat):∀d∈l.getD k [],P d:=λd hd=>by
 simp at hd;cases e:l[k]? with
 | none=>rw[e]at hd;cases hd
 | some a=>rw[e]at hd;exact h a (kA e) d hd
structure CH where
 bs:List QoG
 nm:BA
 ks:At
 es:AT
 ss:AT
 is:EU
 os:EU
 ws:List bM
def CH.d(c:CH):D:=fz QdP c.nm (dG c.ks c.es c.ss) QnO (c.os.map .tup) Qjz
structure CH.Ok(c:CH):Prop where
 k:oE c.ks c.es c.ss c.is c.os c.ws
 q:∀bs:AT,bs.length=c.bs.length->rD c.es.length bs c.ws
 i:∀l∈c.is,∀d∈l,Y8 c.bs.length d
 o:∀l∈c.os,∀d∈l,Y8 c.bs.length d
 w:∀w∈c.ws,∀d∈w.lG,Y8 c.bs.length d
 nl:c.nm.length=c.es.length
 bl:c.bs.length<=1000
structure Gd(c:CH)(p:Pl):Prop where
 s:p.1.Pairwise (· < ·)
 b:∀x∈p.1,0<=x/\x<c.es.length
 m:BR c.ks c.es p.2
def ML(c:CH)(p:Pl)(a:AT):BA:=z3 c.ks c.es c.ss c.is c.os c.ws p.2 p.1 a
def toN(c:CH)(p:Pl)(a:AT):Pl:=(z4 c.ks c.es c.ss Ql0 p.1 Qda,Y7 c.ks c.es c.ws p.2 p.1 Qda)
def apc{t:Int}(h:Kp es t u=false):Ap es t u:=by
 unfold Kp at h;simp at h;exact⟨h.1.2.1,h.1.2.2,h.1.1,h.2.2,h.2.1⟩
variable{c:CH}
def Ku(h:c.Ok){p:Pl}{a:AT}(hs:QvA):∀d∈ML c p a,wb c.bs.length d:=λd hd=>by
 obtain z|z:=iw.1 hd
 .obtain z|z:=iw.1 z
  .obtain⟨m,_,z⟩:=mn.1 z;obtain rfl|z:=fP.1 z
   .exact⟨.out m,rfl,trivial⟩
   .obtain z|z:=iw.1 z
    .split at z
     .rw[kx.1 z];exact⟨.keep m _ _,rfl,trivial⟩
     .cases z
    .exact(Ks h.o _ d z).it
  .obtain⟨i,hi,z⟩:=mn.1 z;obtain rfl|z:=fP.1 z
   .exact⟨.way i,rfl,trivial⟩
   .exact(h.w _ QrJ d z).it
 .obtain⟨m,_,z⟩:=mn.1 z;obtain rfl|z:=fP.1 z
  .exact⟨.W4 m,rfl,trivial⟩
  .exact(Ks h.i _ d z).it
theorem afW(h:c.Ok){p:Pl}(g:Gd c p){a:AT}(hs:QvA):(ML c p a).length<=6000/\Gd c (toN c p a):=by
 obtain⟨j,i,hm⟩:=g;have b:=h.k;have d:=hs.wi b;have e:=NO (ws:=c.ws) i hm Qda;have f:=b.tree e;obtain⟨_,g2⟩:=Im (ks:=c.ks) b.pre.1 j i hs.ap;obtain⟨_,m,_⟩:=D9 f hs.ap d;obtain⟨d1,d2,_⟩:=Po f j i hs.ap d;have n1:=b.n1;have sl:=hs.l;refine⟨?_,d1,d2,e⟩;unfold ML z3;rw[ke,ke];have r:=(Kn (Cr:=lH c.ks c.es c.ws) (mem:=p.2) (bh:=Y7 c.ks c.es c.ws p.2 p.1 Qda) b.or (pA c.ks c.es p.1 Qda)).1;have q:=(Ko (hs.ui b)).1;have o:=(AY b.ir (xK c.ks c.es c.ss Ql0 Qda)).1;have n:(xK c.ks c.es c.ss Ql0 Qda).length<=c.es.length:=by unfold xK;rw[kB];exact m
 lia
def yy(c:CH):Pl:=(Ij c.ks c.es c.ss Qq6 "new" 0,List.replicate c.es.length (-1))
noncomputable def Vt(ks:At)(es:AT):BR ks es Qic:=⟨pz ..,λk a _=>.inl (by rw[kq,LH,cq a];rfl)⟩
def zu(h:c.Ok):e9 (aV c.ks) (bw c.ks) c.es c.ss Qq6:=h.k.tree (Vt ..)
theorem akX(h:c.Ok):Gd c (yy c):=⟨nK (zu h) (far:=eN "new") c.es.length (near:=gU "new") h.k.n0,λx a=>by have:=cA (zu h) (far:=eN "new") c.es.length (near:=gU "new") h.k.n0 x a;lia,Vt ..⟩
variable{j:Nat}
def qq{l:Qaa}{p:α}(h:l[j]? = some p):l.take QF=l.take j++[p]:=by
 rw[rk,h];rfl
noncomputable def toQ:D->Da
 | .tup [.str mk,.tup [.int b1,.int m1],.tup [.int b2,.int m2]]=>[(mk,b1,m1,b2,m2)]
 | _=>[]
def x5(w:bM):Da:=w.asks.flatMap toQ
def vJ(ws:QR)(k:Int):Da:=x5 (ws.getD k.toNat w0)
theorem afX(l:List xM):(l.map zq).flatMap toQ=l.flatMap MO:=by
 induction l with
 | nil=>rfl
 | cons a l b=>
  simp;congr 1;cases a<;>rfl
abbrev _root_.CC:=List (Int×Bool)
noncomputable def XR(hl:CC):List QoX:=hl.map λp=>((Sum.inl p.1:Key),D.bl p.2)
def d7(hl:CC)(w:Int):Option Bool:=(hl.find? λp=>decide (p.1=w)).map (·.2)
def afY(hl:CC)(w:Int):Cm (XR hl) Qd0=(d7 hl w).map D.bl:=by
 unfold Cm XR d7
 induction hl with
 | nil=>rfl
 | cons p hl a=>
  rw[kn,nf,nf];by_cases e:p.1=w
  .subst e;simp
  .have e2:¬ (Sum.inl p.1:Key)=Sum.inl w:=λz=>e (Sum.inl.inj z);rw[kv e2,kv e];exact a
theorem Iq(hl:CC)(w v:Int)(c:Bool):d7 QoH v=(d7 hl v).or (if w=v then some c else none):=by
 unfold d7;rw[List.find?_append];cases e:hl.find? λp=>decide (p.1=v) with
 | some p=>rfl
 | none=>
  by_cases z:w=v
  .subst z;rw[cq rfl];simp[nf]
  .rw[bX z];simp[nf,z]
def afZ{hl:CC}{w:Int}(c:Bool)(h:d7 hl w=none):BO (XR hl) Qd0 (.bl c)=XR QoH:=by
 unfold BO;rw[bX]
 .unfold XR;rw[i5];rfl
 .intro z;obtain⟨d,b,e⟩:=List.any_eq_true.1 z;obtain⟨p,a,rfl⟩:=ip.1 b;have e:=Sum.inl.inj (l1 e);unfold d7 at h;rw[Option.map_eq_none_iff,zd]at h;exact h p a (mu e)
abbrev _root_.ET:=List AT
noncomputable def Aj(r:ET):Nat:=(r.map λl=>l.length+1).sum
def eU(l:AT)(r:ET):Aj Qfx=l.length+1+Aj r:=rfl
abbrev _root_.CS:=List (Da×AT)
def ID(ws:QR)(go:Da->AT->CC->CS):AT->Da->AT->CC->CS
 | [],q,p,h=>go q p h
 | w::l,q,p,h=>
  if vJ ws w=[]\/d7 h w=some true then go q Qdk h
  else if d7 h w=some false then ID ws go l q p h
  else go Qka Qdk Qn9++ID ws go l q p QnV
def tH(ws:QR):ET->Da->AT->CC->CS
 | [],q,p,_=>[(q,p)]
 | l::r,q,p,h=>ID ws (tH ws r) l q p h
variable{ws:QR}{q:Da}{p:AT}{h:CC}{w:Int}{r:ET}
def Kv:tH ws [] q p h=[(q,p)]:=rfl
def zx:tH ws ([]::r) q p h=tH ws r q p h:=rfl
def Ec(a:Qil):tH ws Qfy q p h=tH ws r q Qdk h:=cq a
def Ed(a:¬ Qil)(hf:d7 h w=some false):tH ws Qfy q p h=tH ws Qfx q p h:=(bX a).trans (cq hf)
theorem zy(a:¬ vJ ws w=[])(hn:d7 h w=none):tH ws Qfy q p h=tH ws r Qka Qdk Qn9++tH ws Qfx q p QnV:=(bX λz=>z.elim a λz=>by simp_all).trans (bX λz=>by simp_all)
theorem BU(h:CC)(w:Int):d7 h w=some true\/d7 h w=some false\/d7 h w=none:=by
 cases d7 h w with
 | none=>exact .inr Qay
 | some b=>cases b<;>simp
theorem Vu{P:ET->Da->AT->CC->Prop}
  (h0:∀q p h,P [] q p h) (h1:∀r q p h,P r q p h->P ([]::r) q p h)
  (h2:∀w l r q p h,Qil->P r q Qdk h->P Qfy q p h)
  (g:∀w l r q p h,¬ Qil->d7 h w=some false->P Qfx q p h->P Qfy q p h)
  (f:∀w l r q p h,¬ vJ ws w=[]->d7 h w=none->P r Qka Qdk Qn9->P Qfx q p QnV->P Qfy q p h) :
  ∀(n:Nat) (r:ET),Aj r<=n->∀q p h,P r q p h:=by
 intro n
 induction n with
 | zero=>
  intro r a q p h;cases r with
  | nil=>exact h0 q p h
  | cons l r=>rw[eU]at a;lia
 | succ n c=>
  intro r a q p h
  match r,a with
  | [],_=>exact h0 q p h
  | []::r,a=>
   rw[eU]at a;exact h1 r q p h (c r We q p h)
  | (w::l)::r,a=>
   rw[eU,mi]at a;have i1:=c r We;have d:=c Qfx (by rw[eU];lia);by_cases b:vJ ws w=[]\/d7 h w=some true
   .exact h2 w l r q p h b (i1 _ _ _)
   .obtain z|z|z:=BU h w
    .exact absurd (.inr z) b
    .exact g w l r q p h b z (d _ _ _)
    .exact f w l r q p h (λe=>b Qhp) z (i1 _ _ _) (d _ _ _)
structure Gm where
 i:Nat
 j:Nat
 qs:Da
 pk:AT
 hl:CC
def Kw(s:Gm):D:=.tup [.int s.i,.int s.j,.tup (s.qs.map xN),.tup (s.pk.map .int),.jt (XR s.hl)]
def oD(x:QfQ):D:=.tup [.tup (x.1.map xN),.tup (x.2.map .int)]
noncomputable def Vv(s:Gm):Gm:=⟨s.i+1,0,s.qs,s.pk,s.hl⟩
def Y9(s:Gm):Gm:=⟨s.i,s.j+1,s.qs,s.pk,s.hl⟩
def nv(s:Gm)(w:Int):Gm:=⟨s.i,s.j,s.qs,qp s.pk w,s.hl⟩
def zA(R:ET)(s:Gm):ET:=if s.i<R.length then(R.getD s.i []).drop s.j::R.drop (s.i+1) else []
def o9(ws:QR)(R:ET)(s:Gm):CS:=tH ws Qht s.qs s.pk s.hl
def nZ(ws:QR)(R:ET)(s:Gm):List Gm:=
 if s.j=(R.getD s.i []).length then [Vv s]
 else if vJ ws ((R.getD s.i []).getD s.j 0)=[]\/d7 s.hl ((R.getD s.i []).getD s.j 0)=some true then [Vv (nv s ((R.getD s.i []).getD s.j 0))]
 else if d7 s.hl ((R.getD s.i []).getD s.j 0)=some false then [Y9 s]
 else [Y9 ⟨s.i,s.j,s.qs,s.pk,s.hl++[((R.getD s.i []).getD s.j 0,false)]⟩,Vv (nv ⟨s.i,s.j,s.qs++vJ ws ((R.getD s.i []).getD s.j 0),s.pk,s.hl++[((R.getD s.i []).getD s.j 0,true)]⟩ ((R.getD s.i []).getD s.j 0))]
variable{R:ET}
theorem oF(i j:Nat)(q:Da)(p:AT)(h:CC):zA R (Vv ⟨i,j,q,p,h⟩)=R.drop Qbe:=by
 unfold zA Vv;simp_all
def af1(l:AT)(s:Int):(qp l s).length<=l.length+1:=by
 unfold qp;split<;>simp
structure xa(M N:Nat)(ws:QR)(R:ET)(s:Gm):Prop where
 i1:s.i<=R.length
 j1:s.j<=(R.getD s.i []).length
 q1:s.qs.length+100*Aj Qht<=100*M
 p1:s.pk.length+Aj Qht<=M
 h1:s.hl.length+Aj Qht<=M
def nt(R:ET)(s:Gm):Nat:=3 ^ Aj Qht
theorem akY{M N:Nat}{s:Gm}(h:xa M N ws R s)(hi:s.i<R.length)(C:∀w,(vJ ws w).length<=100) :
  (∀t∈nZ ws R s,xa M N ws R t)/\o9 ws R s=((nZ ws R s).reverse.map Qku).flatten/\((nZ ws R s).map (nt R)).sum<nt R s/\(nZ ws R s).length<=2:=by
 obtain⟨i,j,q,p,hl⟩:=s;obtain⟨k,u,v,x,d⟩:=h;dsimp only at k u v x d hi;have B:zA R ⟨i,j,q,p,hl⟩=(R.getD i []).drop j::R.drop Qbe:=by unfold zA;rw[cq hi]
 have f:∀(a:Da) (b:AT) (h':CC) (o:Nat),o=Aj QeY->a.length+100*o<=100*M->b.length+o<=M->h'.length+o<=M->xa M N ws R (Vv ⟨i,j,a,b,h'⟩):=λa b h' o e a1 a2 a3=>by
  have e2:=oF (R:=R) i j a b h';exact⟨by show i+1<=R.length;lia,i8 _,by rw[e2,<- e];exact a1,by rw[e2,<- e];exact a2,by rw[e2,<- e];exact a3⟩
 unfold nZ;dsimp only;rw[B]at v x d;rw[eU,vh]at v x d;unfold o9 nt;rw[B];by_cases A:j=(R.getD i []).length
 .rw[cq A];refine⟨λt c=>?_,?_,?_,iq rfl⟩
  .rw[kx.1 c];exact f _ _ _ _ rfl We We We
  .show tH ws _ _ _ _=tH ws QjF _ _ _++[];rw[js,oF,List.drop_eq_nil_of_le We,zx];rfl
  .show 3 ^ Aj QjF+0<_;rw[oF,eU];exact Nat.pow_lt_pow_right Wm We
 .rw[bX A];have y:j<(R.getD i []).length:=by lia
  have D:(R.getD i []).drop j=(R.getD i []).getD j 0::(R.getD i []).drop QF:=by
   rw[tJ y,kq (l:=R.getD i []),kf y];rfl
  have hw:=C ((R.getD i []).getD j 0);rw[D];generalize (R.getD i []).getD j 0=w at hw ⊢;have F:=af1 p w;have n:∀(a:Da) (b:AT) (h':CC),zA R QsC=(R.getD i []).drop QF::R.drop Qbe:=λa b h'=>by unfold zA Y9;dsimp only;rw[if_pos hi]
  have m:∀(a:Da) (b:AT) (h':CC),a.length<=q.length->b.length<=p.length->h'.length<=hl.length+1->xa M N ws R QsC:=λa b h' a1 a2 a3=>by
   have e2:=n a b h';refine⟨k,by show j+1<=(R.getD i []).length;lia,?_,?_,?_⟩
   .rw[e2,eU,vh];show a.length+_<=_;lia
   .rw[e2,eU,vh];show b.length+_<=_;lia
   .rw[e2,eU,vh];show h'.length+_<=_;lia
  by_cases g:vJ ws w=[]\/d7 hl w=some true
  .rw[cq g];refine⟨λt c=>?_,?_,?_,iq rfl⟩
   .rw[kx.1 c];exact f q Qdk hl _ rfl We We We
   .show tH ws _ _ _ _=tH ws QuI _ _ _++[];rw[js,show nv ⟨i,j,q,p,hl⟩ w=⟨i,j,q,qp p w,hl⟩ from rfl,oF,Ec g];rfl
   .show 3 ^ Aj QuI+0<_;rw[show nv ⟨i,j,q,p,hl⟩ w=⟨i,j,q,qp p w,hl⟩ from rfl,oF,eU];exact Nat.pow_lt_pow_right Wm We
  .rw[bX g];by_cases hf:d7 hl w=some false
   .rw[cq hf];refine⟨λt c=>?_,?_,?_,iq rfl⟩
    .rw[kx.1 c];exact m _ _ _ (ik _) (ik _) We
    .show tH ws _ _ _ _=tH ws QjG _ _ _++[];rw[js,n,Ed g hf];rfl
    .show 3 ^ Aj QjG+0<_;rw[n,eU,eU,mi];exact Nat.pow_lt_pow_right Wm We
   .rw[bX hf];have hn:d7 hl w=none:=by
     obtain z|z|z:=BU hl w
     .exact absurd (.inr z) g
     .exact absurd z hf
     .exact z
    have r:¬ vJ ws w=[]:=λz=>g QdV;have E:nv ⟨i,j,q++vJ ws w,p,hl++[(w,true)]⟩ w=⟨i,j,q++vJ ws w,qp p w,hl++[(w,true)]⟩:=rfl;rw[E];refine⟨λt c=>?_,?_,?_,iq rfl⟩
    .simp only[fP,km,or_false]at c;obtain rfl|rfl:=c
     .exact m _ _ _ (ik _) (ik _) (by rw[ke];simp)
     .refine f _ _ _ _ rfl ?_ We (by rw[ke,rr];lia);rw[ke];lia
    .show tH ws _ _ _ _=tH ws QjF _ _ _++(tH ws QjG _ _ _++[]);rw[js,oF,n,zy r hn];rfl
    .show 3 ^ Aj QjG+(3 ^ Aj QjF+0)<_;rw[oF,n,eU,eU,mi,vh];have a1:3 ^ Aj QeY<=3 ^ ((R.getD i []).length-QF+1+Aj QeY):=Nat.pow_le_pow_right Wm We;have a2:3 ^ ((R.getD i []).length-QF+1+1+Aj QeY)=3 ^ ((R.getD i []).length-QF+1+Aj QeY)*3:=by rw[<- Nat.pow_succ];congr 1;lia
     have a3:0<3 ^ ((R.getD i []).length-QF+1+Aj QeY):=Nat.pow_pos Wm;lia
def Rt(ws:QR):Prop:=∀w∈ws,w.asks.length<=100/\D.bf w.asks=true/\(∀d∈w.asks,∃x r,d=.tup (.str x::r))/\N7 w.asks=(x5 w).map xN
theorem Rt.len(h:Rt ws)(k:Int):(vJ ws k).length<=100:=by
 unfold vJ;by_cases a:k.toNat<ws.length
 .rw[kq,kf a];have g:=h ws[k.toNat] Wp;have e:=congrArg List.length g.2.2.2;simp at e;have:=oT (λd=>!decide QqI) ws[k.toNat].asks;unfold N7 at e;show(x5 ws[k.toNat]).length<=100;lia
 .rw[kq,List.getElem?_eq_none We];exact i8 _
noncomputable def LA(R:ET):D:=.lst Qry
def xO(ws:QR)(ops:AT)(sg:Str)(es l:AT):ET:=l.map λm=>so ws ops sg (m::bV es m)
noncomputable def OM(R:ET):T:=.lst Qqa
theorem Ef:∀R:ET,T.cD Qqa=R.map λl=>D.lst QbY
 | []=>rfl
 | l::R=>by
  show T.cD (T.lst _::R.map _)=_;rw[T.cD,bF,Ef R];rfl
def XS(R:ET):(OM R).cu=LA R:=by unfold OM LA;rw[T.cu,Ef]
theorem OK(R:ET):zA R ⟨0,0,[],[],[]⟩=R:=by
 cases R with
 | nil=>rfl
 | cons l R=>rfl
def abO:∀r∈xO ws ops sg es l,(∀w∈r,0<=w/\w<(ws.length:Int))/\r.length<=ws.length:=λr a=>by
 obtain⟨m,_,rfl⟩:=ip.1 a;exact⟨λw hw=>Kr hw,afT _ _ _ _⟩
theorem akZ{k:Nat}(h:∀r∈R,r.length<=k):Aj R<=R.length*QaM:=by
 induction R with
 | nil=>exact i8 _
 | cons l R a=>
  have:=a λr b=>h r (ij _ b);have:=h l gk;rw[eU,mi];lia
abbrev oi:=Cc
variable{hs bg pr:BA}{R:D}{TR:T}
noncomputable def Gn(bs hs bg pr:BA)(R:D):List (Str×D):=[("boxes",.lst bs),("signs",.lst hs),("begin",.tup bg),("flats",.lst pr),("rows",R)]
noncomputable def N8(bs hs bg pr:BA)(t:T):BS:=[("boxes",.lst (bs.map T.sh)),("signs",.lst (hs.map T.sh)),("begin",.sh (.tup bg)),("flats",.lst (pr.map T.sh)),("rows",t)]
def N9:List.lookup ("boxes":Str) Qgw=some (.lst bs):=by
 unfold Gn;rw[vD]
def Oa:List.lookup ("signs":Str) Qgw=some (.lst hs):=by
 unfold Gn;rw[JM Wl,vD]
def Ob:List.lookup ("begin":Str) Qgw=some (.tup bg):=by
 unfold Gn;rw[JM Wl,JM Wl,vD]
def Oc:List.lookup ("flats":Str) Qgw=some (.lst pr):=rfl
def Ru:List.lookup ("rows":Str) Qgw=some R:=rfl
def XT:List.lookup ("rows":Str) (N8 bs hs bg pr TR)=some TR:=by
 rfl
def XU{y:Addr}{l:List (oi×T)}{t2:T}:T.lV [.fld "rows"] t2 (.pin y (.ins "Table" (N8 bs hs bg pr (.dct l))))=.pin y (.ins "Table" (N8 bs hs bg pr t2)):=rfl
noncomputable def d8(kvs:QcU):List (oi×T):=kvs.map λq=>(q.1,T.lst Qog)
noncomputable def mF(kvs:QcU):List (oi×D):=kvs.map λq=>(q.1,D.lst q.2)
def Od(bs hs bg pr:BA)(kvs:QcU):BS:=N8 bs hs bg pr (.dct (d8 kvs))
def Ck(bs hs bg pr:BA)(kvs:QcU):D:=.ins "Table" (Gn bs hs bg pr (.dct Qhq))
theorem A0(kvs:QcU):T.WM (d8 kvs)=mF kvs:=by
 induction kvs with
 | nil=>rfl
 | cons q r a=>
  show T.WM ((q.1,T.lst _)::d8 r)=(q.1,D.lst q.2)::mF r;rw[T.WM,bF,a]
def abP(bs hs bg pr:BA)(kvs:QcU):T.cu QqW=Ck bs hs bg pr kvs:=by
 unfold Od N8 Ck Gn;rw[T.cu,T.sZ,T.sZ,T.sZ,T.sZ,T.sZ,T.sZ,bF,bF,bF,T.cu,T.cu,A0]
theorem Vw{l:List (oi×α)}(nd:(l.map (·.1)).Nodup){k:oi}{x:α}(h:l[j]? = some (k,x)):tu l k=some x:=by
 induction l generalizing j with
 | nil=>simp at h
 | cons p l a=>
  rw[kn,l4]at nd;cases j with
  | zero=>
   simp at h;subst h;exact yS rfl
  | succ j=>
   rw[yT λe=>nd.1 (e▸ip.2 ⟨ _,kA h,rfl⟩)];exact a nd.2 h
def Eg(kvs:QcU):(mF kvs).map (·.1)=kvs.map (·.1):=by
 unfold mF;rw[i0];rfl
def Rw(kvs:QcU):(d8 kvs).map (·.1)=kvs.map (·.1):=by
 unfold d8;rw[i0];rfl
abbrev lY:=Da×BA×Nat
def Rx(r:lY):D:=.tup [.tup (r.1.map xN),.tup r.2.1,.int (r.2.2:Nat)]
noncomputable def lZ(p:Pl):D:=.tup [.tup (p.1.map .int),.tup (p.2.map .int)]
abbrev _root_.Db:=List Pl
structure GS where
 fl:Db
 rs:List QnW
 sp:Nat
noncomputable def CZ(n:Nat)(x:Str):oi:=[.inl (n:Int),.inr x]
def iu(l:List QnW):List (oi×BA):=l.map λq=>(q.1,q.2.map Rx)
noncomputable def Kx(n:Nat):BA:=(List.range n).map λ(i:Nat)=>D.int (i:Int)
variable{cd:D}{mo:Nat}{fl pl rs s:T}
noncomputable def Ir(cd:D)(mo:Nat)(fl pl rs s:T):BS:=[("chart",.sh cd),("most",.sh (.int mo)),("flats",fl),("places",pl),("rows",rs),("spare_rows",s)]
def lI:List.lookup ("chart":Str) QcA=some (.sh cd):=by unfold Ir;rw[vD]
def Vx:List.lookup ("most":Str) QcA=some Qci:=rfl
def eV:List.lookup ("flats":Str) QcA=some fl:=rfl
def gQ:List.lookup ("places":Str) QcA=some pl:=rfl
def C1:List.lookup ("rows":Str) QcA=some rs:=rfl
def t7:List.lookup ("spare_rows":Str) QcA=some s:=rfl
def af3(t:T):qN "flats" t QcA=Ir cd mo t pl rs s:=rfl
def af4(t:T):qN "places" t QcA=Ir cd mo fl t rs s:=rfl
def af5(t:T):qN "spare_rows" t QcA=Ir cd mo fl pl rs t:=rfl
variable{f:Str}{fs:BS}
def iy{y:Addr}{t:T}(h:Qgg)(q:T.lF [] t=some t:=by rfl):T.lF [.fld f] Qjh=some t:=by
 show(List.lookup f fs).bind _=_;rw[h];exact q
def Ky{y:Addr}{t:T}(h:Qgg):T.xl [.fld f] Qjh=some t:=by
 show(List.lookup f fs).bind _=_;rw[h];rfl
def abQ{y:Addr}{gs:BS}{t u:T}(h:Qgg)(e:qN f u fs=gs):T.Xs [.fld f] u Qjh=.pin y (.ins "Growth" gs):=by
 have a:(T.core Qjh).UZ (.fld f)=some t:=h;rw[T.Xs,a,<- e];rfl
def MN(cd:D)(mo:Nat)(w:World)(s:GS):BS:=Ir cd mo Qro (.j5 w QeU (Kx s.fl.length)) Qpk Qnh
theorem Eh:∀{a c:AT},a.map D.int=c.map D.int->a=c
 | [],[],_=>rfl
 | [],_::_,h=>by cases h
 | _::_,[],h=>by cases h
 | x::a,y::c,h=>by
  injection h with h1 h2;injection h1 with h1;rw[h1,Eh h2]
def C2{p q:Pl}(h:lZ p=lZ q):p=q:=by
 injection h with h;injection h with h1 h2;injection h1 with h1;injection h2 with h2 _;injection h2 with h2;exact Prod.ext (Eh h1) (Eh h2)
def zB{l:Db}{p:Pl}:lZ p∈l.map lZ↔p∈l:=by
 constructor
 .intro h;obtain⟨q,a,e⟩:=ip.1 h;exact C2 e▸a
 .exact List.mem_map_of_mem
theorem Vy{p:Pl}:∀l:Db,(l.map lZ).idxOf (lZ p)=l.idxOf p
 | []=>rfl
 | q::l=>by
  rw[kn,List.idxOf_cons,List.idxOf_cons,Vy l];by_cases e:q=p
  .subst e;simp
  .have e2:=λz=>e (C2 z);rw[beq_false_of_ne e,beq_false_of_ne e2]
def XW{l:Db}(h:QfP):(l.map lZ).Nodup:=by
 rw[List.nodup_iff_pairwise_ne,List.pairwise_map];exact(List.nodup_iff_pairwise_ne.1 h).imp λz e=>z (C2 e)
def vK(p:Pl):qU 8 (lZ p):=.tup λd hd=>by
 obtain rfl|hd:=fP.1 hd
 .exact .tup λx a=>by obtain⟨i,_,rfl⟩:=ip.1 a;exact .int _ _
 .cases kx.1 hd;exact .tup λx a=>by obtain⟨i,_,rfl⟩:=ip.1 a;exact .int _ _
def af6(p:Pl)(w b:World):(lZ p).xu w=(lZ p).xu b:=by
 refine Kc λd hd=>?_;obtain rfl|hd:=fP.1 hd
 .exact Kc λx a=>by obtain⟨i,_,rfl⟩:=ip.1 a;rfl
 .cases kx.1 hd;exact Kc λx a=>by obtain⟨i,_,rfl⟩:=ip.1 a;rfl
def Kz(l:Db)(w a:World):∀d∈l.map lZ,d.xu w=d.xu a:=λd hd=>by
 obtain⟨p,_,rfl⟩:=ip.1 hd;exact af6 p w a
theorem RI{l:Db}(h:QfP)(hl:l.length<=1000):zv (l.map lZ):=⟨λd hd=>by obtain⟨p,_,rfl⟩:=ip.1 hd;exact vK p,XW h,WE⟩
def af7(h:i<n):(Kx n)[i]? = some (.int (i:Int)):=by
 unfold Kx;rw[j2,oI h];rfl
def XY(n:Nat):Kx n++[.int (n:Int)]=Kx Q4:=by
 unfold Kx;rw[ph,i5];rfl
noncomputable def t8(fl:Db)(p:Pl):Db:=if p∈fl then fl else fl++[p]
noncomputable def Za(fl:Db)(p:Pl):Nat:=if p∈fl then fl.idxOf p else fl.length
theorem Vz{fl:Db}(h:fl.Nodup)(p:Pl):(t8 fl p).Nodup/\Za fl p<(t8 fl p).length/\fl.length<=(t8 fl p).length/\(t8 fl p).length<=fl.length+1/\(t8 fl p)[Za fl p]? = some p:=by
 unfold t8 Za;by_cases b:p∈fl
 .rw[cq b,cq b];have:=List.idxOf_lt_length_of_mem b;refine⟨h,this,Wp,Wp,?_⟩;simp_all
 .rw[bX b,bX b];refine⟨?_,Wp,Wp,Wp,?_⟩
  .rw[l2];exact⟨h,Wp,λa f c d e=>by simp_all ⟩
  .rw[y1 Wp,Nat.sub_self];rfl
def KC{t:T}(h:Qgg)(q:T.lF [] t=some t:=by rfl):T.lF [.fld f] Qh5=some t:=by
 show(List.lookup f fs).bind _=_;rw[h];exact q
def af8(p:Pl):t8 [] p=[p]:=by unfold t8;rw[bX km];rfl
def af9{gs:BS}{t u:T}(h:Qgg)(e:qN f u fs=gs)(q:T.lV [] u t=u:=by rfl):T.lV [.fld f] u Qh5=.ins "Growth" gs:=by
 have a:(T.core Qh5).UZ (.fld f)=some t:=h;rw[T.lV,a,<- e];show T.ins _ _=_;rw[q]
def abS(n:Nat):(List.replicate n [D.int (-1)]).flatten=(List.replicate n (-1:Int)).map D.int:=by simp
theorem rD.g{vs:AT}(h:rD n vs ws):Rt ws:=λw hw=>by
 obtain⟨l,e,hl,b⟩:=h w hw;refine⟨by rw[e,cK];lia,e▸dZ (abC) _,λd hd=>?_,?_⟩
 .rw[e]at hd;obtain⟨a,_,rfl⟩:=ip.1 hd;cases a with
  | Ea op m=>exact⟨_,_,rfl⟩
  | num mk b1 m1 b2 m2=>exact⟨_,_,rfl⟩
 .rw[e,afU b];unfold x5;rw[e,afX]
def XZ{G:Int->Prop}(r:ET)(q:Da)(p:AT)(h:CC):p.Nodup->(∀k∈p,G k)->(∀l∈r,∀w∈l,G w)->∀x∈tH ws r q p h,x.2.Nodup/\∀k∈x.2,G k:=by
 have add:∀{p:AT} {w:Int},p.Nodup->(∀k∈p,G k)->G w->(qp p w).Nodup/\∀k∈qp p w,G k:=λ{p w} nd b hw=>by
  unfold qp;split
  .exact⟨nd,b⟩
  .rename_i hn;refine⟨?_,λk o=>?_⟩
   .rw[l2];exact⟨nd,l4.2 ⟨km,nc⟩,λa s c g e=>by cases kx.1 g;exact hn (e▸s)⟩
   .obtain z|z:=iw.1 o
    .exact b k z
    .cases kx.1 z;exact hw
 refine Vu (ws:=ws) (P:=λr q p h=>p.Nodup->(∀k∈p,G k)->(∀l∈r,∀w∈l,G w)->∀x∈tH ws r q p h,x.2.Nodup/\∀k∈x.2,G k) ?_ ?_ ?_ ?_ ?_ (Aj r) r (ik _) q p h
 .intro q p h nd b _ x f;rw[Kv]at f;rw[kx.1 f];exact⟨nd,b⟩
 .intro r q p h i nd b d;rw[zx];exact i nd b λl hl=>d l Qhl
 .intro w l r q p h g i nd b d;rw[Ec g];obtain⟨a1,a2⟩:=add nd b (d _ gk w gk);exact i a1 a2 λl hl=>d l Qhl
 .intro w l r q p h g hf i nd b d;rw[Ed g hf];refine i nd b λm hm=>?_;obtain rfl|hm:=fP.1 hm
  .exactλv hv=>d _ gk v Qfa
  .exact d m Qhm
 .intro w l r q p h n hn i1 j nd b d x f;rw[zy n hn]at f;obtain z|z:=iw.1 f
  .obtain⟨a1,a2⟩:=add nd b (d _ gk w gk);exact i1 a1 a2 (λl hl=>d l Qhl) x z
  .refine j nd b (λm hm=>?_) x z;obtain rfl|hm:=fP.1 hm
   .exactλv hv=>d _ gk v Qfa
   .exact d m Qhm
def qG(c:CH)(l:AT):AT:=NN c.ks c.es c.ws l
def F5(c:CH)(p:Pl)(sg:Str):CS:=tH c.ws (xO c.ws p.1 sg c.es (Qh c.ks p.1)) [] [] []
theorem OH{p:Pl}(g:Gd c p):p.1.length<=c.es.length:=iJ (g.s.imp λh e=>by lia) g.b
def Ei{p:Pl}(sg:Str):∀x∈F5 c p sg,x.2.Nodup/\∀k∈x.2,0<=k/\k<c.ws.length:=by
 refine XZ _ _ _ _ Wp Wp λl hl w hw=>?_;obtain⟨m,hm,rfl⟩:=ip.1 hl;exact Kr hw
structure LP(h:Cf)(tp:QhB)(tm:QgF)(P:AT)(s:QhH):Prop where
 sub:s.1.Sublist P
 Cu:s.2=(s.1.filter h).map tp
 apart:∀a∈s.1,∀b∈s.1,a≠b->h a=true->h b=true->tm (tp a) (tp b)=false
theorem RF{h:Cf}{tp:QhB}{tm:QgF}(k:∀a b,tm a b=tm b a):∀(l P:AT) (s:QhH),LP h tp tm P s->LP h tp tm (P++l) (l.foldl (XO h tp tm) s)
 | [],P,s,I=>by rw[js];exact I
 | x::l,P,s,I=>by
  rw[show P++x::l=(P++[x])++l by simp,List.foldl_cons];refine RF k l (P++[x]) _ ?_;have keep:(∀z∈s.1,h x=true->h z=true->tm (tp x) (tp z)=false)->∀t,t=((s.1++[x]).filter h).map tp->LP h tp tm (P++[x]) (s.1++[x],t):=λhz t m=>by
   refine⟨I.sub.append (nk _),m,λa d b c ne i g=>?_⟩;obtain d|d:=iw.1 d
   .obtain c|c:=iw.1 c
    .exact I.apart a d b c ne i g
    .rw[kx.1 c]at g ⊢;rw[k];exact hz a d g i
   .rw[kx.1 d]at i ne ⊢;obtain c|c:=iw.1 c
    .exact hz b c i g
    .exact absurd (kx.1 c).symm ne
  unfold XO;by_cases f:h x=true
  .rw[cq f];by_cases d:s.2.any (tm (tp x))=true
   .rw[cq d];exact⟨I.sub.trans Qru,I.Cu,I.apart⟩
   .rw[bX d];refine keep (λz hz _ j=>?_) _ ?_
    .cases e:tm (tp x) (tp z) with
     | false=>rfl
     | true=>exact absurd (List.any_eq_true.2 ⟨tp z,by rw[I.Cu];exact ip.2 ⟨z,l7.2 ⟨hz,j⟩,rfl⟩,e⟩) d
    .rw[p4,wt f];simp[I.Cu]
  .rw[bX f];refine keep (λz hz j _=>absurd j f) _ ?_;rw[p4,wx f];simp[I.Cu]
theorem C3(h:c.Ok)(nd:QfP)(pk:∀k∈l,0<=k/\k<c.ws.length):t6 c.ks c.es c.ws (qG c l):=by
 have b:=RF (h:=nL c.ws) (tp:=λk=>j9 c.ks c.es (gC c.ws k)) (abG c.es) (iR (XQ c.es c.ws) l) [] ([],[]) ⟨.slnil,rfl,λa q=>(by cases q)⟩;rw[ri]at b;have sub:∀k∈qG c l,k∈l:=λk p=>(qV _).mem_iff.1 (b.sub.subset (gP.1 p));have snd:(qG c l).Nodup:=(sortI_perm _).nodup_iff.2 (List.Nodup.sublist b.sub ((qV _).nodup_iff.2 nd));refine⟨λi hi=>pk i (sub i hi),?_,?_⟩
 .have:=iJ (n:=c.ws.length) snd λx m=>pk x (sub x m);have:=h.k.wl;lia
 .unfold rC;rw[List.pairwise_map];have:(qG c l).Pairwise λx y=>x≠y:=snd;refine((this.sublist List.filter_sublist).imp_of_mem λ{x y} m o e=>?_);obtain⟨j,g⟩:=l7.1 m;obtain⟨f,d⟩:=l7.1 o;exact apc (b.apart x (gP.1 j) y (gP.1 f) e g d)
def VA(c:CH)(p:Pl)(x:Qbu)(br:QfQ):Db×List lY:=(t8 x.1 Qc6,x.2++[(br.1,ML c p QaW,Za x.1 Qc6)])
def rf(c:CH)(mo:Nat)(p:Pl)(x:Qbu)(br:QfQ):Prop:=toN c p QaW∉x.1/\x.1.length=mo
instance(c:CH)(mo:Nat)(p:Pl)(x:Qbu)(br:QfQ):Decidable (rf c mo p x br):=by unfold rf;exact inferInstance
def Iu(c:CH)(mo:Nat)(p:Pl):CS->Db×List lY->Option Qpn
 | [],x=>some x
 | br::l,x=>if rf c mo p x br then none else Iu c mo p l QjH
theorem KD(c:CH)(mo:Nat)(p:Pl):∀(a l:CS) (x:Qbu),Iu c mo p (a++l) x=(Iu c mo p a x).bind (Iu c mo p l)
 | [],l,x=>rfl
 | br::a,l,x=>by
  rw[mv,Iu,Iu];split
  .rfl
  .exact KD c mo p a l _
def F6(c:CH)(mo:Nat)(s:GS)(n:Nat)(sg:Str):Option GS:=
 if s.sp<(F5 c QiC sg).length then none
 else(Iu c mo QiC (F5 c QiC sg) (s.fl,[])).map λx=>⟨x.1,s.rs++[(CZ n sg,x.2)],s.sp-x.2.length⟩
structure zt(c:CH)(r:lY):Prop where
 i:∀d∈r.2.1,wb c.bs.length d
structure zr(c:CH)(mo:Nat)(n:Nat)(x:Qbu):Prop where
 nd:x.1.Nodup
 ln:x.1.length<=mo
 gd:∀p∈x.1,Gd c p
 rl:x.2.length=n
 rw:∀r∈x.2,zt c r
variable{d:D}
theorem C4(h:wb m d):d.m7=true:=by
 obtain⟨x,rfl,_⟩:=h;cases x with
 | N5 q=>cases q<;>rfl
 | _=>rfl
def agc{r:lY}(h:zt c r):(Rx r).m7=true:=by
 have e1:D.bf (r.1.map xN)=true:=dZ Qcm _;have e2:=fU λd hd=>C4 (h.i d hd);show(D.tup _).m7=true;rw[D.m7,D.bf,D.bf,D.m7,D.m7,e1,e2];rfl
variable{br:QfQ}
theorem ak0(h:c.Ok){p:Pl}(g:Gd c p){x:Qbu}(k:zr c mo n x)(i:br∈F5 c p sg)(hw:¬ rf c mo p x br):zr c mo Q4 QjH/\x.1.length<=(VA c p x br).1.length:=by
 obtain⟨nd,pk⟩:=Ei sg br i;have d:=C3 h nd pk;obtain⟨sl,b⟩:=afW h g d;have e:=Ku h (p:=p) d;obtain⟨b1,b2,b3,j,_⟩:=Vz k.nd Qc6;have hl:(VA c p x br).1.length=(t8 x.1 Qc6).length:=rfl;refine⟨⟨b1,?_,λq a=>?_,?_,λr f=>?_⟩,b3⟩
 .rw[hl];by_cases hm:toN c p QaW∈x.1
  .unfold t8;rw[cq hm];exact k.ln
  .have:=k.ln;have:x.1.length≠mo:=λz=>hw ⟨hm,z⟩;lia
 .have a:q∈t8 x.1 Qc6:=a;unfold t8 at a;split at a
  .exact k.gd q a
  .obtain z|z:=iw.1 a
   .exact k.gd q z
   .cases kx.1 z;exact b
 .show(x.2++[_]).length=_;rw[ke,rr,k.rl]
 .obtain z|z:=iw.1 (show r∈x.2++[_] from f)
  .exact k.rw r z
  .cases kx.1 z;exact⟨e⟩
theorem KG{c:CH}(h:c.Ok){p:Pl}(g:Gd c p){mo:Nat}{sg:Str}:∀(l:CS) {n:Nat} {x y:Qbu},(∀b∈l,b∈F5 c p sg)->zr c mo n x->Iu c mo p l x=some y->zr c mo (n+l.length) y/\x.1.length<=y.1.length
 | [],n,x,y,_,k,e=>by
  cases e;simp_all
 | br::l,n,x,y,hl,k,e=>by
  rw[Iu]at e;split at e
  .cases e
  rename_i hw;obtain⟨k1,k2⟩:=ak0 h g k (hl br Wp) hw;obtain⟨k3,a⟩:=KG h g l (λb d=>hl b Qhr) k1 e;rw[show n+(br::l).length=n+1+l.length by simp;lia];exact⟨k3,ky k2 a⟩
def Oe(hs:At)(n j:Nat):List oi:=(List.range n).flatMap (λm=>hs.map (CZ m))++(hs.take j).map (CZ n)
def abU(hs:At)(n:Nat){x:Str}(h:hs[j]? = some x):Oe hs n j++[CZ n x]=Oe hs n QF:=by
 unfold Oe;rw[i3,qq h,i5];rfl
def KH(hs:At)(n:Nat):Oe hs n hs.length=Oe hs Q4 0:=by
 unfold Oe;rw[md,ph,w4,FR,List.flatMap_nil,js,List.take_zero,List.map_nil,js]
theorem agd{hs:At}{x:Str}(h:CZ m x∈Oe hs n j):m<n/\x∈hs\/m=n/\x∈hs.take j:=by
 have inj:∀{a:Nat} {z:Str},CZ a z=CZ m x->a=m/\z=x:=λ{a z} e=>by
  injection e with e1 e2;injection e1 with e1;injection e2 with e2 _;injection e2 with e2;exact⟨We,e2⟩
 obtain z|z:=iw.1 h
 .obtain⟨a,b,z⟩:=mn.1 z;obtain⟨w,hw,e⟩:=ip.1 z;obtain⟨rfl,rfl⟩:=inj e;exact .inl ⟨ma.1 b,hw⟩
 .obtain⟨w,hw,e⟩:=ip.1 z;obtain⟨rfl,rfl⟩:=inj e;exact .inr ⟨rfl,hw⟩
theorem Iv{hs:At}(nd:hs.Nodup)(n:Nat){x:Str}(h:hs[j]? = some x):CZ n x∉Oe hs n j:=λhm=>by
 obtain⟨z,_⟩|⟨_,z⟩:=agd hm
 .lia
 .obtain⟨i,hi,e⟩:=y3 z;simp at hi;simp at e;have:=(List.getElem?_inj We nd).1 ((kf We).trans ((congrArg _ e).trans h.symm));lia
structure xP(c:CH)(mo:Nat)(hs:At)(n j:Nat)(s:GS):Prop where
 nd:s.fl.Nodup
 ln:s.fl.length<=mo
 p0:0<s.fl.length
 gd:∀p∈s.fl,Gd c p
 ks:s.rs.map (·.1)=Oe hs n j
 kd:(s.rs.map (·.1)).Nodup
 rw:∀q∈s.rs,q.2.length<=8*mo/\∀r∈q.2,zt c r
 sp:s.sp<=8*mo
theorem Ry(h:c.Ok){hs:At}(i:hs.Nodup){s s':GS}(k:xP c mo hs n j s)(d:hs[j]? = some sg)(hn:n<s.fl.length)(e:F6 c mo s n sg=some s'):xP c mo hs n QF s'/\s.fl.length<=s'.fl.length:=by
 unfold F6 at e;have f:Gd c QiC:=by
  rw[kq,kf hn];exact k.gd _ (o2 hn)
 generalize s.fl.getD n ([],[])=p at e f;split at e
 .cases e
 rename_i v;obtain⟨y,e1,rfl⟩:=nr.1 e;obtain⟨b,b2⟩:=KG h f Qkb (λb t=>t) (n:=0) (x:=(s.fl,[])) ⟨k.nd,k.ln,k.gd,rfl,λr l=>by cases l⟩ e1;have u:(s.rs++[(CZ n sg,y.2)]).map (·.1)=Oe hs n QF:=by
  rw[i5,k.ks,<- abU hs n d];rfl
 have sp:=k.sp;have bl:=b.rl;have b2:s.fl.length<=y.1.length:=b2;have p0:=k.p0;refine⟨⟨b.nd,b.ln,mm p0 b2,b.gd,u,?_,λq m=>?_,?_⟩,b2⟩
 .show((s.rs++[(CZ n sg,y.2)]).map (·.1)).Nodup;rw[i5,l2];refine⟨k.kd,l4.2 ⟨km,nc⟩,λa g c o z=>?_⟩;cases kx.1 o;rw[k.ks,z]at g;exact Iv i n d g
 .obtain z|z:=iw.1 (show q∈s.rs++[(CZ n sg,y.2)] from m)
  .exact k.rw q z
  .cases kx.1 z;exact⟨by dsimp only;lia,b.rw⟩
 .show s.sp-y.2.length<=_;lia
def Ej(c:CH)(mo n:Nat):At->GS->Option GS
 | [],s=>some s
 | sg::l,s=>(F6 c mo s n sg).bind (Ej c mo n l)
theorem zC(c:CH)(mo n:Nat):∀(a l:At) (s:GS),Ej c mo n (a++l) s=(Ej c mo n a s).bind (Ej c mo n l)
 | [],l,s=>rfl
 | x::a,l,s=>by
  rw[mv,Ej,Ej];cases F6 c mo s n x with
  | none=>rfl
  | some s'=>exact zC c mo n a l s'
def nN(c:CH)(mo:Nat)(hs:At):Nat->Nat->GS->Option GS
 | 0,_,s=>some s
 | f+1,n,s=>if n<s.fl.length then(Ej c mo n hs s).bind (nN c mo hs f Q4) else some s
def nI(c:CH)(mo:Nat):GS:=⟨[yy c],[],8*mo⟩
def A1(c:CH)(mo:Nat)(hs:At):Option GS:=nN c mo hs mo 0 Qfb
structure VB(c:CH)(mo:Nat)(s:GS)(n:Nat)(sg:Str):Prop where
 ok:c.Ok
 nd:s.fl.Nodup
 ln:s.fl.length<=mo
 mo:mo<=20
 gd:∀p∈s.fl,Gd c p
 hn:n<s.fl.length
 key:CZ n sg∉s.rs.map (·.1)
 rl:s.rs.length<=10000
 sp:s.sp<=1000
def VC(x:QfQ):(oD x).m7=true:=by
 have e1:D.bf (x.1.map xN)=true:=dZ Qcm _;have e2:D.bf (x.2.map _)=true:=bE _;show(D.tup _).m7=true;rw[D.m7,D.bf,D.bf,D.m7,D.m7,e1,e2];rfl
def abX{p:Pl}{l:CS}{x y:Qbu}(a:l[j]? = some br)(b:Qtr)(hw:rf c mo p x br):Iu c mo p l y=none:=by
 have hl:=(lr.1 a).1;have e:=by
  have h2:=t4 j l;rw[tJ hl,(lr.1 a).2]at h2;exact h2.symm
 rw[e,KD,b];show Iu c mo p _ x=none;rw[Iu,cq hw]
theorem abY{p:Pl}{l:CS}{x y:Qbu}(b:l[j]? = some br)(a:Qtr)(hw:¬ rf c mo p x br):Iu c mo p (l.take QF) y=some QjH:=by simp_all [qq,KD,Iu]
seal L3.cQ L3.WO L3.bY L3.cN L3.sR L3.Gf L3.ZP
noncomputable def aE(s:AT)(k:Int):Int:=if s.length=0 then k else s.getD (k % (s.length:Nat)).toNat 0 % 10 ^ (36:Int).toNat / (1+k / (s.length:Nat))+k / (s.length:Nat)*k
theorem qu(s:AT)(h:0<=k):0<=aE s k:=by
 unfold aE;by_cases e:s.length=0
 .exact cq e▸h
 .rw[bX e];have t0:0<=k / s.length:=Int.ediv_nonneg h We;have m0:=lL (s.getD (k % s.length).toNat 0) (b:=10 ^ (36:Int).toNat) Wm;have:=Int.ediv_nonneg m0 (b:=1+k / s.length) We;have:=Int.mul_nonneg t0 h;lia
abbrev Rz:=top 65
abbrev RA:=AT×Int
noncomputable abbrev RB:At:=["script","k","turn"]
noncomputable def iz:RA->BA:=λ(s,k)=>[.lst Qcg,.int k]
def cC:RA->Prop:=λ(s,k)=>0<=k/\k<=100000/\s.length<=1000
def f6:RA->T:=λ(s,k)=>(.sh (.int (aE s k)):T)
structure fF(K:Frag)(mg:Bi)(CL:BM):Prop where
 d9:mg "len" = none
 fE:mg "range" = none
 Og:mg "int" = none
 oG:mg "str" = none
 fc:mg "tuple" = none
 lJ:mg "sorted" = none
 apd:mg "max" = none
 cJ:mg "list" = none
 iU:yE K QjY
 gu:bC K QjY "kinds"
 i7:bC K QjY "elders"
 wH:bC K QjY "starts"
 bU:yE K QdT
 iK:yE K Qe3
 wI:bC K QdT "boxes"
 wJ:bC K Qe3 "boxes"
 wK:bC K QdT "names"
 cV:bC K QdT "tree"
 t9:bC K QdT "ins"
 zE:bC K QdT "outs"
 cW:bC K QdT "ways"
 BV:mg "enumerate" = none
 RE:∃u,mg "SIGN" = some (.int 1 u)
 zF:∃u,mg "ROWS_FOR_A_FLAT" = some (.int 8 u)
 aY:yE K QdR
 iA:bC K QdR "chart"
 wL:bC K QdR "most"
 ef:bC K QdR "flats"
 wM:bC K Qe3 "flats"
 je:bC K QdR "places"
 pD:bC K QdR "rows"
 rE:bC K Qe3 "rows"
 fV:bC K QdR "spare_rows"
 rG:mg "TooWide" = some QgU
 Ek:J2 K Qez
 ua:∃u,mg "LEAF" = some (.int 0 u)
 vN:∃u,mg "ASKED" = some (.int 2 u)
 qv:∃u,mg "PICKED" = some (.int 3 u)
 KJ:∃u,mg "HELD" = some (.int 4 u)
 Sa:∃u,mg "ASKS" = some (.int 2 u)
 Iw:∃u,mg "WAY" = some (.int 1 u)
 RY:mg "dict" = none
 zG:∃u,mg "SOURCE" = some (.int 0 u)
 xQ:mg "reversed" = none
 uc:∃u,mg "TARGET" = some (.int 4 u)
 RC:∃u,mg "MODE" = some (.int 5 u)
 age:∃u,mg "DEEDS" = some (.int 3 u)
 ape:mg "any" = none
 wN:bC K Qe3 "signs"
 wO:bC K Qe3 "begin"
 bL:mg "isinstance" = none
 ak1:mg "bool" = none
structure Gp(N G:At)(X:Cx)(CL:BM):Prop extends EL X N G,fF X.K X.mg CL
variable{X:Cx}{CL:BM}{b:Bx}
theorem ak2(E:Gp RB ["len"] X CL) :
  j6 X CL b Rz RB iz cC f6:=by
 rintro⟨s,k⟩ h;dsimp [f6]at h ⊢;obtain⟨k0,k1,hl⟩:=h;refine dR (eY (ak (cU (cK ..) E.d9 QD QA)) ai).1 (λa=>?_) (λa=>aq ?_)
 .have e:s.length=0:=by
   lia
  apply aX Qbn;show T.sh _=T.sh _;unfold aE;rw[cq e]
 .have e:¬ s.length=0:=by
   lia
  have t0:0<=k / s.length:=Int.ediv_nonneg k0 We;have t1:k / s.length<=k:=Int.ediv_le_self _ k0;have b1:=lL k (b:=s.length) We;have b2:=l8 k (b:=s.length) We;apply aF E.g Qak (dc QH (ak (cU (cK ..) E.d9 QD QA)) (⟨We,We⟩));refine aX (cy (ak (dc (ak (bZ (bQ QD (ak (bZ QH (ak (cU (cK ..) E.d9 QD QA)) We)) (ic b1 b2)) (ak (QJ ai ai ⟨Wm,Wm,Wm⟩)) Wm)) (ak (cy ai QP)) (⟨We,We⟩))) (ak (xB QP QH (.inr ⟨We,We⟩)))) ?_;unfold aE;rw[bX e]
noncomputable def VD:FG RB ["script","k"] ["len"] (ao Rz):=fG
def qw(s:AT):Int:=aE s 0 / 9 % 3
def ak3(s:AT):0<=qw s/\qw s<3:=⟨lL _ Wm,l8 _ Wm⟩
noncomputable def X3:AT:=[-1,0,1,1,0,4,4,0,7]
noncomputable def X4:AT:=[-1,0,1,2,2,1,5,5,0]
def ox(s es:AT)(j:Nat):Int:=aE s Qo0 % (((bV es j).length:Int)+1)
theorem RU(s es:AT)(j:Nat):0<=ox s es j/\ox s es j<=((bV es j).length:Int):=by
 have a:=lL (aE s (1+j)) (b:=((bV es j).length)+1) We;have b:=l8 (aE s (1+j)) (b:=((bV es j).length)+1) We;unfold ox;lia
def Qi(s:AT):Nat->AT
 | 0=>[-1]
 | j+1=>Qi s j++[Vi Qd3 j (ox s Qd3 j).toNat]
def ab3:oz [-1]:=⟨λk a=>by
  have:=by simpa using a
  subst this;exact⟨Int.le_refl _,Wm⟩,λk a=>by simp at a⟩
theorem RD(s:AT):∀j,(Qi s j).length=j+1/\oz Qd3
 | 0=>⟨rfl,ab3⟩
 | j+1=>by
  obtain⟨h1,h2⟩:=RD s j;refine⟨by show(Qi s j++_).length=_;simp_all,?_⟩;have a:=RU s Qd3 j;exact h2.snoc h1.symm (Vj We)
def MI(es:AT):Bool:=(List.range es.length).all (λk=>decide (-1<=es.getD k 0)&&decide (es.getD k 0<(k:Int)))&&(List.range Qbw).all (λk=>decide (es.getD QaM 0=(k:Int)) || decide (es.getD QaM 0∈bV es k))
theorem agf(h:MI es=true):oz es:=by
 unfold MI at h;rw[lj,me,me]at h;refine⟨λk a=>?_,λk a=>?_⟩
 .have:=h.1 k (ma.2 a);simpa using this
 .have:=h.2 k Qhi;simpa using this
def jQ(s:AT)(n:Nat):AT:=if 0<qw s then(if qw s=1 then X3 else X4).take n else Qi s (n-1)
theorem C5(s:AT)(h1:1<=n)(c:n<=9):(jQ s n).length=n/\oz (jQ s n):=by
 unfold jQ;split
 .have:n=1\/n=2\/n=3\/n=4\/n=5\/n=6\/n=7\/n=8\/n=9:=by lia
  split<;>obtain rfl|rfl|rfl|rfl|rfl|rfl|rfl|rfl|rfl:=this<;>exact⟨ rfl,agf (rfl)⟩
 .obtain⟨a,b⟩:=RD s (n-1);lia
theorem X5{l:Qaa}{k:Nat}(h:k<=l.length):cutD l none (some (k:Int))=l.take k:=by
 unfold cutD;have e1:HT.F9 l.length 0 none=0:=rfl;have e2:HT.F9 l.length l.length (some k)=k:=by
  unfold HT.F9;simp;lia
 simp_all
abbrev El:=top 67
abbrev Em:=AT×Nat
noncomputable abbrev En:At:=["script","many","style","elders","depths","k","at","step"]
noncomputable def rH:Em->BA:=λ(s,n)=>[.lst Qcg,.int n]
def nM:Em->Prop:=λ(s,n)=>1<=n/\n<=9/\s.length<=1000
def rJ:Em->T:=λ(s,n)=>(.lst (((jQ s n).map .int).map T.sh):T)
structure ab4(X:Cx)(CL:BM):Prop extends EL X En ["_law_cell","range"],fF X.K X.mg CL where
 cY:Fc X CL "_law_cell" 1 2 iz cC f6
theorem ab5(E:ab4 X CL) :
  j6 X CL b El En rH nM rJ:=by
 rintro⟨s,n⟩ h;dsimp only [nM,rH,rJ]at h ⊢;obtain⟨n1,v,hs⟩:=h;refine aF E.g Qak (aH (bZ (ak (dc (ak (c_ ((s,0)) E.cY QA QbV (by exact(⟨We,We,hs⟩)) rfl)) ai ⟨Wm,Wm⟩)) ai Wm) (t2:=.sh (.int (qw s))) rfl) ?_;obtain⟨J,I⟩:=ak3 s;refine dR (HL QP ai).1 (λa=>?_) (λa=>aq ?_)
 .have a:=l1 a;have H:xq [D.lst (X3.map .int),.lst (X4.map .int)] (qw s-1)=some (.lst ((if qw s=1 then X3 else X4).map .int)):=by
   have:qw s=1\/qw s=2:=by lia
   obtain e|e:=this
   .rw[cq e,e];rfl
   .rw[bX We,e];rfl
  have p:T.cu (.lst [.lst ((X3.map D.int).map T.sh),.lst ((X4.map D.int).map T.sh)])=.lst [D.lst (X3.map .int),.lst (X4.map .int)]:=by
   rw[T.cu,T.cD,T.cD,T.cD,bF,bF]
  have G:n<=((if qw s=1 then X3 else X4).map D.int).length:=by
   split<;>exact v
  refine aX (Dz (bQ (mE (Ni (b8 (aG (b8 (JT rfl) aD) (aG (b8 (JT rfl) aD) bu)) aD)) p) QvB H) (bE _) JF (JG QH)) ?_;rw[X5 G];unfold jQ;rw[cq a];simp[xm]
 have a:=mN a;show cQ X CL b _ _ {nx:=_,rt:=λF _=>F=T.lst _,bk:=_,ct:=_};rw[show jQ s n=Qi s (n-1) by unfold jQ;rw[bX a]];refine aF E.g Qax Qiw ?_;refine aF E.g Qar (e7 (aj jG aL) aD) ?_;refine fS E.g Qaq (λj U=>∃k f c,U=[some _,some _,some _,some (.lst (((Qi s j).map .int).map T.sh)),some (.lst (((XA Qd3 QF).map .int).map T.sh)),k,f,c])
  (WR E.fE ai QH We QN) ⟨_,_,_,rfl⟩ (λj U ⟨_,_,_,e⟩=>by subst e;exact iq rfl) ?turn ?fin
 case turn=>
  rintro j d U y ⟨k,f,c,rfl⟩;obtain⟨rfl,L⟩:=jI y;obtain⟨hl,a⟩:=RD s j;have w:=RU s Qd3 j;have r:Qi s QF=Qi s j++[Vi Qd3 j _]:=rfl;show cQ X CL b _ _ {nx:=λU=>∃k f c,U=[_,_,_,some _,some _,k,f,c],rt:=_,bk:=_,ct:=_};rw[r];generalize A:Qi s j=es at hl a w ⊢;have l:=a.1;have B:(XA es QF).length=j+1:=by simp[XA]
  have C:((bV es (j:Int)).length:Nat)<=es.length+1:=zg _ _ _;have t:(XA es QF).getD (j:Int).toNat 0=((bV es (j:Int)).length:Int):=by
   exact PM es We
  refine aF E.g QaF (aH (qJ Qal ai) (congrArg QlP (show Qo0-1=j by lia))) ?_;have o:aE s Qo0 % ((XA es QF).getD (j:Int).toNat 0+1)=ox s es j:=by rw[t];rfl
  refine fS E.g Qbb (λi U=>∃c,U=[some _,some _,some _,some _,some _,some _,some (.sh (.int (Vi es j i))),c])
   (dY E.fE (mE (ak (bZ (ak (c_ ((s,1+(j:Int))) E.cY QA (ah QD QjI) (by exact(⟨We,We,hs⟩)) rfl)) (ak QvI) ((by rw[t];lia)))) (congrArg D.int o)) We QN) ⟨_,rfl⟩ (λj U ⟨_,e⟩=>by subst e;exact iq rfl) ?Oh ?fin2
  case Oh=>
   rintro i d U hi ⟨c,rfl⟩;obtain⟨rfl,M⟩:=jI hi;obtain⟨⟨x0,K⟩,u⟩:=NT l QF (m:=(j:Int)) (n:=i) We We We We;refine aF E.g QaF (aH (fq (bQ Qa8 Qam Qg7) rfl) (congrArg QlP u)) QlQ
  case fin2=>
   rintro U ⟨c,rfl⟩;have e0:(ck 0 (ox s es j).toNat).length=(ox s es j).toNat:=by simp[ck]
   rw[e0];have q:0<=Vi es j (ox s es j).toNat/\Vi es j (ox s es j).toNat<es.length:=by
    rcases Vj (es:=es) (m:=(j:Int)) (n:=(ox s es j).toNat) We with z|z
    .rw[z];lia
    .have:=bH l We We z;lia
   generalize Vi es j _=x at q ⊢;refine iZ (E.ll 3).1 rfl Qc4 rfl WE ?_;have dx:(XA es QF).getD x.toNat 0=((bV es x).length:Int):=by
    have:=PM es (n:=j+1) (i:=x.toNat) We;rw[this,show((x.toNat:Nat):Int)=x by lia]
   refine iZ (E.ll 4).1 rfl (aH QvI (congrArg (λz=>T.sh (.int (z+1))) dx)) rfl WE (aq ?_);have e1:((es.map D.int).map T.sh)++[T.sh Qdj]=((es++[x]).map D.int).map T.sh:=by simp
   have e2:(((XA es QF).map D.int).map T.sh)++[T.sh (.int (((bV es x).length:Int)+1))]=((XA QdZ (j+1+1)).map D.int).map T.sh:=by
    rw[<- hl,abo l q.1 q.2];simp
   rw[e1,e2];exact⟨_,_,_,rfl⟩
 case fin=>
  rintro U ⟨k,f,c,rfl⟩;refine aX Qji ?_;have e:(ck 1 ((n:Int)-1).toNat).length=n-1:=by simp[ck]
  rw[e]
noncomputable def Iz:FG En ["script","many"] ["_law_cell","range"] (ao El):=fG
def q7(s:AT)(k:Nat):Str:=if 0<qw s then(["one","all"]:At).getD (if (k:Int)=qw s-1 then 1 else 0) Str.empty else(["all","one","one"]:At).getD (Qjw % 3).toNat Str.empty
def kE(s es:AT)(k:Nat):Str:=if (k:Int)∈es then q7 s k else "leaf"
def A2(s es:AT)(n:Nat):At:=(List.range n).map (kE s es)
def KL(s es:AT)(n:Nat):(A2 s es n).length=n:=by simp[A2]
def RS(s es:AT){k:Nat}(h:k<n):(A2 s es n).getD k Str.empty=kE s es k:=by
 unfold A2;rw[kq,j2,oI h];rfl
theorem ak4(s:AT)(k:Nat):q7 s k="all" \/ q7 s k="one":=by
 unfold q7;split
 .split
  .exact .inl rfl
  .exact .inr rfl
 .have:(Qjw % 3).toNat=0\/(Qjw % 3).toNat=1\/(Qjw % 3).toNat=2:=by lia
  obtain e|e|e:=this
  .rw[e];exact .inl rfl
  .rw[e];exact .inr rfl
  .rw[e];exact .inr rfl
def OF(s es:AT)(k:Nat):((k:Int)∈es/\(kE s es k="all" \/ kE s es k="one"))\/((k:Int)∉es/\kE s es k="leaf"):=by
 unfold kE;split
 .rename_i h;exact .inl ⟨h,ak4 s k⟩
 .rename_i h;exact .inr ⟨h,rfl⟩
def VF(s es:AT):Lo Qcf es:=λk a e=>by
 rw[RS s es a]at e;obtain⟨h,_⟩|⟨_,e2⟩:=OF s es k
 .exact akL h
 .rw[e2]at e;exact absurd e Wl
theorem ab7(s es:AT):∀k:Nat,k<es.length->(aV Qcf k=true/\eS Qcf k=false/\bw Qcf k=false/\iG es k=[])\/(aV Qcf k=false/\eS Qcf k=true/\bw Qcf k=false)\/(aV Qcf k=false/\eS Qcf k=false/\bw Qcf k=true):=λk c=>by
 unfold aV eS bw;rw[k4,RS s es c];obtain⟨_,e|e⟩|⟨a,e⟩:=OF s es k
 .rw[e];exact .inr (.inr ⟨ rfl,rfl,(rfl) ⟩)
 .rw[e];exact .inr (.inl ⟨ rfl,(rfl),rfl ⟩)
 .rw[e];refine .inl ⟨ (rfl),rfl,rfl,?_⟩;refine IS.2 λx b=>a ?_;have d:=qY b;rw[<- d.2.2,kq,kf We];simp
abbrev KN:=top 68
abbrev KP:=AT×AT
noncomputable abbrev KQ:At:=["script","elders","style","kinds","k","kind"]
noncomputable def A3:KP->BA:=λ(s,es)=>[.lst Qcg,.lst Qbv]
def vO:KP->Prop:=λ(s,es)=>es.length<=900/\s.length<=1000
def A4:KP->T:=λ(s,es)=>(.lst (((A2 s es es.length).map .str).map T.sh):T)
structure agg(X:Cx)(CL:BM):Prop extends EL X KQ ["_law_cell","range","len","int"],fF X.K X.mg CL where
 cY:Fc X CL "_law_cell" 1 2 iz cC f6
theorem agh(E:agg X CL) :
  j6 X CL b KN KQ A3 vO A4:=by
 rintro⟨s,es⟩ h;obtain⟨hl,hs⟩:=h;refine aF E.g Qak (aH (bZ (ak (dc (ak (c_ ((s,0)) E.cY QA QbV ((⟨We,We,hs⟩)) rfl)) ai ⟨Wm,Wm⟩)) ai Wm) rfl) ?_;apply aF E.g Qax Qa1;refine fS E.g Qar (λj U=>∃i c,U=[some _,some _,some QmM,some Qk5,i,c])
  (dY E.fE (ak (cU (cK ..) E.d9 QH QU)) We QN) ⟨_,_,rfl⟩ (λj U ⟨_,_,e⟩=>by subst e;exact iq rfl) ?turn ?fin
 case turn=>
  rintro j d U k ⟨i,c,rfl⟩;obtain⟨rfl,o⟩:=jI k;rw[mx];have n:=KL s es j;have m:∀x,x=kE s es j->((A2 s es j).map D.str).map T.sh++[T.sh Qbk]=((A2 s es QF).map D.str).map T.sh:=λx e=>by
   subst e;simp[A2,ph]
  refine aF E.g Qaq (fq (bQ QlC (ak (bZ (ak (cy (ak (dc (ak (c_ ((s,(j:Int))) E.cY QA Qge ((⟨We,We,We⟩)) rfl)) ai ⟨Wm,Wm⟩)) QaL)) ai Wm)) (fJ (f:=D.str) (l:=["all","one","one"]) Str.empty QkI QkJ)) rfl) ?_;refine tP (λU=>U=[some QeK,some Qgv,some QmM,some Qk5,some (.sh (.int j)),some (.sh (.str (q7 s j)))]) (HL QP ai).1 (λa=>?_) (λa=>?_) ?_
  .have a:=l1 a;refine aF E.g Qaq (aH (fq (bQ (ds:=(["one","all"]:At).map _) QuJ (ak (aeK E.Og (ak ((eY QaL QvB).2)) Q1)) (fJ Str.empty (by split<;>lia) (by show(if _ then 1 else 0)<(2:Int);split<;>lia))) rfl) ?_) Qd1;unfold q7;rw[cq a];by_cases e:j=qw s-1
   .rw[cq e,cq (mu e)];rfl
   .rw[if_neg e,if_neg (by simpa using e)];rfl
  .have a:=mN a;apply aq;unfold q7;rw[bX a];rfl
  rintro U rfl;refine tP (λU=>U=[some QeK,some Qgv,some QmM,some Qk5,some (.sh (.int j)),some (.sh (.str (kE s es j)))]) (yQ QaL QH rfl rfl).1 (λa=>?_) (λa=>?_) ?_
  .have e:=by
    rw[tw]at a;exact mN a
   exact show kE s es j="leaf" by unfold kE;rw[bX e]▸aF E.g Qaq cg Qd1
  .have e:=by
    rw[zb]at a;exact l1 a
   exact show kE s es j=q7 s j by unfold kE;rw[cq e]▸aq rfl
  rintro U rfl;refine iZ (E.ll 3).1 rfl QbX rfl WE (aq ?_);rw[m _ rfl];exact⟨_,_,rfl⟩
 case fin=>
  rintro U ⟨i,c,rfl⟩;have e:(ck 0 (es.length:Int).toNat).length=es.length:=by simp[ck]
  rw[e];exact aX Qji rfl
noncomputable def Oi:FG KQ ["script","elders"] ["_law_cell","range","len","int"] (ao KN):=fG
abbrev rK:=top 69
abbrev xR:=AT×Int
noncomputable abbrev xS:At:=["elders","mood"]
def mO:xR->BA:=λ(es,m)=>[.lst Qbv,.int m]
def gw:xR->Prop:=λ(es,m)=>es.length<=1000
def mP:xR->T:=λ(es,m)=>(.lst (((iG es m).map .int).map T.sh):T)
structure RG(X:Cx)(CL:BM):Prop extends EL X xS ["range","len"],fF X.K X.mg CL where
 ab8:Ka X "elders"
 RH:Ka X "mood"
theorem RJ(E:RG X CL) :
  j6 X CL b rK xS mO gw mP:=by
 rintro⟨es,m⟩ h;dsimp [gw]at h ⊢;refine aX (qS (p:=λd=>decide QtT) (g:=T.sh) (b9 (.cons (E.ll 0).1 (.inl E.ab8) QqZ) Wl) E.g.calm
  (dY E.fE (ak (cU (cK ..) E.d9 QD QN)) We QA) Qay (λC s0 e f0 a d hd=>?AO) (lx (cj (by simp[ck];lia)))) ?eq
 case AO=>
  obtain⟨i,hi,rfl⟩:=ip.1 hd;have c:=by simpa using hi
  exact⟨(eY (bQ (i6 1) (jA 0) (ic (show 0<=0+(i:Int) by lia) (show 0+(i:Int)<es.length by lia))) (i6 2)).1,λ_=>v_ (J9 0)⟩
 case eq=>
  apply congrArg _;unfold ck iG;rw[tc,i0,i0,i0];have e1:((λd=>decide QtT)∘λi:Nat=>D.int (0+i))=λi=>decide (es.getD i 0=m):=by
   funext i;show decide (es.getD (0+(i:Int)).toNat 0=m)=_;rw[mx,k4]
  rw[e1];congr 1;funext i;show T.sh Qbq=T.sh _;rw[mx]
def ud:UI (ao rK) ([("elders",.cell),("mood",.cell),("range",bT),("len",bT)])=true:=by decide +kernel
noncomputable def Oj:dB xS ["elders","mood"] (ao rK):=jN
def X6(s es:AT)(ks:At)(base:Int)(k:Nat):Int:=if ks.getD k Str.empty="one" then(iG es k).getD (aE s (base+k) % ((iG es k).length:Nat)).toNat 0 else -1
def VG(s es:AT)(ks:At)(base:Int)(n:Nat):AT:=(List.range n).map (X6 s es ks base)
def VH(s es:AT)(ks:At)(base:Int)(n:Nat):(VG s es ks base n).length=n:=by simp[VG]
def ak5(s es:AT)(ks:At)(base:Int){k:Nat}(h:k<n):(VG s es ks base n).getD k 0=X6 s es ks base k:=by
 unfold VG;rw[kq,j2,oI h];rfl
theorem agi{s:AT}{base:Int}{k:Nat}(c:Lo ks es)(a:Qel)(e:ks.getD k Str.empty="one"):(VG s es ks base es.length).getD k 0∈iG es k:=by
 rw[ak5 s es ks base a];unfold X6;rw[cq e];have d:=List.length_pos_iff.2 (c k a e);have f:=l8 (aE s (base+k)) (b:=((iG es k).length)) We;simp_all
abbrev Eo:=top 70
abbrev Ep:=AT×AT×At×Int
noncomputable abbrev Er:At:=["script","elders","kinds","base","chosen","k","near"]
noncomputable def xT:Ep->BA:=λ(s,es,ks,base)=>[.lst Qcg,.lst Qbv,.lst QcD,.int base]
def rL:Ep->Prop:=λ(s,es,ks,base)=>es.length<=900/\s.length<=1000/\ks.length=es.length/\Lo ks es/\0<=base/\base<=5000
def xU:Ep->T:=λ(s,es,ks,base)=>(.lst (((VG s es ks base es.length).map .int).map T.sh):T)
structure ab9(X:Cx)(CL:BM):Prop extends EL X Er ["range","len","_law_inner","_law_cell"],fF X.K X.mg CL where
 xV:Fc X CL "_law_inner" 1 2 mO gw mP
 cY:Fc X CL "_law_cell" 1 2 iz cC f6
theorem acd(E:ab9 X CL) :
  j6 X CL b Eo Er xT rL xU:=by
 rintro⟨s,es,ks,base⟩ h;obtain⟨hl,hs,r,f,t,b1⟩:=h;apply aF E.g Qar Qa1;refine fS E.g Qaq (λj U=>∃o o',U=[some _,some _,some _,some _,some (.lst (((VG s es ks base j).map .int).map T.sh)),o,o'])
  (dY E.fE (ak (cU (cK ..) E.d9 QH QN)) We QA) ⟨_,_,rfl⟩ (λj U ⟨_,_,e⟩=>by subst e;exact iq rfl) ?turn ?fin
 case turn=>
  rintro j d U i ⟨o,o',rfl⟩;obtain⟨rfl,q⟩:=jI i;rw[mx];have k:=VH s es ks base j;have p:((iG es j).map D.int).length=(iG es j).length:=by simp
  have c:∀x,x=X6 s es ks base j->((VG s es ks base j).map D.int).map T.sh++[T.sh Qdj]=((VG s es ks base QF).map D.int).map T.sh:=λx e=>by
   subst e;simp[VG,ph]
  apply aF E.g QaF (c_ ((es,(j:Int))) E.xV QU (ah QH QjI) ((by dsimp [gw];lia)) (aO _));refine dR (iS (bQ QP Qal (fJ Str.empty We We)) dg).1 (λa=>?_) (λa=>?_)
  .have e:ks.getD j _="one":=l1 a;have n:=List.length_pos_iff.2 (f j We e);have m:=lL (aE s (base+j)) (b:=((iG es j).length)) We;have l:=l8 (aE s (base+j)) (b:=((iG es j).length)) We;refine iZ (E.ll 4).1 rfl (fq (bQ QdN (ak (bZ (ak (c_ ((s,base+j)) E.cY Q1 (ah QD (ah (ak (cy Qaw Qal)) av)) ((⟨We,We,We⟩)) rfl)) (ak (cU (p) E.d9 QdN QN)) We)) (ic m l)) rfl) rfl WE (aq (aq ?_));rw[c _ (by unfold X6;rw[cq e])];exact⟨_,_,rfl⟩
  .have e:¬ ks.getD j _="one":=mN a;refine iZ (E.ll 4).1 rfl QbZ rfl WE (aq (aq ?_));rw[c _ (by unfold X6;rw[bX e])];exact⟨_,_,rfl⟩
 case fin=>
  rintro U ⟨o,o',rfl⟩;have e:(ck 0 (es.length:Int).toNat).length=es.length:=by simp[ck]
  rw[e];exact aX QeW rfl
noncomputable def IA:FG Er ["script","elders","kinds","base"] ["range","len","_law_inner","_law_cell"] (ao Eo):=fG
noncomputable def Ki:Cn:=(List.range 26).map (· + 97)
def Ol:("abcdefghijklmnopqrstuvwxyz":Str).cps.toList=Ki:=by decide +kernel
def wQ(k:Int):Str:=⟨#[Ki.getD k.toNat 0]⟩
noncomputable def sI(k:Int):Str:=toString k
def u4(s:AT)(k:Int):Str:=([wQ Qno++sI k,wQ Qno++sI k++wQ QvC,wQ Qno++wQ QvC++sI k]:At).getD (aE s 60 % 3).toNat Str.empty
abbrev RK:=top 71
abbrev RL:=AT×Int
noncomputable abbrev RM:At:=["script","k","cell","letters","one","two"]
noncomputable def zH:RL->BA:=λ(s,k)=>[.lst Qcg,.int k]
def uf:RL->Prop:=λ(s,k)=>s.length<=1000/\0<=k/\k<=8
def ug:RL->T:=λ(s,k)=>(.sh (.str (u4 s k)):T)
structure ak6(X:Cx)(CL:BM):Prop extends EL X RM ["_law_cell","str"],fF X.K X.mg CL where
 cY:Fc X CL "_law_cell" 1 2 iz cC f6
theorem ak7(E:ak6 X CL) :
  j6 X CL b RK RM zH uf ug:=by
 rintro⟨s,k⟩ h;dsimp [ug]at h ⊢;obtain⟨hs,f,n⟩:=h;refine aF E.g Qak (c_ ((s,60)) E.cY QA QbV ((⟨We,We,hs⟩)) rfl) ?_;rw[show f6 _=T.sh _ from rfl];have c0:=qu s (k:=60) We;unfold u4;generalize aE s 60=c at c0 ⊢;apply aF E.g Qax cg;have hl:Ki.length=26:=by decide +kernel
 have d:=λm=>lL m (show 26≠0 by decide);have e:∀m,(wQ m).length=1:=λ_=>rfl;have a:(sI k).length=1/\k.natAbs.log2<1920:=by
  have:k=0\/k=1\/k=2\/k=3\/k=4\/k=5\/k=6\/k=7\/k=8:=by lia
  obtain rfl|rfl|rfl|rfl|rfl|rfl|rfl|rfl|rfl:=this<;>exact⟨Wl,Wl⟩
 apply aF E.g Qar (aH (ZS Qaw (ak (bZ (ak (dc QP ai ⟨Wm,Wm⟩)) ai Wm)) Wl (by rw[Ol];exact So 0 (d _) (by rw[hl];lia))) (t2:=.sh (.str (wQ _))) rfl);refine aF E.g Qaq (aH (ZS Qaw (ak (bZ (ak (dc QP ai ⟨Wm,Wm⟩)) ai Wm)) Wl (by rw[Ol];exact So 0 (d _) (by rw[hl];lia))) (t2:=.sh (.str (wQ _))) rfl) ?_;have h1:=e (c / 3 % 26);have h2:=e (c / 78 % 26);generalize wQ _=one at h1 ⊢;generalize wQ _=two at h2 ⊢;have j:(one++sI k).length=2:=by rw[str_len,h1,a.1]
 have i:(one++two).length=2:=by rw[str_len,h1,h2]
 refine aX (fq (bQ (aW (e7 (aj (nA QaL Qlh ((by rw[ko];show one.length+(sI k).length<=_;lia))) (aj (nA (ak (nA QaL Qlh ((by rw[ko];show one.length+(sI k).length<=_;lia)))) Qal ((by rw[ko];show(one++sI k).length+two.length<=_;lia))) (aj (nA (ak (nA QaL Qal ((by rw[ko];lia)))) Qlh ((by rw[ko];show(one++two).length+(sI k).length<=_;lia))) aL))) aD)) (ak (bZ QP ai Wm)) (fJ (l:=[one++sI k,one++sI k++two,one++two++sI k]) _ QkI QkJ)) rfl) rfl
noncomputable def VJ:FG RM ["script","k"] ["_law_cell","str"] (ao RK):=fG
noncomputable def Om(c:Int):Int:=if c % 4=1 then c / 4 % (2*10 ^ (30:Int).toNat-1)-(10 ^ (30:Int).toNat-1) else c / 4 % 7-3
abbrev Es:=top 72
abbrev Et:=Int
noncomputable abbrev Eu:At:=["cell"]
noncomputable def rM:Et->BA:=λa=>[.int a]
def rN:Et->Prop:=λa=>True
def rO:Et->T:=λa=>(.sh (.int (Om a)):T)
def acf(E:Gp Eu [] X CL) :
  j6 X CL b Es Eu rM rN rO:=by
 intro a h;refine dR (eY (ak (bZ QD ai Wm)) ai).1 (λc=>?_) (λc=>aq ?_)
 .apply aX (qJ (ak (bZ (ak (dc QD ai ⟨Wm,Wm⟩)) (ak (qJ (ak (xB ai (ak (QJ ai ai ⟨Wm,Wm,Wm⟩)) (.inl ⟨Wm,Wm⟩))) ai)) Wm)) (ak (qJ (ak (QJ ai ai ⟨Wm,Wm,Wm⟩)) ai)));show T.sh _=T.sh _;unfold Om;rw[cq (l1 c)]
 .apply aX (qJ (ak (bZ (ak (dc QD ai ⟨Wm,Wm⟩)) ai Wm)) ai);show T.sh _=T.sh _;unfold Om;rw[bX (mN c)]
noncomputable def IB:FG Eu ["cell"] [] (ao Es):=fG
def BW(c:Int)(n:Nat):D:=.tup [.int QtU,.int (Om Qdl)]
abbrev RN:=top 73
abbrev RP:=Int×Nat
noncomputable abbrev RQ:At:=["cell","boxes"]
noncomputable def uh:RP->BA:=λ(c,n)=>[.int c,.int n]
def um:RP->Prop:=λ(c,n)=>n<=1000
def uo:RP->T:=λ(c,n)=>(.sh (.tup [.int QtU,.int (Om Qdl)]):T)
structure ak8(X:Cx)(CL:BM):Prop extends EL X RQ ["_law_number"],fF X.K X.mg CL where
 Ew:Fc X CL "_law_number" 1 1 rM rN rO
theorem ak9(E:ak8 X CL) :
  j6 X CL b RN RQ uh um uo:=by
 rintro⟨c,n⟩ h;dsimp only [um,uh,uo]at h ⊢;exact aX (bG (aj (qJ (ak (bZ QD Qnp We)) ai) (aj (c_ Qdl E.Ew QA (ah (ak (dc QD ai ⟨Wm,Wm⟩)) av) (trivial) rfl) aL)) aD) rfl
noncomputable def VL:FG RQ ["cell","boxes"] ["_law_number"] (ao RN):=fG
def Oo(n m:Nat)(c:Int):D:=
 if c % 3=1 then .tup [.str ((["open","shut"]:At).getD (c / 3 % 2).toNat Str.empty),.int Qva]
 else .tup [.str ((["<","<=","=","!="]:At).getD (c / 3 % 4).toNat Str.empty),BW (c / 12) n,BW (c / 48) n]
def X7(s:AT)(q:Int)(m n k:Nat):D:=Oo n m (aE s (q+1+(k:Int)))
def IC(s:AT)(q:Int)(m n:Nat):BA:=(List.range (aE s q % 3).toNat).map QjT
def Oq(n m:Nat)(c:Int):(Oo n m c).m7=true:=by
 unfold Oo;split<;>rfl
def xW(s:AT)(q:Int)(m n:Nat):D.bf (IC s q m n)=true:=dZ QtV _
abbrev RT:=top 75
abbrev RV:=AT×Int×Nat×Nat
noncomputable abbrev RW:At:=["script","at","many","boxes","asks","k","cell","mark"]
def Ex:RV->BA:=λ(s,q,m,n)=>[.lst Qcg,.int q,.int m,.int n]
def zI:RV->Prop:=λ(s,q,m,n)=>s.length<=1000/\0<=q/\q<=90000/\n<=1000/\1<=m
def Ey:RV->T:=λ(s,q,m,n)=>(.sh (.tup (IC s q m n)):T)
structure ala(X:Cx)(CL:BM):Prop extends EL X RW ["range","_law_cell","_law_term","tuple"],fF X.K X.mg CL where
 cY:Fc X CL "_law_cell" 1 2 iz cC f6
 Ez:Fc X CL "_law_term" 2 2 uh um uo
theorem alb(E:ala X CL) :
  j6 X CL b RT RW Ex zI Ey:=by
 rintro⟨s,q,m,n⟩ h;obtain⟨hs,t,q1,hn,hm⟩:=h;apply aF E.g Qar Qa1;refine fS E.g Qaq (λj U=>∃p o i,U=[some _,some _,some _,some _,some (.lst (((List.range j).map QjT).map T.sh)),p,o,i])
  (dY E.fE (ak (bZ (ak (c_ ((s,q)) E.cY QN QeE ((⟨t,We,hs⟩)) rfl)) ai Wm)) ((show -(2 ^ 62)<=aE s q % 3/\aE s q % 3<2 ^ 62 by lia)) QA) ⟨_,_,_,rfl⟩ (λj U ⟨_,_,_,e⟩=>by subst e;exact iq rfl) ?turn ?fin
 case turn=>
  rintro j d U v ⟨p,o,i,rfl⟩;obtain⟨rfl,y⟩:=jI v;have u:j<3:=by lia
  rw[mx];have w:=qu s (k:=q+1+j) We;refine aF E.g QaF (aH (c_ ((s,q+1+j)) E.cY QN (ah QD (ah (ak (cy Qnp Qal)) av)) ((⟨We,We,hs⟩)) rfl) (t2:=.sh _) rfl) ?_;have r:∀x,x=X7 s q m n j->((List.range j).map QjT).map T.sh++[T.sh x]=((List.range QF).map QjT).map T.sh:=λx e=>by
   subst e;simp[ph]
  have hd:X7 s q m n j=Oo n m _:=rfl;generalize aE s _=c at w hd ⊢;refine dR (eY (ak (bZ Qam ai Wm)) ai).1 (λa=>?_) (λa=>?_)
  .refine iZ (E.ll 4).1 rfl (bG (aj (fq (bQ QuJ (ak (bZ (ak (dc Qam ai ⟨Wm,Wm⟩)) ai Wm)) (fJ (f:=D.str) (l:=["open","shut"]) Str.empty QkI QkJ)) rfl) (aj (bZ (ak (dc Qam ai ⟨Wm,Wm⟩)) QP We) aL)) aD) rfl WE (aq (aq ?_));rw[r _ (by rw[hd];unfold Oo;rw[cq (l1 a)])];exact⟨_,_,_,rfl⟩
  .have a:=mN a;refine aF E.g Qbb (fq (bQ (aW (e7 (aj cg (aj cg Qh7)) aD)) (ak (bZ (ak (dc Qam ai ⟨Wm,Wm⟩)) ai Wm)) (fJ (f:=D.str) (l:=["<","<=","=","!="]) Str.empty QkI QkJ)) rfl) ?_;refine iZ (E.ll 4).1 rfl (bG (aj Qc7 (aj (aH (c_ ((c / 12,n)) E.Ez QU (ah (ak (dc Qam ai ⟨Wm,Wm⟩)) QeQ) (hn) rfl) (t2:=.sh QkH) rfl) (aj (aH (c_ ((c / 48,n)) E.Ez QU (ah (ak (dc Qam ai ⟨Wm,Wm⟩)) QeQ) (hn) rfl) (t2:=.sh QkH) rfl) aL))) aD) rfl WE (aq (aq ?_));rw[r _ (by rw[hd];unfold Oo;rw[bX a])];exact⟨_,_,_,rfl⟩
 case fin=>
  rintro U ⟨p,o,i,rfl⟩;apply aX (eG E.fc QeC (dZ QtV _) Q1);have e:(ck 0 (aE s q % 3).toNat).length=(aE s q % 3).toNat:=by simp[ck]
  rw[e];rfl
noncomputable def VM:FG RW ["script","at","many","boxes"] ["range","_law_cell","_law_term","tuple"] (ao RT):=fG
def zJ(s:AT)(n:Nat)(c:Int):D:=
 if c % 4=1 then .tup [.str "call",.str Qvb]
 else if c % 4=2\/n=0 then .tup [.str "say",.str Qvb,BW Qkw n]
 else .tup [.str "put",.int (c / 4 % (n:Int)),BW Qkw n]
def IE(s:AT)(q:Int)(n k:Nat):D:=zJ s n (aE s (q+1+(k:Int)))
def gV(s:AT)(q:Int)(n:Nat):BA:=(List.range (aE s q % 3).toNat).map Qkj
def IG(s:AT)(n:Nat)(c:Int):(zJ s n c).m7=true:=by
 unfold zJ;split
 .rfl
 .split<;>rfl
def jD(s:AT)(q:Int)(n:Nat):D.bf (gV s q n)=true:=dZ QtW _
theorem EA(s:AT)(q:Int)(n:Nat):(gV s q n).length<=2:=by
 unfold gV;simp;lia
abbrev KR:=top 74
abbrev KS:=AT×Int×Nat
noncomputable abbrev KW:At:=["script","at","boxes","deeds","k","cell","name"]
noncomputable def vP:KS->BA:=λ(s,q,n)=>[.lst Qcg,.int q,.int n]
def kI:KS->Prop:=λ(s,q,n)=>s.length<=1000/\0<=q/\q<=90000/\n<=1000
def vQ:KS->T:=λ(s,q,n)=>(.sh (.tup (gV s q n)):T)
structure agj(X:Cx)(CL:BM):Prop extends EL X KW ["range","_law_cell","_law_name","_law_term","tuple"],fF X.K X.mg CL where
 cY:Fc X CL "_law_cell" 1 2 iz cC f6
 RX:Fc X CL "_law_name" 2 2 zH uf ug
 Ez:Fc X CL "_law_term" 2 2 uh um uo
theorem agk(E:agj X CL) :
  j6 X CL b KR KW vP kI vQ:=by
 rintro⟨s,q,n⟩ h;obtain⟨hs,p,q1,hn⟩:=h;apply aF E.g Qax Qa1;refine fS E.g Qar (λj U=>∃l i f,U=[some _,some _,some _,some (.lst (((List.range j).map Qkj).map T.sh)),l,i,f])
  (dY E.fE (ak (bZ (ak (c_ ((s,q)) E.cY QN QeE (by exact(⟨p,We,hs⟩)) rfl)) ai Wm)) ((show -(2 ^ 62)<=aE s q % 3/\aE s q % 3<2 ^ 62 by lia)) QA) ⟨_,_,_,rfl⟩ (λj U ⟨_,_,_,e⟩=>by subst e;exact iq rfl) ?turn ?fin
 case turn=>
  rintro j d U t ⟨l,i,f,rfl⟩;obtain⟨rfl,v⟩:=jI t;rw[mx];have u:=qu s (k:=q+1+j) We;refine aF E.g Qaq (aH (c_ ((s,q+1+j)) E.cY QN (ah QD (ah (ak (cy Qnp QaL)) av)) (by exact(⟨We,We,hs⟩)) rfl) (t2:=.sh _) rfl) ?_;have m:∀x,x=IE s q n j->((List.range j).map Qkj).map T.sh++[T.sh x]=((List.range QF).map Qkj).map T.sh:=λx e=>by
   subst e;simp[ph]
  have hd:IE s q n j=zJ s n _:=rfl;generalize aE s _=c at u hd ⊢;have m0:=lL Qdl (show 4≠0 by decide);refine aF E.g QaF (aH (c_ ((s,c / 4 % 4)) E.RX QU (ah QD (ah (ak (bZ (ak (dc Qal ai ⟨Wm,Wm⟩)) ai Wm)) av)) (by exact(⟨hs,m0,We⟩)) rfl) rfl) ?_;refine dR (eY QvD ai).1 (λa=>?_) (λa=>?_)
  .refine iZ (E.ll 3).1 rfl (bG (aj cg (aj Qc4 aL)) aD) rfl WE (aq (aq ?_));rw[m _ (by rw[hd];unfold zJ;rw[cq (l1 a)])];exact⟨_,_,_,rfl⟩
  .have a:=mN a;refine dR (kh (lE (eY QvD ai).1 (λw=>(jv (eY QP ai).1)))) (λr=>?_) (λr=>?_)
   .have o:c % 4=2\/n=0:=by
     lia
    refine iZ (E.ll 3).1 rfl (bG (aj cg (aj Qc4 (aj (aH (c_ ((c / 16,n)) E.Ez Q1 (ah (ak (dc Qal ai ⟨Wm,Wm⟩)) Qc8) (hn) rfl) (t2:=.sh QkH) rfl) aL))) aD) rfl WE (aq (aq (aq ?_)));rw[m _ (by rw[hd];unfold zJ;rw[bX a,cq o])];exact⟨_,_,_,rfl⟩
   .have o:¬ (c % 4=2\/n=0):=by
     lia
    refine iZ (E.ll 3).1 rfl (bG (aj cg (aj (bZ (ak (dc Qal ai ⟨Wm,Wm⟩)) QP We) (aj (aH (c_ ((c / 16,n)) E.Ez Q1 (ah (ak (dc Qal ai ⟨Wm,Wm⟩)) Qc8) (hn) rfl) (t2:=.sh QkH) rfl) aL))) aD) rfl WE (aq (aq (aq ?_)));rw[m _ (by rw[hd];unfold zJ;rw[bX a,bX o])];exact⟨_,_,_,rfl⟩
 case fin=>
  rintro U ⟨l,i,f,rfl⟩;apply aX (eG E.fc Qa8 (dZ QtW _) Qbd);have e:(ck 0 (aE s q % 3).toNat).length=(aE s q % 3).toNat:=by simp[ck]
  rw[e];rfl
noncomputable def Ot:FG KW ["script","at","boxes"] ["range","_law_cell","_law_name","_law_term","tuple"] (ao KR):=fG
def EB(s:AT):Int:=aE s 36 % 9
def lK(s:AT)(m:Nat):AT:=sortI ((List.range (EB s).toNat).map λ(k:Nat)=>aE s (37+(k:Int)) % (m:Int))
def EC(es:AT)(src c:Int):Int:=if 1<c % 4 then(iG es QbI).getD (c / 4 % ((iG es QbI).length:Nat)).toNat 0 else c / 4 % (es.length:Nat)
def Gq(s:AT)(c:Int):Prop:=c % 4=1\/aE s 36 / 9 % 5=1
instance(s:AT)(c:Int):Decidable (Gq s c):=by unfold Gq;infer_instance
noncomputable def VN(c:Int):Str:=(["new","near","far"]:At).getD (c % 3).toNat Str.empty
def Gr(s es:AT)(n k:Nat)(src:Int):bM where
 src:=src
 sign:=u4 s (aE s (200+12*(k:Int)) % Qgp)
 asks:=IC s (200+12*(k:Int)+1) es.length n
 lG:=gV s (200+12*(k:Int)+4) n
 jj:=if Gq s Qos then -1 else EC es src Qos
 mode:=if Gq s Qos then "new" else VN (aE s (200+12*(k:Int)+8))
def zK(s es:AT)(n:Nat):List bM:=(List.range (lK s es.length).length).map λk=>Gr s es n k ((lK s es.length).getD k 0)
theorem II{s:AT}(hm:1<=m)(h:x∈lK s m):0<=x/\x<m:=by
 obtain⟨k,_,rfl⟩:=ip.1 (gP.1 h);exact⟨lL _ We,l8 _ We⟩
theorem IJ(s:AT)(m:Nat):(lK s m).length<=8:=by
 unfold lK;rw[kB,cK,nh];unfold EB;lia
def acg(s es:AT)(n k:Nat)(src:Int):(dN (Gr s es n k src)).m7=true:=by
 show(true&&(true&&(D.bf (IC _ _ _ _)&&(D.bf (gV _ _ _)&&QrV))))=true;rw[xW,jD];rfl
def RZ(s es:AT)(n:Nat):D.bf ((zK s es n).map dN)=true:=fU λd hd=>by
 obtain⟨w,hw,rfl⟩:=ip.1 hd;obtain⟨k,_,rfl⟩:=ip.1 hw;exact acg _ _ _ _ _
abbrev KY:=top 76
abbrev R0:=AT×AT×Nat
noncomputable abbrev R1:At:=["script","elders","boxes","many","count","names","ways","source","at","name","asks","deeds","cell","target","near","mode"]
noncomputable def zL:R0->BA:=λ(s,es,n)=>[.lst Qcg,.lst Qbv,.int n]
def uq:R0->Prop:=λ(s,es,n)=>s.length<=1000/\1<=es.length/\es.length<=900/\n<=1000
def zM:R0->T:=λ(s,es,n)=>(.lst (((zK s es n).map dN).map T.sh):T)
structure alc(X:Cx)(CL:BM):Prop extends EL X R1 ["len","_law_cell","sorted","range","_law_name","_law_asks","_law_deeds","_law_inner"],fF X.K X.mg CL where
 ur:Ka X "script"
 ald:Ka X "many"
 cY:Fc X CL "_law_cell" 1 2 iz cC f6
 RX:Fc X CL "_law_name" 2 2 zH uf ug
 ale:Fc X CL "_law_asks" 3 4 Ex zI Ey
 C6:Fc X CL "_law_deeds" 3 3 vP kI vQ
 xV:Fc X CL "_law_inner" 1 2 mO gw mP
theorem alf(E:alc X CL) :
  j6 X CL b KY R1 zL uq zM:=by
 rintro⟨s,es,n⟩ h;dsimp only [uq,zL,zM]at h ⊢;obtain⟨hs,e0,e1,hn⟩:=h;refine aF E.g Qax (aH (cU (cK ..) E.d9 QH QA) (t2:=.sh QpJ) rfl) ?_;refine aF E.g Qar (aH (bZ (ak (c_ ((s,36)) E.cY QN QbV (by dsimp only [cC];exact(⟨We,We,hs⟩)) rfl)) ai Wm) (t2:=.sh (.int (EB s))) rfl) ?_;have R:=qu s (k:=62) We;refine aF E.g Qaq (aH (cy ai (ak (bZ (ak (c_ ((s,62)) E.cY QN QbV (by dsimp only [cC];exact(⟨We,We,hs⟩)) rfl)) ai Wm))) (t2:=.sh (.int Qgp)) rfl) ?_;have k0:0<=EB s:=lL (aE s 36) (show(9:Int)≠0 by decide);have k1:EB s<9:=l8 (aE s 36) (show(0:Int)<9 by decide);have N:=IJ s es.length;have H:∀{x:Int},x∈lK s es.length->0<=x/\x<es.length:=λh=>II e0 h;refine aF E.g QaF Qa1 ?_;have hit:(((ck 0 (EB s).toNat).filter λ_=>true).map λd=>T.sh (.int (aE s (37+d.tS) % (es.length:Nat))))=((((List.range (EB s).toNat).map λ(k:Nat)=>aE s (37+(k:Int)) % (es.length:Nat)).map D.int).map T.sh):=by
  rw[fM];unfold ck;rw[i0,i0,i0];refine mB λk _=>?_;show T.sh (.int (aE s (37+(0+(k:Int))) % _))=_;rw[mx];rfl
 refine fS E.g Qbb (λj U=>∃F B A K v u t a r,U=[some QeK,some Qgv,some Qbj,some Qox,some QmN,some QmO,some QkK,F,B,A,K,v,u,t,a,r])
  (dX (gX (ds:=(lK s es.length).map .int) (nH E.lJ (aW (aH (qS (p:=λ_=>true) (b9 (.cons (E.ll 3).1 (.inl E.ald) QkV) Wl) E.g.calm (dY E.fE QaL (We) Q1) Qay (λC s0 H0 f0 b' d hd=>?AO) (lx (cj (by simp[ck];lia)))) (congrArg T.lst hit))) WE QU))) ⟨_,_,_,_,_,_,_,_,_,rfl⟩ (λj U ⟨_,_,_,_,_,_,_,_,_,e⟩=>by subst e;exact iq rfl) ?turn ?fin
 case AO=>
  obtain⟨i,hi,rfl⟩:=ip.1 hd;have HM:i<(EB s).toNat:=by simpa using hi
  exact⟨rfl,λ_=>(bZ (ak (c_ ((s,37+Qcs)) (kW E.cY) y9 (ah (i6 2) Qsb) (by dsimp only [cC];exact(⟨We,We,hs⟩)) rfl)) (i6 1) We)⟩
 case turn=>
  rintro j d U O ⟨F,B,A,K,v,u,t,a,r,rfl⟩;obtain⟨src,rfl,CP,Z,sS,_,_⟩:=jM O;obtain⟨x0,L⟩:=H Z;have J:(lK s es.length).getD j 0=src:=by rw[kq,CP];rfl
  have y:((((List.range j).map λk=>Gr s es n k ((lK s es.length).getD k 0)).map dN)).length=j:=by simp
  have M:∀x:D,x=dN (Gr s es n j src)->((((List.range j).map λk=>Gr s es n k ((lK s es.length).getD k 0)).map dN).map T.sh)++[T.sh x]=((((List.range QF).map λk=>Gr s es n k ((lK s es.length).getD k 0)).map dN).map T.sh):=λx e=>by
   subst e;rw[<- J];simp[ph]
  refine aF E.g Qdc (aH (cy ai (ak (xB ai (ak (cU (y) E.d9 QdN QA)) (.inl ⟨Wm,Wm⟩)))) (t2:=.sh Qoh) rfl) ?_;generalize hw:Gr s es n j src=w at M;have W:u4 s (aE s Qf6 % Qgp)=w.sign:=by rw[<- hw];rfl
  have m0:=lL (aE s Qf6) (show(1+aE s 62 % 3:Int)≠0 by lia);have m1:=l8 (aE s Qf6) (show(0:Int)<1+aE s 62 % 3 by lia);refine aF E.g QkA (aH (c_ ((s,aE s Qf6 % Qgp)) E.RX Qbd (ah QD (ah (ak (bZ (ak (c_ ((s,200+12*(j:Int))) E.cY QN (ah QD (ah QoS av)) (by dsimp only [cC];exact(⟨We,We,hs⟩)) rfl)) Qal We)) av)) (by dsimp only [uf];exact(⟨hs,m0,We⟩)) rfl) (t2:=.sh Qoi) (congrArg (λz=>T.sh (.str z)) W)) ?_;have has:IC s (200+12*(j:Int)+1) es.length n=w.asks:=by rw[<- hw];rfl
  have I:gV s (200+12*(j:Int)+4) n=w.lG:=by rw[<- hw];rfl
  refine aF E.g (E.ll 10) (aH (c_ (s,200+12*(j:Int)+1,es.length,n) E.ale Qb4 (ah QD (ah Qk8 (ah Qaw Qc8))) (by dsimp only [zI];exact⟨hs,We,We,hn,e0⟩) ((xW _ _ _ _))) (t2:=.sh Qoj) (congrArg QrW has)) ?_;refine aF E.g (E.ll 11) (aH (c_ (s,200+12*(j:Int)+4,n) E.C6 Qb3 (ah QD (ah Qk8 Qc8)) (by dsimp only [kI];exact⟨hs,We,We,hn⟩) (Qpc)) (t2:=.sh QoT) (congrArg QrW I)) ?_;have P:=qu s (k:=200+12*(j:Int)+7) We;refine aF E.g (E.ll 12) (aH (c_ ((s,200+12*(j:Int)+7)) E.cY QN Qs8 (by dsimp only [cC];exact(⟨We,We,hs⟩)) rfl) (t2:=.sh (.int Qin)) rfl) ?_;have o:w.jj=if Gq s Qin then -1 else EC es src Qin:=by rw[<- hw];rfl
  have q:w.mode=if Gq s Qin then("new":Str) else VN (aE s (200+12*(j:Int)+8)):=by rw[<- hw];rfl
  have G:w.src=src:=by rw[<- hw];rfl
  generalize aE s (200+12*(j:Int)+7)=c at P o q ⊢;refine aF E.g (E.ll 13) (bZ (ak (dc QmA ai ⟨Wm,Wm⟩)) Qaw We) ?_;refine tP (λU=>∃a,U=[some QeK,some Qgv,some Qbj,some Qox,some QmN,some QmO,some QkK,some QvE,some (.sh Qoh),some (.sh Qoi),some (.sh Qoj),some (.sh QoT),some (.sh (.int c)),some (.sh Qui),a,r]) (HL QvZ ai).1 (λm=>?_) (λm=>?_) ?_
  .have m:=l1 m;have oq:0<(iG es QbI).length:=List.length_pos_of_mem (qZ x0 L rfl);refine aF E.g (E.ll 14) (aH (c_ ((es,es.getD src.toNat 0)) E.xV Qfp (ah QH (ah (bQ QH QbK (ic x0 L)) av)) ((by dsimp only [gw];lia)) (aO _)) rfl) ?_;have Y:((iG es QbI).map D.int).length=(iG es QbI).length:=by simp
   have V:=lL Qdl (b:=((iG es QbI).length:Nat)) We;have S:=l8 Qdl (b:=((iG es QbI).length:Nat)) We;refine aF E.g (E.ll 13) (aH (fq (bQ (vL (E.ll 14).1) (ak (bZ (ak (dc QmA ai ⟨Wm,Wm⟩)) (ak (cU (Y) E.d9 (vL (E.ll 14).1) QA)) We)) (ic V S)) rfl) (t2:=.sh Qui) (by unfold EC;rw[cq m])) QlQ
  .have m:=mN m;refine aq ⟨a,?_⟩;rw[show EC es src c=c / 4 % (es.length:Nat) by unfold EC;rw[bX m]];rfl
  rintro U ⟨a,rfl⟩;refine aF E.g (E.ll 15) (aH (fq (bQ QlC (ak (bZ (ak (c_ ((s,200+12*(j:Int)+8)) E.cY QN Qs8 (by dsimp only [cC];exact(⟨We,We,hs⟩)) rfl)) ai Wm)) (fJ (f:=D.str) (l:=["new","near","far"]) Str.empty (Int.emod_nonneg _ Wm) (Int.emod_lt_of_pos _ Wm))) rfl) rfl) ?_;refine tP (λU=>U=[some QeK,some Qgv,some Qbj,some Qox,some QmN,some QmO,some QkK,some QvE,some (.sh Qoh),some (.sh Qoi),some (.sh Qoj),some (.sh QoT),some (.sh (.int c)),some (.sh (.int w.jj)),a,some (.sh (.str w.mode))]) (kh (lE (eY QvZ ai).1 (λhb=>(jv (eY (ak (bZ (ak (dc (ak (c_ ((s,36)) E.cY QN QbV (by dsimp only [cC];exact(⟨We,We,hs⟩)) rfl)) ai ⟨Wm,Wm⟩)) ai Wm)) ai).1)))) (λm=>?_) (λm=>?_) ?_
  .have m:Gq s c:=by
    unfold Gq;simpa using m
   rw[cq m]at o q;rw[o,q];exact aF E.g (E.ll 13) QbZ (aF E.g (E.ll 15) cg Qd1)
  .have m:¬ Gq s c:=by
    unfold Gq;simpa using m
   rw[bX m]at o q;rw[o,q];exact aq rfl
  rintro U rfl;refine iZ (E.ll 6).1 rfl (bG (aj Qc7 (aj (v_ (E.ll 9).1) (aj QnE (aj (v_ (E.ll 11).1) (aj (v_ (E.ll 13).1) (aj (v_ (E.ll 15).1) aL)))))) aD) rfl (by rw[cK,y];lia) (aq ?_);rw[M _ (by unfold dN;rw[G])];exact⟨_,_,_,_,_,_,_,_,_,rfl⟩
 case fin=>
  rintro U ⟨F,B,A,K,v,u,t,a,r,rfl⟩;rw[cK];exact aX (vM (E.ll 6).1) rfl
def KZ:UI (ao KY) ([("script",.cell),("elders",cI),("boxes",cI),("many",.cell),("count",cI),("names",cI),("ways",cI),("source",cI),("at",cI),("name",cI),("asks",cI),("deeds",cI),("cell",cI),("target",cI),("near",cI),("mode",cI),("len",bT),("_law_cell",bT),("sorted",bT),("range",bT),("_law_name",bT),("_law_asks",bT),("_law_deeds",bT),("_law_inner",bT)])=true:=by decide +kernel
noncomputable def agl:dB R1 ["script","elders","boxes"] (ao KY):=jN
def pd(s:AT)(k:Nat):Str×Int:=(("b":Str)++sI (k:Int),Om (aE s (33+(k:Int))))
def Gs(s:AT):List QoG:=(List.range (aE s 32 % 4).toNat).map (pd s)
def wk(s:AT):Nat:=(aE s 32 % 4).toNat
def X8(s:AT)(q:Int)(n:Nat):BA:=(List.range n).map λ(k:Nat)=>.tup (gV s Qjo (wk s))
def fO(s:AT)(most:Nat):Nat:=(if 0<qw s then max QuK ((most:Int)-1) else 1+aE s 0 % (most:Int)).toNat
theorem VP(s:AT){most:Nat}(h:1<=most):1<=fO s most/\fO s most<=most/\((fO s most:Nat):Int)=if 0<qw s then max QuK ((most:Int)-1) else 1+aE s 0 % (most:Int):=by
 have a:=lL (aE s 0) (b:=most) We;have b:=l8 (aE s 0) (b:=most) We;unfold fO;lia
noncomputable def A5(bs:BA)(es:AT)(ks:At)(ss:AT)(is os ws:BA):D:=.tup [.lst bs,.lst Qbv,.lst QcD,.lst Qdb,.lst is,.lst os,.lst ws]
theorem ach(s:AT):(Gs s).length<=3:=by
 unfold Gs;simp;lia
abbrev C7:=top 77
abbrev K0:=AT×Nat
noncomputable abbrev K1:At:=["script","most","many","elders","kinds","starts","count","boxes","ins","outs"]
noncomputable def vR:K0->BA:=λ(s,most)=>[.lst Qcg,.int most]
def vS:K0->Prop:=λ(s,most)=>s.length<=1000/\1<=most/\most<=9
def vU:K0->T:=λ(s,most)=>(.sh (A5 ((Gs s).map j7) Qi6 Quj (VG s Qi6 Quj 16 Qgi) (X8 s 100 Qgi) (X8 s 103 Qgi) ((zK s Qi6 (wk s)).map dN)):T)
structure agn(X:Cx)(CL:BM):Prop extends EL X K1 ["_law_cell","max","_law_elders","_law_kinds","_law_chosen","range","_law_ways"],fF X.K X.mg CL where
 ur:Ka X "script"
 VQ:Ka X "count"
 cY:Fc X CL "_law_cell" 1 2 iz cC f6
 aci:Fc X CL "_law_elders" 2 2 rH nM rJ
 ago:Fc X CL "_law_kinds" 2 2 A3 vO A4
 acj:Fc X CL "_law_chosen" 2 4 xT rL xU
 alg:Fc X CL "_law_ways" 4 3 zL uq zM
 Ew:Fc X CL "_law_number" 1 1 rM rN rO
 C6:Fc X CL "_law_deeds" 3 3 vP kI vQ
theorem agp(E:agn X CL) :
  j6 X CL b C7 K1 vR vS vU:=by
 rintro⟨s,most⟩ h;dsimp only [vS,vR,vU]at h ⊢;obtain⟨hs,m1,m2⟩:=h;obtain⟨n1,B,c⟩:=VP s m1;refine aF E.g Qak (cy ai (ak (bZ (ak (c_ ((s,0)) E.cY QA QbV (by dsimp only [cC];exact(⟨We,We,hs⟩)) rfl)) QH We))) ?_;refine tP (λU=>U=[some QeK,some (.sh (.int most)),some (.sh Quk),none,none,none,none,none,none,none]) (HL (ak (bZ (ak (dc (ak (c_ ((s,0)) E.cY QA QbV (by dsimp only [cC];exact(⟨We,We,hs⟩)) rfl)) ai ⟨Wm,Wm⟩)) ai Wm)) ai).1 (λa=>?_) (λa=>?_) ?_
 .have a:0<qw s:=l1 a;rw[cq a]at c;refine aF E.g Qak (aH (aeN E.g E.apd QN (ah QP (ah (ak (qJ QH ai)) av))) (t2:=.sh Quk) ?_) Qd1;rw[c];show T.sh (.int (if (most:Int)-1 > 1+aE s 0 % (most:Int) then(most:Int)-1 else 1+aE s 0 % (most:Int)))=_;congr 2;split<;>lia
 .have a:¬ 0<qw s:=mN a;rw[bX a]at c;refine aq ?_;rw[c];rfl
 rintro U rfl;obtain⟨j,u⟩:=C5 s n1 We;generalize fO s most=n at n1 B c j u ⊢;refine aF E.g Qax (aH (c_ ((s,n)) E.aci QU QnF (by dsimp only [nM];exact(⟨n1,We,hs⟩)) (aO _)) (t2:=T.lst (((jQ s n).map .int).map T.sh)) rfl) ?_;generalize jQ s n=es at j u ⊢;refine aF E.g Qar (aH (c_ ((s,es)) E.ago Q1 (ah QD QjJ) (by dsimp only [vO];exact(⟨We,hs⟩)) (qW _)) (t2:=T.lst (((A2 s es n).map .str).map T.sh)) (by rw[<- j];rfl)) ?_;have y:=KL s es n;have t:=VF s es;rw[j]at t;generalize A2 s es n=ks at y t ⊢;refine aF E.g Qaq (aH (c_ ((s,es,ks,16)) E.acj Qbd (ah QD (ah Qa8 (ah QeC Qpd))) (by dsimp only [rL];exact(⟨We,hs,We,t,We,We⟩)) (aO _)) (t2:=T.lst (((VG s es ks 16 n).map .int).map T.sh)) (by rw[<- j];rfl)) ?_;generalize VG s es ks 16 n=ss;have l:aE s 32 % 4=((wk s:Nat):Int):=by unfold wk;lia
 have r:wk s<4:=by unfold wk;lia
 refine aF E.g QaF (aH (bZ (ak (c_ ((s,32)) E.cY QA QbV (by dsimp only [cC];exact(⟨We,We,hs⟩)) rfl)) ai Wm) (t2:=.sh (.int (wk s:Nat))) (congrArg QlP l)) ?_;have e:Gs s=(List.range (wk s)).map (pd s):=rfl;rw[e];generalize o:wk s=nb at r e ⊢;refine oY (p:=λ_=>true) (gg:=λd=>T.sh Qts) E.g Qbb (b9 QkV Wl) (dY E.fE Qam We Qb4) Qay (λC s0 x f0 v d hd=>?AO) (lx (cj (by simp[ck];lia))) ?rest (by exact iq rfl) Qch
 case AO=>
  obtain⟨i,hi,rfl⟩:=ip.1 hd;have w:i<nb:=by simpa using hi
  have A:(i:Int).natAbs.log2<1920/\(toString (i:Int):Str).length<=50:=by
   have:i=0\/i=1\/i=2:=by lia
   obtain rfl|rfl|rfl:=this<;>exact⟨Wl,Wl⟩
  have m:Qcs=(i:Int):=mx _;have F:(D.int Qcs).tS.toNat=i:=by show(0+(i:Int)).toNat=i;lia
  refine⟨rfl,λ_=>aH (bG (aj (nA dg (ak (mL E.oG y9 (jA 0) ((by rw[m];exact A.1)))) ((by rw[m,sizeLine_eq];show 1+(toString (i:Int):Str).length<=_;lia))) (aj (c_ (aE s (33+Qcs)) (kW E.Ew) y9 (ah (ak (c_ ((s,33+Qcs)) (kW E.cY) y9 (ah (i6 1) Qsb) (by dsimp only [cC];exact(⟨We,We,hs⟩)) rfl)) av) (trivial) rfl) aL)) aD) ?_⟩;show T.sh _=T.sh (j7 (pd s (D.int Qcs).tS.toNat));rw[F];unfold pd j7;rw[m];rfl
 case rest=>
 have em:((ck 0 (nb:Int).toNat).filter λ_=>true).map (λd=>T.sh Qts)=(((List.range nb).map (pd s)).map j7).map T.sh:=by
  rw[fM];unfold ck;rw[i0,i0,i0,k4];refine mB λk _=>?_;show T.sh (j7 (pd s (0+(k:Int)).toNat))=_;rw[show(0+(k:Int)).toNat=k by lia];rfl
 rw[em];generalize G:(List.range nb).map (pd s)=bs;have f:∀q:Int,((ck 0 (n:Int).toNat).filter λ_=>true).map (λd=>T.sh (.tup (gV s (q+6*d.tS) nb)))=(((List.range n).map λ(k:Nat)=>D.tup (gV s Qjo nb)).map T.sh):=λq=>by
  rw[fM];unfold ck;rw[i0,i0,k4];refine mB λk _=>?_;show T.sh (.tup (gV s (q+6*(0+(k:Int))) nb))=_;rw[mx];rfl
 refine oY (p:=λ_=>true) (gg:=λd=>T.sh (.tup (gV s (100+6*d.tS) nb))) E.g Qdc QqE Qul Qay (λC s0 x f0 v d hd=>?alh) (lx (cj (by simp[ck];lia))) ?apj (by exact iq rfl) Qch
 case alh=>
  obtain⟨i,hi,rfl⟩:=ip.1 hd;have w:i<n:=by simpa using hi
  exact⟨rfl,λ_=>c_ (s,100+6*Qcs,nb) (kW E.C6) y9 (ah (i6 2) (ah (ak (cy ai (ak (xB ai (jA 0) (.inl ⟨Wm,Wm⟩))))) (ah (i6 1) av))) (by dsimp only [kI];exact⟨hs,We,We,We⟩) (show T.clean Qs9=true from Qpc)⟩
 case apj=>
 rw[f 100];refine oY (p:=λ_=>true) (gg:=λd=>T.sh (.tup (gV s (103+6*d.tS) nb))) E.g QkA QqE Qul Qay (λC s0 x f0 v d hd=>?acm) (lx (cj (by simp[ck];lia))) ?acn (by exact iq rfl) Qch
 case acm=>
  obtain⟨i,hi,rfl⟩:=ip.1 hd;have w:i<n:=by simpa using hi
  exact⟨rfl,λ_=>c_ (s,103+6*Qcs,nb) (kW E.C6) y9 (ah (i6 2) (ah (ak (cy ai (ak (xB ai (jA 0) (.inl ⟨Wm,Wm⟩))))) (ah (i6 1) av))) (by dsimp only [kI];exact⟨hs,We,We,We⟩) (show T.clean Qs9=true from Qpc)⟩
 case acn=>
 rw[f 103];refine aX (jc (nE (aG (vM (E.ll 7).1) (aG (Hm (E.ll 3).1 rfl) (aG QeW (aG QnX (aG QnY (aG (vM (E.ll 9).1) (aG (aH (c_ (s,es,nb) E.alg Qb3 (ah QD (ah Qaw (ah Qam av))) (by dsimp only [uq];exact⟨hs,We,We,We⟩) (bW (RZ s es nb))) (t2:=.lst (((zK s es nb).map dN).map T.sh)) rfl) bu))))))) aD) ?_) rfl;rw[T.cu,T.cD,T.cD,T.cD,T.cD,T.cD,T.cD,T.cD,T.cD,bF,bF,bF,bF,bF,bF,T.cu];unfold A5 X8;rw[o]
def ED:UI (ao C7) ([("script",.cell),("most",cI),("many",cI),("elders",cI),("kinds",cI),("starts",cI),("count",.cell),("boxes",cI),("ins",cI),("outs",cI),("_law_cell",bT),("max",bT),("_law_elders",bT),("_law_kinds",bT),("_law_chosen",bT),("range",bT),("_law_ways",bT)])=true:=by decide +kernel
noncomputable def aco:dB K1 ["script","most"] (ao C7):=jN
abbrev uv:=inClass (top 10) 0
abbrev uw:=At×AT×AT
noncomputable abbrev ux:At:=["self","kinds","elders","starts"]
noncomputable def kX:uw->BA:=λ(ks,es,ss)=>[.lst QcD,.lst Qbv,.lst Qdb]
def kY:uw->Prop:=λ(ks,es,ss)=>True
def kZ:uw->BS:=λ(ks,es,ss)=>(zf ks es ss:BS)
def Ow(E:Gp ux ["list"] X CL)(ks:At)(es ss:AT)(y:Addr)(h:True) :
  cQ X CL b (bN uv) (JL ux y "Tree" [.lst QcD,.lst Qbv,.lst Qdb]) {nx:=λU=>U[0]? = some (some (.pin y QlA)),rt:=λ_ _=>False}:=by
 have hi:D.bf (ks.map D.str)=true:=dZ Qcm _;refine fZ E.iU E.gu (E.ll 0).1 (cS E.cJ QH hi QA aU).m rfl Qaz ?_;exact fZ E.iU E.i7 (E.ll 0).1 (cS E.cJ QP (bE _) QA aU).m rfl Qaz (fZ E.iU E.wH (E.ll 0).1 (cS E.cJ Qaw (bE _) QA aU).m rfl Qaz Qd1)
noncomputable def rP:FG ux ["self","kinds","elders","starts"] ["list"] (ao uv):=fG
abbrev rQ:=inClass (top 7) 0
abbrev rR:=BA×BA×V×BA×BA×BA
noncomputable abbrev rS:At:=["self","boxes","names","tree","ins","outs","ways"]
noncomputable def jR:rR->BA:=λ(bs,nm,tv,is,os,ws)=>[.lst bs,.lst nm,.val tv,.lst is,.lst os,.lst ws]
def jS:rR->Prop:=λ(bs,nm,tv,is,os,ws)=>D.bf bs=true/\D.bf nm=true/\D.bf is=true/\D.bf os=true/\D.bf ws=true
def jT:rR->BS:=λ(bs,nm,tv,is,os,ws)=>(lX bs nm (.sh (.val tv)) is os ws:BS)
def K2(E:Gp rS ["list"] X CL)(bs nm:BA)(tv:V)(is os ws:BA)(y:Addr)(h:D.bf bs=true/\D.bf nm=true/\D.bf is=true/\D.bf os=true/\D.bf ws=true) :
  cQ X CL b (bN rQ) (JL rS y "Chart" [.lst bs,.lst nm,.val tv,.lst is,.lst os,.lst ws]) {nx:=λU=>U[0]? = some (some (.pin y (.ins "Chart" (lX bs nm (.sh (.val tv)) is os ws)))),rt:=λ_ _=>False}:=by
 obtain⟨h1,h2,d,c,a⟩:=h;refine fZ E.bU E.wI (E.ll 0).1 (cS E.cJ QH h1 QA aU).m rfl Qaz ?_;refine fZ E.bU E.wK (E.ll 0).1 (cS E.cJ QP h2 QA aU).m rfl Qaz ?_;refine fZ E.bU E.cV (E.ll 0).1 (v_ (E.ll 3).1).m rfl Qaz ?_;refine fZ E.bU E.t9 (E.ll 0).1 (cS E.cJ QaL d QA aU).m rfl Qaz ?_;exact fZ E.bU E.zE (E.ll 0).1 (cS E.cJ Qal c QA aU).m rfl Qaz (fZ E.bU E.cW (E.ll 0).1 (cS E.cJ Qam a QA aU).m rfl Qaz Qd1)
noncomputable def pF:FG rS ["self","boxes","names","tree","ins","outs","ways"] ["list"] (ao rQ):=fG
def nz(k:Nat):Str:=("m":Str)++sI (k:Int)
def tD(n:Nat):At:=(List.range n).map nz
theorem acq(k:Nat)(h:k<=40):(k:Int).natAbs.log2<1920/\(toString (k:Int):Str).length<=50/\PyData.strOk (toString (k:Int):Str)=true:=by
 have h2:((List.range 41).all λk=>decide ((k:Int).natAbs.log2<1920)&&decide ((toString (k:Int):Str).length<=50)&&PyData.strOk (toString (k:Int)))=true:=by decide +kernel
 have:=me.1 h2 k Qhi;simp_all
abbrev K3:=top 78
abbrev K4:=BA×AT×At×AT×BA×BA×BA
noncomputable abbrev K5:At:=["parts","names","tree"]
def A6:K4->BA:=λ(bs,es,ks,ss,is,os,ws)=>[A5 bs es ks ss is os ws]
def A7:K4->Prop:=λ(bs,es,ks,ss,is,os,ws)=>D.bf bs=true/\D.bf is=true/\D.bf os=true/\D.bf ws=true/\es.length<=40
def A8:K4->T:=λ(bs,es,ks,ss,is,os,ws)=>(.ins "Chart" (lX bs ((tD es.length).map .str) QlA is os ws):T)
structure agq(X:Cx)(CL:BM):Prop extends EL X K5 ["range","len","Tree","list","Chart"],fF X.K X.mg CL where
 EF:Fm X CL "Tree" 1 4 kX kY kZ
 zN:Fm X CL "Chart" 1 7 jR jS jT
theorem agr(E:agq X CL) :
  j6 X CL b K3 K5 A6 A7 A8:=by
 rintro⟨bs,es,ks,ss,is,os,ws⟩ h;obtain⟨c,ii,io,a,hl⟩:=h;refine oY (p:=λ_=>true) (gg:=λd=>T.sh Qh1) E.g Qfq Qe9 (dY E.fE (ak (cU (cK ..) E.d9 QdH QN)) We QA) Qay (λC s0 m f0 j d hd=>?AO) (lx (cj (by simp[ck];lia))) ?rest Qaz Qch
 case AO=>
  obtain⟨i,hi,rfl⟩:=ip.1 hd;have l:=by simpa using hi
  obtain⟨q1,f,_⟩:=acq i We;have e:(0+i)=(i:Int):=mx _;refine⟨rfl,λ_=>aH (nA dg (ak (mL E.oG y9 (jA 0) ((e▸q1)))) ((by rw[ko];show 1+(toString _:Str).length<=_;lia))) ?_⟩;rfl
 case rest=>
 have em:((ck 0 (es.length:Int).toNat).filter λ_=>true).map Qmc=((tD es.length).map D.str).map T.sh:=by
  rw[fM];unfold ck tD;rw[i0,i0,i0];refine mB λk _=>?_;show T.sh Qlt=_;rw[show(0+(k:Int)).toNat=k by lia];rfl
 exact em▸aF E.g Qak (aH (mk_ (ks,es,ss) E.EF QU (ah (aW (cS E.cJ QdH (ig _) Q1 aU)) (ah QqO (ah QqO av))) trivial (jC ks es ss)) rfl) (aX (HI (λv=>(bs,(tD _).map _,v,is,os,ws)) E.zN Qbd
  (qi (aW (cS E.cJ QdH c Q1 aU)) (qi Qmp
   (DM QgM
    (ah (aW (cS E.cJ QdH ii Q1 aU)) (ah (aW (cS E.cJ QdH io Q1 aU)) (ah (aW (cS E.cJ QdH a Q1 aU)) av))))))
  (λv=>rfl) (λv=>⟨c,ig _,ii,io,a⟩) QnP (rj c (ig _)) (rA ii io a)) rfl)
noncomputable def Ox:FG K5 ["parts"] ["range","len","Tree","list","Chart"] (ao K3):=fG
abbrev C8:=top 14
abbrev K6:=At×AT×AT×Int
noncomputable abbrev K7:At:=["tree","mood"]
def vV:K6->BA:=λ(ks,es,ss,m)=>[dG ks es ss,.int m]
def m8:K6->Prop:=λ(ks,es,ss,m)=>es.length<=1000
def vW:K6->T:=λ(ks,es,ss,m)=>(.lst (((iG es m).map .int).map T.sh):T)
structure ags(X:Cx)(CL:BM):Prop extends EL X K7 ["enumerate"],fF X.K X.mg CL where
 RH:Ka X "mood"
def agt(E:ags X CL) :
  j6 X CL b C8 K7 vV m8 vW:=by
 rintro⟨ks,es,ss,m⟩ h;refine aX (DF (aeX (xs:=["place","elder"]) QqZ Wl) E.g.calm
  (Nr 0 E.BV (tT E.iU E.i7 QaK ou) QA) Qay (λC s0 c f0 a=>⟨CN (by show List.Nodup (["place","elder","mood"]:At);decide +kernel) E.g.calm (QV rfl Wl) (QV rfl Wl),λd hd=>?AO⟩) (by rw[cK,nh];exact lx (cj h))) (congrArg _ (abl es m))
 case AO=>
  obtain⟨i,hi,rfl⟩:=ip.1 hd;exact⟨_,rfl,rfl,(eY (jA 1) (i6 2)).1,λ_=>v_ (J9 0)⟩
def Oz:UI (ao C8) ([("tree",cI),("mood",.cell),("enumerate",bT)])=true:=by decide +kernel
noncomputable def acr:dB K7 ["tree","mood"] (ao C8):=jN
abbrev uy:=top 44
abbrev uz:=At×AT×AT×AT×Nat×Str
noncomputable abbrev uA:At:=["tree","memory","mood","mode","kind"]
def pG:uz->BA:=λ(ks,es,ss,mem,m,mode)=>[dG ks es ss,.lst Qc3,.int m,.str mode]
def pH:uz->Prop:=λ(ks,es,ss,mem,m,mode)=>es.length<=900/\ks.length=es.length/\ss.length=es.length/\mem.length=es.length/\m<es.length/\tY mode/\∀k:Nat,k<es.length->aV ks k=true\/bw ks k=true\/ks.getD k Str.empty="one"
def k6:uz->T:=λ(ks,es,ss,mem,m,mode)=>(.lst (((MJ Qa4 Qa5 es ss mem (eN mode || gU mode) m).map .int).map T.sh):T)
structure OB(X:Cx)(CL:BM):Prop extends EL X uA ["inner"],fF X.K X.mg CL where
 K8:Fc X CL "inner" 1 2 vV m8 vW
theorem OD(E:OB X CL) :
  j6 X CL b uy uA pG pH k6:=by
 rintro⟨ks,es,ss,mem,m,mode⟩ h;dsimp [k6]at h ⊢;obtain⟨hl,k,hs,hm,n,j,i⟩:=h;apply aF E.g Qar (fq (bQ Qiv QP (fJ _ We We)) rfl);refine dR (iS QaL dg).1 (λc=>?_) (λc=>aq ?_)
 .apply aX Qa1;unfold MJ;rw[cq (show aV ks m=true from c)];rfl
 refine dR (iS QaL dg).1 (λd=>?_) (λd=>aq ?_)
 .apply aX (c_ ((ks,es,ss,(m:Int))) E.K8 QA QnF ((by dsimp [m8];lia)) (aO _));unfold MJ;rw[bX (λz=>by rw[show aV ks m=false from c]at z;cases z),cq (show bw ks m=true from d)];rfl
 have key:MJ Qa4 Qa5 es ss mem (eN mode || gU mode) m=[j8 ss mem (eN mode || gU mode) m]:=by
  unfold MJ;rw[bX (λz=>by rw[show aV ks m=false from c]at z;cases z),bX (λz=>by rw[show bw ks m=false from d]at z;cases z)]
 rw[key];have f:(eN mode || gU mode)=!decide (mode="new"):=by
  obtain e|e|e:=j<;>rw[e]<;>decide +kernel
 refine dR (kh (lE (iS Qaw dg).1 (λl=>(jv (eY QvU QdS).1)))) (λa=>?_) (λa=>aq ?_)
 .apply aX (e7 (aj (fq (bQ (cH E.iU E.wH QD NS) QP Qg7) rfl) aL) aD);have e:j8 ss mem (eN mode || gU mode) m=ss.getD (m:Int).toNat 0:=by
   unfold j8;rw[bX (λz=>by
    rw[f]at z;simp at a;obtain w|w:=a
    .rw[mu w]at z;cases z.1
    .exact z.2 w)]
  rw[e];rfl
 .apply aX (e7 (aj (fq QvU rfl) aL) aD);have e:j8 ss mem (eN mode || gU mode) m=mem.getD (m:Int).toNat 0:=by
   unfold j8;simp at a;rw[cq ⟨by rw[f,kv a.1];rfl,a.2⟩]
  rw[e];rfl
noncomputable def zO:FG uA ["tree","memory","mood","mode"] ["inner"] (ao uy):=fG
abbrev EG:=top 43
abbrev EH:=At×AT×AT×AT×Nat×Str
noncomputable abbrev EI:At:=["tree","memory","mood","mode","found","further","place"]
def nO:EH->BA:=λ(ks,es,ss,mem,m,mode)=>[dG ks es ss,.lst Qc3,.int m,.str mode]
def nP(dd:Nat):EH->Prop:=λ(ks,es,ss,mem,m,mode)=>(es.length<=900/\ks.length=es.length/\ss.length=es.length/\mem.length=es.length/\m<es.length/\tY mode/\∀k:Nat,k<es.length->aV ks k=true\/bw ks k=true\/ks.getD k Str.empty="one")/\e9 Qa4 Qa5 es ss mem/\es.length<=m+dd+1
def kJ:EH->T:=λ(ks,es,ss,mem,m,mode)=>(.lst (((Ij ks es ss mem mode m).map .int).map T.sh):T)
structure acs(X:Cx)(CL:BM)(dd:Nat):Prop extends EL X EI ["opened_in","opened"],fF X.K X.mg CL where
 OG:Fc X CL "opened_in" 2 4 pG pH k6
 qx:∀d',d'<dd->Fc X CL "opened" (3+d') 4 nO (nP d') kJ
theorem acu{dd:Nat}(E:acs X CL dd) :
  j6 X CL b EG EI nO (nP dd) kJ:=by
 rintro⟨ks,es,ss,mem,m,mode⟩ h;dsimp [kJ]at h ⊢;obtain⟨B,c,K⟩:=h;have w:=B;obtain⟨hl,H,hs,hm,y,P,u⟩:=B;have s:Ij ks es ss mem mode m=(m:Int)::(MJ Qa4 Qa5 es ss mem (eN mode || gU mode) m).flatMap QhM:=by
  unfold Ij;rw[NW c _ QeZ y We We,kG]
 rw[s];apply aF E.g Qar (e7 QjK aD);refine aF E.g Qaq (ajL (t:=.sh (.str QhS)) (iS Qaw dg).1 (λn=>aH cg (by rw[cq (show eN mode=true from n)])) (λn=>aH cg (by rw[bX (λz=>by rw[show eN mode=false from n]at z;cases z)]))) ?_;have C:tY QhS:=by
  split
  .exact .inr Qay
  .exact .inl rfl
 have l:eN QhS=eN mode:=by
  cases e:eN mode with
  | true=>decide +kernel
  | false=>decide +kernel
 have i:gU QhS=false:=by
  cases e:eN mode with
  | true=>decide +kernel
  | false=>decide +kernel
 generalize J:(if eN mode=true then("far":Str) else "new")=A at C l i ⊢;have f:∀p∈MJ _ _ es ss mem (eN mode || gU mode) m,p∈iG es m:=λp G=>qo c y G;have x:=CW c (far:=eN mode) (near:=gU mode) (d:=es.length+1) y;rw[kG]at x;generalize v:MJ _ _ es ss mem _ m=a at f x ⊢;refine fS E.g QaF (λj U=>∃o,U=[some _,some _,some _,some _,some (.lst ((((m:Int)::(a.take j).flatMap (λp=>kG Qa4 Qa5 es ss mem Qks es.length false p)).map _).map _)),some _,o])
  (dX (gX (aH (t2:=T.lst ((a.map _).map _)) (c_ ((ks,es,ss,mem,m,mode)) E.OG QA (ah QD (ah QH QrF)) (w) (aO _)) (by rw[<- v];rfl)))) ⟨_,rfl⟩ (λj U ⟨_,e⟩=>by subst e;exact iq rfl) ?turn ?fin
 case turn=>
  rintro j d U I ⟨o,rfl⟩;obtain⟨p,rfl,_,r,N,_,M⟩:=jM I;have O:=cB c.pre (f p r);obtain⟨q,rfl⟩:∃q:Nat,p=q:=⟨p.toNat,We⟩;have F:=CW c (far:=eN mode) (near:=false) (d:=es.length) (k:=q) We;have hpl:(((m:Int)::(a.take j).flatMap QhM).length)<=es.length:=by
   refine ky ?_ x;apply Nat.succ_le_succ;have h2:=t4 j a
   conv=>rhs;rw[<- h2]
   rw[w4,ke];lia
  refine nJ (E.ll 4).1 rfl (Gk (aW (c_ (ks,es,ss,mem,q,A) (E.qx (dd-1) We) QN (ah QD (ah QH (ah Qam QjI))) (⟨⟨hl,H,hs,hm,We,C,u⟩,c,We⟩) (aO _))) (bE _)) rfl ?len (aq ?_)
  case len=>
   rw[cK,cK,cK];show _+(kG _ _ es ss mem _ _ _ q).length<=_;lia
  have L:(((m:Int)::(a.take j).flatMap QhM).map D.int).map T.sh++((Ij ks es ss mem A q).map D.int).map T.sh=(((m:Int)::(a.take QF).flatMap QhM).map D.int).map T.sh:=by
   unfold Ij;rw[l,i,M];simp
  rw[L];exact⟨_,rfl⟩
 case fin=>
  rintro U ⟨o,rfl⟩;rw[cK,md];exact aX QeW rfl
noncomputable def A9:FG EI ["tree","memory","mood","mode"] ["opened_in","opened"] (ao EG):=fG
abbrev Ba:=top 56
abbrev Bb:=BA×BA×D×EU×BA×BA×AT
noncomputable abbrev Bc:At:=["chart","come","rows","mood"]
def oH:Bb->BA:=λ(bs,nm,tr,is,os,ws,a)=>[fz bs nm tr Qok os ws,.lst QeX]
def lM:Bb->Prop:=λ(bs,nm,tr,is,os,ws,a)=>pC is/\a.length<=1000/\∀m∈a,0<=m/\m<is.length
def lN:Bb->T:=λ(bs,nm,tr,is,os,ws,a)=>(.lst ((inR is a).map T.sh):T)
theorem Yb(E:Gp Bc [] X CL) :
  j6 X CL b Ba Bc oH lM lN:=by
 rintro⟨bs,nm,tr,is,os,ws,a⟩ h;dsimp [lN]at h ⊢;obtain⟨c,hl,l⟩:=h;apply aF E.g Qak Qa1;refine fS E.g Qax (λj U=>∃o,U=[some _,some _,some (.lst ((inR is (a.take j)).map T.sh)),o])
  (dX Qbn) ⟨_,rfl⟩ (λj U ⟨_,e⟩=>by subst e;exact iq rfl) ?turn ?fin
 case turn=>
  rintro j d U k ⟨o,rfl⟩;obtain⟨m,rfl,_,hm,p,_,n⟩:=jM k;obtain⟨m0,m1⟩:=l m hm;have i:=(AY c (a.take j)).1;have f:(a.take j).length<=j:=by simp;lia
  obtain⟨g1,g2⟩:=c.get _;apply iZ (E.ll 2).1 rfl QvV rfl (by rw[cK];lia);refine nJ (E.ll 2).1 rfl (Gk (bQ (cH E.bU E.t9 QD Ik) Qaw (fJ [] m0 m1)) g2) rfl (by rw[ke,cK,rr];lia) (aq ⟨some Qn2,?_⟩);rw[n,abz,i5,i3];rfl
 case fin=>
  rintro U ⟨o,rfl⟩;rw[cK,md];exact aX QgM rfl
noncomputable def EJ:FG Bc ["chart","come"] [] (ao Ba):=fG
abbrev K9:=top 51
abbrev La:=BA×BA×At×AT×AT×EU×BA×BA
noncomputable abbrev Lb:At:=["chart","memory","opens"]
def vX:La->BA:=λ(bs,nm,ks,es,ss,is,os,ws)=>[fz bs nm Qa2 Qok os ws]
def qy:La->Prop:=λ(bs,nm,ks,es,ss,is,os,ws)=>nm.length=es.length/\0<es.length/\es.length<=61/\ks.length=es.length/\ss.length=es.length/\is.length=es.length/\pC is/\(∀k:Nat,k<es.length->aV ks k=true\/bw ks k=true\/ks.getD k Str.empty="one")/\e9 Qa4 Qa5 es ss Qic
def qz:La->T:=λ(bs,nm,ks,es,ss,is,os,ws)=>(.tup [.lst ((inR is (Ij ks es ss Qic "new" 0)).map T.sh),.lst (((Ij ks es ss Qic "new" 0).map .int).map T.sh),.lst (((List.replicate es.length (-1)).map .int).map T.sh)]:T)
structure agv(X:Cx)(CL:BM):Prop extends EL X Lb ["len","opened","in_rows"],fF X.K X.mg CL where
 qx:Fc X CL "opened" 63 4 nO (nP 60) kJ
 Bd:Fc X CL "in_rows" 1 2 oH lM lN
theorem agw(E:agv X CL) :
  j6 X CL b K9 Lb vX qy qz:=by
 rintro⟨bs,nm,ks,es,ss,is,os,ws⟩ h;dsimp [qz]at h ⊢;obtain⟨d,h0,hl,j,hs,hi,i,e,f⟩:=h;apply aF E.g Qfq (aH (vG (aW Qiw) (ak (cU d E.d9 (cH E.bU E.wK QD NZ) QA)) rfl We We (by rw[ko];simp;lia)) (by rw[abS]));have k:(List.replicate _ (-1)).length=es.length:=pz ..;apply aF E.g Qak (aH (c_ (ks,es,ss,List.replicate _ _,0,("new":Str)) E.qx QN (ah QcZ (ah Qmp (ah ai (ah dg av)))) (⟨⟨We,j,hs,k,h0,.inl rfl,e⟩,f,We⟩) (aO _)) (t2:=.lst _) rfl);have c:(Ij ks es ss _ "new" 0).length<=es.length:=CW f h0;have a:∀m∈Ij ks es ss _ "new" 0,0<=m/\m<is.length:=λm hm=>by
  have l:=cA f _ h0 m hm;lia
 generalize Ij ks es ss _ _ 0=ops at c a ⊢;exact aX (nE (aG (aH (c_ (bs,nm,dG ks es ss,is,os,ws,ops) E.Bd QU (ah QD (ah Qjj av)) (⟨i,We,a⟩) (bW (AY i ops).2)) rfl) (aG QgM (aG (vM (E.ll 1).1) bu))) aD) rfl
noncomputable def OI:FG Lb ["chart"] ["len","opened","in_rows"] (ao K9):=fG
noncomputable def Gu(l:At)(s:Str):At:=if s∈l then l else l++[s]
def zP(l:At):At:=l.foldl Gu []
def Yc(l:At)(s:Str):zP (l++[s])=Gu (zP l) s:=by unfold zP;simp
theorem OJ(l:At):(zP l).length<=l.length:=by
 unfold zP;have gen:∀(l acc:At),(l.foldl Gu acc).length<=acc.length+l.length:=by
  intro l
  induction l with
  | nil=>simp
  | cons y l a=>
   intro acc;have h1:(Gu acc y).length<=acc.length+1:=by unfold Gu;split<;>simp
   have:=a (Gu acc y);simp;lia
 have:=gen l [];simp_all
noncomputable def Zb(l:At):List QoX:=l.map λs=>((Sum.inr s:Key),D.bl true)
theorem agx(l:At)(s:Str):((Zb l).any λa=>decide (a.1=Sum.inr s))=decide (s∈l):=by
 unfold Zb
 induction l with
 | nil=>rfl
 | cons y l b=>
  by_cases h:y=s
  .subst h;simp
  .have h':¬ s=y:=λe=>h e.symm;simp_all
def agy(l:At)(s:Str):BO (Zb l) (.inr s) QbA=Zb (Gu l s):=by
 unfold BO;rw[agx];unfold Gu;by_cases h:s∈l
 .rw[cq (mu h),cq h];unfold Zb;rw[i0];refine mB λy _=>?_;simp
 .rw[if_neg (by simpa using h),if_neg h];unfold Zb;rw[i5];rfl
def acv(l:At):((Zb l).map (·.1)).map DJ=l.map D.str:=by
 unfold Zb;rw[i0,i0];rfl
abbrev Lc:=top 8
abbrev Ld:=BA×BA×D×BA×BA×(List (D×Str×BA))
noncomputable abbrev Le:At:=["chart","found","way"]
def m9:Ld->BA:=λ(bs,nm,tr,is,os,ws)=>[fz bs nm tr is os (ws.map z6)]
def iL:Ld->Prop:=λ(bs,nm,tr,is,os,ws)=>ws.length<=1000
def kK:Ld->T:=λ(bs,nm,tr,is,os,ws)=>(.lst (((zP (ws.map (·.2.1))).map D.str).map T.sh):T)
theorem agz(E:Gp Le ["SIGN","list"] X CL) :
  j6 X CL b Lc Le m9 iL kK:=by
 rintro⟨bs,nm,tr,is,os,ws⟩ h;dsimp [iL,kK]at h ⊢;apply aF E.g Qfq UM;refine fS E.g Qak (λj U=>∃a,U=[some _,some (.jt (Zb (zP ((ws.map (·.2.1)).take j)))),a])
  (dX QeA) ⟨_,rfl⟩ (λj U ⟨_,e⟩=>by subst e;exact iq rfl) ?turn ?fin
 case turn=>
  rintro j d U c ⟨a,rfl⟩;obtain⟨w,rfl,hw,_,f,_,_⟩:=jM c;have hl:(Zb (zP ((ws.map (·.2.1)).take j))).length<=1000000:=by
   have h1:=OJ ((ws.map (·.2.1)).take j);have h2:(Zb (zP ((ws.map (·.2.1)).take j))).length=(zP ((ws.map (·.2.1)).take j)).length:=by unfold Zb;simp
   have i:((ws.map (·.2.1)).take j).length<=j:=by simp;lia
   lia
  refine Sl (.inr _) E.u (E.ll 1).1 mC (bI QP (ak (aN E.RE QA)) pe) rfl hl (aq ⟨some (.sh (z6 w)),?_⟩);rw[agy,<- Yc];have e:(ws.map (·.2.1)).take QF=(ws.map (·.2.1)).take j++[w.2.1]:=by
   rw[List.take_succ,j2,hw];rfl
  rw[e];rfl
 case fin=>
  rintro U ⟨a,rfl⟩;rw[List.take_of_length_le Wp];apply aX (aar E.g E.cJ (vE (E.ll 1).1 rfl (by rw[T.cu])) QN);rw[acv]
noncomputable def OL:FG Le ["chart"] ["SIGN","list"] (ao Lc):=fG
abbrev pI:=inClass (top 59) 0
abbrev pJ:=D×Nat×World
noncomputable abbrev pK:At:=["self","chart","most"]
def sU:pJ->BA:=λ(cd,mo,w)=>[cd,.int mo]
def sV:pJ->Prop:=λ(cd,mo,w)=>True
def sW:pJ->BS:=λ(cd,mo,w)=>(MN cd mo w ⟨[],[],8*mo⟩:BS)
def Gv(E:Gp pK ["ROWS_FOR_A_FLAT"] X CL)(cd:D)(mo:Nat)(w:World)(y:Addr)(h:True) :
  cQ X CL b (bN pI) (JL pK y "Growth" [cd,.int mo]) {nx:=λU=>U[0]? = some (some (.pin y (.ins "Growth" (MN cd mo w ⟨[],[],8*mo⟩)))),rt:=λ_ _=>False}:=by
 refine fZ E.aY E.iA (E.ll 0).1 (v_ (E.ll 1).1).m rfl Qaz ?_;refine fZ E.aY E.wL (E.ll 0).1 (v_ (E.ll 2).1).m rfl Qaz ?_;refine fZ E.aY E.ef (E.ll 0).1 (b8 bu aD).m rfl Qaz ?_;refine fZ E.aY E.je (E.ll 0).1 afA.m rfl Qaz ?_;refine fZ E.aY E.pD (E.ll 0).1 DQ.m rfl Qaz ?_;refine fZ E.aY E.fV (E.ll 0).1 (xB (ak (aN E.zF QA)) QP (.inl ⟨Wm,Wm⟩)).m rfl Qaz ?_;refine Lu (i:=0) _ w rfl (Ky (gQ)) (λd hd=>by cases hd) (aq ?_);rfl
noncomputable def nQ:FG pK ["self","chart","most"] ["ROWS_FOR_A_FLAT"] (ao pI):=fG
abbrev fD:=inClass (top 59) 1
abbrev gy:=Addr×D×Nat×World×GS×Pl
noncomputable abbrev cZ:At:=["self","opens","memory","flat"]
def c6:gy->Bn:=λ(y,cd,mo,w,s,p)=>[.pin y Qll,.sh QeF,.sh QeG]
def c7:gy->Bn:=λ(y,cd,mo,w,s,p)=>[.pin y QpV,.sh QeF,.sh QeG]
def eo:gy->Prop:=λ(y,cd,mo,w,s,p)=>(s.fl.Nodup/\s.fl.length<=mo/\mo<=900)/\¬ (p∉s.fl/\s.fl.length=mo)
def eu:gy->T:=λ(y,cd,mo,w,s,p)=>(.sh Qum:T)
theorem mG(E:QqQ){y:Addr}{w:World}{s:GS}{p:Pl}(h:s.fl.Nodup/\s.fl.length<=mo/\mo<=900)(j:p∉s.fl/\s.fl.length=mo->∃e W,X=Cx.gS e (XE e W)/\eL b W Qez) :
  cQ X CL b (bN fD) (oZ cZ [.pin y Qll,.sh QeF,.sh QeG]) {nx:=λ_=>False,rt:=λm U=>¬ (p∉s.fl/\s.fl.length=mo)/\m=.sh Qum/\Keeps U [.pin y QpV,.sh QeF,.sh QeG]}:=by
 obtain⟨h1,h2,n⟩:=h;have ok:=RI h1 We;apply Lu (i:=0) _ X.w rfl (Ky gQ) (Kz s.fl w X.w);unfold MN;rw[abQ gQ (af4 _)];apply aF E.g Qax (bG (aj (eG E.fc QH (bE _) QA) (aj (eG E.fc QP (bE _) QA) aL)) aD);show cQ X CL b _ [some _,some _,some _,some (.sh (lZ p))] _;refine tP (J:=λU=>¬ (p∉s.fl/\s.fl.length=mo)/\U=[some (.pin y (.ins "Growth" (Ir cd mo (.lst (((t8 s.fl p).map lZ).map T.sh)) (.j5 X.w ((t8 s.fl p).map lZ) (Kx (t8 s.fl p).length)) Qpk Qnh))),some (.sh QeF),some (.sh QeG),some (.sh (lZ p))]) (afC E.u ok Qaw QrX (vK p) rfl) (λa=>?_) (λa=>?_) ?_
 .have a:=λz=>by rw[tw]at a;exact mN a (zB.2 z)
  have d:=λz=>a (zB.1 z);refine dR (eY (ak (cU (cK ..) E.d9 QkM QN)) (jd (fY E.aY E.wL Qcb rfl rfl Vx) rfl (iy Vx) rfl)).1 (λc=>?_) (λc=>aq ?_)
  .obtain⟨e,W,rfl,k⟩:=j ⟨a,We⟩;exact UY E.g.calm QU E.rG E.Ek k
  have c:=mN c;apply afG E.u ok (cU (cK ..) E.d9 QkM QN) QpL QbU rfl (iy gQ) (vK p) d;refine DT (fY E.aY E.ef Qcb rfl rfl eV) rfl (iy eV) QbU rfl (iy eV) WE (aq ⟨λz=>c We,?_⟩);unfold t8;rw[bX a,i5,i5,ke,rr,<- XY];rfl
 .have a:=by
   rw[zb]at a;exact zB.1 (l1 a)
  refine aq ⟨λz=>z.1 a,?_⟩;unfold t8;rw[cq a]
 rintro U ⟨hn,rfl⟩;obtain⟨b1,b2,b3,o,f⟩:=Vz h1 p;have hm:=kA f;have l:(t8 s.fl p).idxOf p=Za s.fl p:=by
  have:=List.idxOf_lt_length_of_mem hm;apply(List.getElem?_inj this b1).1;rw[kf this,List.getElem_idxOf,f]
 apply Lu (i:=0) _ w rfl (Ky gQ) (Kz _ X.w w);refine aX (fq (afB E.u (RI b1 We) (akG QrX (Kz _ w X.w)) Qaw (zB.2 hm) (by show(Kx _)[List.idxOf (lZ p) _]? = _;rw[Vy,l];exact af7 b2)) rfl) ⟨hn,rfl,?_⟩;exact Sr (ds:=[.lst _,.lst _])
def xX(E:QqQ) :
  L3.TB X CL b fD cZ c6 eo eu c7:=by
 rintro⟨y,cd,mo,w,s,p⟩ h;dsimp only [eo,c6,eu,c7]at h ⊢;exact(mG E h.1 λz=>absurd z h.2).mono QeM λ_ _ z=>z.2
abbrev iB:Type:=Addr×D×Nat×World×GS×Pl
def dH:iB->Bn:=λ(y,cd,mo,w,s,p)=>[.pin y Qll,.sh QeF,.sh QeG]
def dI:iB->Prop:=λ(y,cd,mo,w,s,p)=>(s.fl.Nodup/\s.fl.length<=mo/\mo<=900)/\(p∉s.fl/\s.fl.length=mo)
def dJ:iB->Str:=λ(y,cd,mo,w,s,p)=>"TooWide"
variable{W:XK}
def wm(E:Gp cZ ["tuple","len","TooWide"] Qbx CL)(y cd mo w s p)(h:dI (y,cd,mo,w,s,p))(a:eL b W (CL (dJ (y,cd,mo,w,s,p)))) :
  cQ Qbx CL b (bN fD) (oZ cZ (dH (y,cd,mo,w,s,p))) {nx:=λ_=>False,rt:=λ_ _=>False}:=by
 dsimp only [dI,dH,dJ]at h a ⊢;exact(mG E h.1 λ_=>⟨X,W,rfl,a⟩).mono QeM λ_ _ z=>absurd h.2 z.1
noncomputable def dM:FG cZ ["self","opens","memory"] ["tuple","len","TooWide"] (ao fD):=fG
abbrev k7:=top 22
abbrev pL:=BA×BA×At×AT×AT×BA×BA×BA×AT
noncomputable abbrev pM:At:=["chart","opens"]
def l0:pL->BA:=λ(bs,nm,ks,es,ss,is,os,ws,ops)=>[fz bs nm Qa2 is os ws,.lst Qcl]
def mh:pL->Prop:=λ(bs,nm,ks,es,ss,is,os,ws,ops)=>ops.length<=1000/\∀x∈ops,0<=x/\x<ks.length
def jf:pL->T:=λ(bs,nm,ks,es,ss,is,os,ws,ops)=>(.lst (((Qh ks ops).map .int).map T.sh):T)
structure Gw(X:Cx)(CL:BM):Prop extends EL X pM [],fF X.K X.mg CL where
 jU:Ka X "chart"
def Gy(E:Gw X CL) :
  j6 X CL b k7 pM l0 mh jf:=by
 rintro⟨bs,nm,ks,es,ss,is,os,ws,ops⟩ h;dsimp [jf]at h ⊢;obtain⟨hl,e⟩:=h;refine aX (qS (p:=λd=>MM ks d.tS) (g:=T.sh) QhV E.g.calm (dX Qbn) Qay (λC s0 i f0 f d hd=>?AO) (Nat.le_of_lt (cj (by simpa using hl)))) ?eq
 case AO=>
  obtain⟨x,c,rfl⟩:=ip.1 hd;obtain⟨x0,a⟩:=e x c;exact⟨(iS (bQ (cH (by exact E.iU) (by exact E.gu) (cH (by exact E.bU) (by exact E.cV) (i6 1) fB) kD) (jA 0) (fJ _ x0 a)) dg).1,λ_=>v_ (J9 0)⟩
 case eq=>
  rw[tc,i0,i0];rfl
def uB:UI (ao k7) ([("chart",.cell),("opens",cI)])=true:=by decide +kernel
noncomputable def EK:dB pM ["chart","opens"] (ao k7):=jN
abbrev nR:=top 38
abbrev nS:=Gm
noncomputable abbrev nT:At:=["branch"]
def iM:nS->BA:=λs=>[Kw s]
def iN:nS->Prop:=λs=>True
def iO:nS->T:=λs=>(.sh (Kw (Vv s)):T)
def ER(E:Gp nT ["LEAF","ASKED","PICKED","HELD"] X CL) :
  j6 X CL b nR nT iM iN iO:=by
 intro s h;dsimp only [iN,iM,iO]at h ⊢;exact aX (aH (bG (aj (cy (bI QD QuL lW) ai) (aj jG (aj (bK QaK (ak (aN E.vN QN)) AG) (aj (bK QaK (ak (aN E.qv QU)) NF) (aj (bK QaK (ak (aN E.KJ Q1)) QnG) aL))))) aD) (t2:=.sh (Kw (Vv s))) rfl) rfl
noncomputable def sX:FG nT ["branch"] ["LEAF","ASKED","PICKED","HELD"] (ao nR):=fG
abbrev pN:=top 21
abbrev pP:=BA×BA×D×BA×BA×List bM×Nat×bM
noncomputable abbrev pQ:At:=["chart","way"]
def mj:pP->BA:=λ(bs,nm,tr,is,os,ws,k,w)=>[fz bs nm tr is os QaY,.int k]
def jg:pP->Prop:=λ(bs,nm,tr,is,os,ws,k,w)=>ws[k]? = some w/\w.asks.length<=1000/\D.bf w.asks=true/\∀d∈w.asks,∃x r,d=.tup (.str x::r)
def mq:pP->T:=λ(bs,nm,tr,is,os,ws,k,w)=>(.sh (.tup (N7 w.asks)):T)
def Gz(E:Gp pQ ["tuple","ASKS"] X CL) :
  j6 X CL b pN pQ mj jg mq:=by
 rintro⟨bs,nm,tr,is,os,ws,k,w⟩ h;obtain⟨a,hl,hi,c⟩:=h;have e:xq _ k=some (dN w):=c9 (by rw[j2,a];rfl);refine aX (eG E.fc (aeI (aH (qS Qe9 E.g.calm (ZX (bK (QK QeA QH e) (ak (aN E.Sa QN)) rfl)) Qay (λC s0 i f0 f d hd=>?AO) (lx (cj hl))) rfl) rfl) (fU λd hd=>qh hi d (l7.1 hd).1) QA) rfl
 case AO=>
  obtain⟨x,r,rfl⟩:=c d hd;exact⟨(aeO (bI (jA 0) ai lW) (ak (bG Qh7 aD)) rfl rfl).1,λ_=>v_ (J9 0)⟩
noncomputable def uC:FG pQ ["chart","way"] ["tuple","ASKS"] (ao pN):=fG
abbrev uD:=top 40
abbrev uE:=Gm×Int
noncomputable abbrev uF:At:=["branch","way","picked"]
def pR:uE->BA:=λ(s,w)=>[Kw s,.int w]
def pS:uE->Prop:=λ(s,w)=>s.pk.length<=100000
def pT:uE->T:=λ(s,w)=>(.sh (Kw (nv s w)):T)
theorem OO(E:Gp uF ["PICKED","LEAF","WAY","ASKED","HELD"] X CL) :
  j6 X CL b uD uF pR pS pT:=by
 rintro⟨s,w⟩ h;have h:s.pk.length<=100000:=h;apply aF E.g Qak (bK QaK (ak (aN E.qv QA)) NF);refine tP (λU=>U=[some Qoy,some (.sh (.int w)),some (.sh (.tup ((qp s.pk w).map .int)))]) (yQ QH QP rfl rfl).1 (λa=>?_) (λa=>?_) ?_
 .have e:=by
   rw[tw]at a;exact mN a
  refine aF E.g Qak (Ny QaD (bG Qta aD) Qtl (by rw[cK,ko];show s.pk.length+1<=_;lia)) (aq ?_);unfold qp;rw[bX e,i5];rfl
 .have e:=by
   rw[zb]at a;exact l1 a
  apply aq;unfold qp;rw[cq e];rfl
 rintro U rfl;exact aX (aH (bG (aj (bK QaK Qun lW) (aj (bK QaK (ak (aN E.Iw QU)) pe) (aj (bK QaK (ak (aN E.vN Q1)) AG) (aj QaD (aj (bK QaK QtX QdW) aL))))) aD) rfl) rfl
noncomputable def zQ:FG uF ["branch","way"] ["PICKED","LEAF","WAY","ASKED","HELD"] (ao uD):=fG
abbrev pU:=top 39
abbrev pV:=Gm
noncomputable abbrev pW:At:=["branch"]
def jh:pV->BA:=λs=>[Kw s]
def ji:pV->Prop:=λs=>True
def jk:pV->T:=λs=>(.sh (Kw (Y9 s)):T)
def GA(E:Gp pW ["LEAF","WAY","ASKED","PICKED","HELD"] X CL) :
  j6 X CL b pU pW jh ji jk:=by
 intro s h;dsimp only [ji,jh,jk]at h ⊢;exact aX (aH (bG (aj (bK QaK QuL lW) (aj (cy (bI QD (ak (aN E.Iw QN)) pe) ai) (aj (bK QaK (ak (aN E.vN QU)) AG) (aj (bK QaK (ak (aN E.qv Q1)) NF) (aj (bK QaK QtX QnG) aL))))) aD) (t2:=.sh (Kw (Y9 s))) rfl) rfl
noncomputable def uG:FG pW ["branch"] ["LEAF","WAY","ASKED","PICKED","HELD"] (ao pU):=fG
abbrev uH:=top 41
abbrev uI:=CC×Int×Bool
noncomputable abbrev uJ:At:=["held","way","holds","behind"]
def k8:uI->BA:=λ(hl,w,c)=>[.jt (XR hl),.int w,.bl c]
def gR:uI->Prop:=λ(hl,w,c)=>d7 hl w=none/\hl.length<=10000
def k9:uI->T:=λ(hl,w,c)=>(.jt (XR QoH):T)
theorem OQ(E:Gp uJ ["dict"] X CL) :
  j6 X CL b uH uJ k8 gR k9:=by
 rintro⟨hl,w,c⟩ h;dsimp only [gR,k8,k9]at h ⊢;obtain⟨h1,h2⟩:=h;refine aF E.g Qax (aaJ E.RY QaK QA) ?_;refine Sl Qd0 E.u (E.ll 3).1 QaD QH rfl (by unfold XR;rw[cK];lia) ?_;refine aX Qji ?_;show T.jt _=T.jt _;rw[afZ c h1]
noncomputable def zR:FG uJ ["held","way","holds"] ["dict"] (ao uH):=fG
abbrev Be:=top 37
abbrev Bf:=BA×BA×D×BA×BA×List bM×ET×Gm
noncomputable abbrev Bg:At:=["chart","rows","branch","way","asks","held","holding","failing"]
def uK:Bf->BA:=λ(bs,nm,tr,is,os,ws,R,s)=>[fz bs nm tr is os QaY,LA R,Kw s]
def uL:Bf->Prop:=λ(bs,nm,tr,is,os,ws,R,s)=>s.i<R.length/\s.j<=(R.getD s.i []).length/\(s.qs.length<=1000000/\s.pk.length<=10000/\s.hl.length<=10000)/\(∀l∈R,∀w∈l,0<=w/\w<(ws.length:Int))/\Rt ws
def uM:Bf->T:=λ(bs,nm,tr,is,os,ws,R,s)=>(.lst (((nZ ws R s).map Kw).map T.sh):T)
structure Yd(X:Cx)(CL:BM):Prop extends EL X Bg ["WAY","len","LEAF","at_next_leaf","number_asks","HELD","with_pick","at_next_way","ASKED","PICKED","with_held"],fF X.K X.mg CL where
 jV:Fc X CL "at_next_leaf" 1 1 iM iN iO
 GB:Fc X CL "number_asks" 1 2 mj jg mq
 uN:Fc X CL "with_pick" 1 2 pR pS pT
 wR:Fc X CL "at_next_way" 1 1 jh ji jk
 BX:Fc X CL "with_held" 1 3 k8 gR k9
theorem Ye(E:Yd X CL) :
  j6 X CL b Be Bg uK uL uM:=by
 rintro⟨bs,nm,tr,is,os,ws,R,s⟩ h;obtain⟨hi,S,⟨O,P,L⟩,M,C⟩:=h;have G:xq Qry (s.i:Int)=some _:=(fJ [] We We).trans (by rw[k4]);show cQ X CL b _ _ {nx:=_,rt:=λN _=>N=T.lst _,bk:=_,ct:=_};unfold nZ;have hl:((R.getD s.i []).map D.int).length=(R.getD s.i []).length:=cK ..;have m:s.pk.length<=100000:=by lia
 refine dR (eY QuM (ak (cU hl E.d9 Qrz QN))).1 (λa=>?_) (λa=>aq ?_)
 .rw[cq We];exact aX (b8 (aG (cF s E.jV Q1 QjK trivial) bu) aD) rfl
 rw[bX We];have I:s.j<(R.getD s.i []).length:=by lia
 have y:xq ((R.getD s.i []).map D.int) (s.j:Int)=some _:=(ic We We).trans (by rw[k4]);obtain⟨p,H⟩:0<=(R.getD s.i []).getD s.j 0/\(R.getD s.i []).getD s.j 0<(ws.length:Int):=by
  refine M (R.getD s.i []) ?_ _ ?_
  .rw[kq,kf hi];exact o2 _
  .rw[kq (l:=R.getD s.i []),kf I];exact o2 _
 refine aF E.g Qax (fq (bQ Qrz QuM y) rfl) ?_;generalize (R.getD s.i []).getD s.j 0=w at p H ⊢;have r:ws.getD w.toNat w0∈ws:=by
  rw[kq,kf We];exact o2 _
 obtain⟨a1,a2,a3,a4⟩:=C _ r;have x:ws[w.toNat]? = some (ws.getD w.toNat w0):=by rw[kq,kf We];rfl
 have t:D.bf ((vJ ws w).map xN)=true:=dZ Qcm _;have K:=C.len w;have F:N7 (ws.getD w.toNat w0).asks=(vJ ws w).map xN:=a4;refine aF E.g Qar (aH (c_ (bs,nm,tr,is,os,ws,w.toNat,ws.getD w.toNat w0) E.GB Qbd (ah QD (ah (mE Qaw (congrArg D.int (show w=((w.toNat:Nat):Int) by lia))) av)) (by dsimp only [jg];exact⟨x,We,a2,a3⟩) (by show D.bf (N7 _)=true;rw[F];exact t)) (by show T.sh (.tup (N7 _))=_;rw[F])) ?_;refine aF E.g Qaq (bK QaD (ak (aN E.KJ Qb4)) QnG) ?_;have o:∀{b:Bool},(decide ((((vJ ws w).map xN).length:Int)=0))=b->(b=true↔vJ ws w=[]):=λe=>by
  subst e;rw[cK,vk];constructor
  .intro z;exact IP We
  .intro z;rw[z];rfl
 have hv:=afY s.hl w;cases n:d7 s.hl w with
 | some c=>
  have k:Cm (XR s.hl) Qd0=some (.bl c):=by rw[hv,n];rfl
  refine dR (kh (lE (eY Qsc ai).1 (λ_=>jv (kh (lU Qh6 (λ_=>om (fX (fq (ae5 Qd0 E.u Qal Qaw k) rfl)))))))) (λa=>?_) (λa=>aq ?_)
  .rw[k]at a;have A:vJ ws w=[]\/some c=some true:=by
    cases c with
    | true=>exact .inr rfl
    | false=>
     rw[vy,vw]at a;exact .inl ((o rfl).1 a)
   rw[cq A];exact aX Qpr rfl
  .rw[k]at a;have f:¬ vJ ws w=[]:=λz=>by
    rw[(o rfl).2 z]at a;cases a
   have v:c=false:=by
    cases c with
    | true=>rw[Option.isSome_some,xn,Bool.or_true]at a;cases a
    | false=>rfl
   subst v;rw[bX (λz=>z.elim f (λz=>by cases z)),cq rfl];refine dR Qh6 (λ_=>?_) (λhz=>by rw[k]at hz;cases hz);exact aX (b8 (aG (cF s E.wR Qfp QjK trivial) bu) aD) rfl
 | none=>
  have k:Cm (XR s.hl) Qd0=none:=by rw[hv,n];rfl
  refine dR (kh (lE (eY Qsc ai).1 (λ_=>jv (kh (lU (q:=false) Qh6 (λhz=>by rw[k]at hz;cases hz)))))) (λa=>?_) (λa=>aq ?_)
  .rw[k]at a;have A:vJ ws w=[]:=by
    rw[vy,vw]at a;exact(o rfl).1 a
   rw[cq (.inl A)];exact aX Qpr rfl
  .have f:¬ vJ ws w=[]:=λz=>by
    rw[(o rfl).2 z]at a;cases a
   rw[bX (λz=>z.elim f (λz=>by cases z)),bX (λz=>by cases z)];refine dR Qh6 (λhz=>by rw[k]at hz;cases hz) (λ_=>aq ?_);have B:∀c:Bool,gR (s.hl,w,c):=λc=>by dsimp only [gR];exact⟨n,L⟩
   have J:(vJ ws w).map xN≠[]:=λz=>f (List.map_eq_nil_iff.1 z);refine aF E.g QaF (jc (d:=Kw ⟨s.i,s.j,s.qs++vJ ws w,s.pk,s.hl++[(w,true)]⟩) (nE (aG Quo (aG Qup (aG (Ny QqR QdO J (by rw[cK,cK,ko];lia)) (aG QqS (aG (aH (cF (s.hl,w,true) E.BX Qdh Qrp (B true)) (t2:=.jt (XR (s.hl++[(w,true)]))) rfl) bu))))) aD) (by
    rw[T.cu,T.cD,T.cD,T.cD,T.cD,T.cD,T.cD,T.cu,T.cu,T.cu,T.cu,T.cu,<- i5];rfl)) ?_
   refine aF E.g Qbb (jc (d:=Kw ⟨s.i,s.j,s.qs,s.pk,s.hl++[(w,false)]⟩) (nE (aG Quo (aG Qup (aG QqR (aG QqS (aG (aH (cF (s.hl,w,false) E.BX Qdh Qrp (B false)) (t2:=.jt (XR (s.hl++[(w,false)]))) rfl) bu))))) aD) (by
    rw[T.cu,T.cD,T.cD,T.cD,T.cD,T.cD,T.cD,T.cu,T.cu,T.cu,T.cu,T.cu];rfl)) ?_
   exact aX (b8 (aG (cF _ E.wR Qfp (aj Qc7 aL) trivial) (aG (cF _ E.jV Q1 (aj (cF ((⟨s.i,s.j,s.qs++vJ ws w,s.pk,s.hl++[(w,true)]⟩:Gm),w) E.uN Qb3 (aj Qc4 Qnc) (by exact m)) aL) trivial) bu)) aD) rfl
noncomputable def EV:FG Bg ["chart","rows","branch"] ["WAY","len","LEAF","at_next_leaf","number_asks","HELD","with_pick","at_next_way","ASKED","PICKED","with_held"] (ao Be):=fG
abbrev Lf:=top 11
abbrev Lg:=At×AT×AT×Int
noncomputable abbrev Lh:At:=["tree","mood","found","elder"]
def kL:Lg->BA:=λ(ks,es,ss,m)=>[dG ks es ss,.int m]
def kM:Lg->Prop:=λ(ks,es,ss,m)=>ez es/\0<=m/\m<es.length/\es.length<=1000
def kN:Lg->T:=λ(ks,es,ss,m)=>(.lst (((bV es m).map .int).map T.sh):T)
theorem agA(E:Gp Lh [] X CL) :
  j6 X CL b Lf Lh kL kM kN:=by
 rintro⟨ks,es,ss,m⟩ h;obtain⟨d,h0,h1,hlen⟩:=h;apply aF E.g Qak Qa1;apply aF E.g Qax (fq (bQ Qme QH (ic h0 h1)) rfl);have hm:=d.at h0 h1;apply CK E.g (λn U=>∃(k:Int) (l:AT),U=[some _,some _,some (.lst ((l.map .int).map T.sh)),some Qjq] /\ -1<=k/\k<n/\k<es.length/\l++DX n es k=bV es m/\l.length+n<=es.length+1) QeZ
  ⟨ _,[],rfl,hm.1,We,We,rfl,Wp⟩
 rintro n U ⟨k,l,rfl,k0,k1,k2,k3,i⟩;refine⟨_,_,(Dv Qaw QdS).1,λa=>?_,λa=>?_⟩
 .have c:=by simpa using a
  have f:=d.at We k2;cases n with
  | zero=>lia
  | succ n=>
   apply iZ (E.ll 2).1 rfl QbU rfl WE;apply aF E.g Qax (fq (bQ Qme Qaw (ic We k2)) rfl);refine aq ⟨n,Nat.lt_succ_self _,_,l++[k],?_,f.1,We,We,?_,WE⟩
   .simp
   .rw[<- k3,DX,bX c,i3];rfl
 .have c:=by simpa using a
  subst c;have e:l=bV es m:=by
   rw[<- k3];cases n with
   | zero=>rw[DX,js]
   | succ n=>rw[DX,cq rfl,js]
  subst e;exact aX QgM rfl
noncomputable def OU:FG Lh ["tree","mood"] [] (ao Lf):=fG
abbrev R3:=top 20
abbrev R4:=List xM×AT
noncomputable abbrev R5:At:=["asks","opens","ask"]
def EW:R4->BA:=λ(l,ops)=>[.tup Qo5,.lst Qcl]
def EX:R4->Prop:=λ(l,ops)=>∀a∈l,a.JJ
def zS:R4->T:=λ(l,ops)=>(.sh (.bl (N6 ops Qo5)):T)
def alk(E:Gp R5 [] X CL) :
  j6 X CL b R3 R5 EW EX zS:=by
 rintro⟨l,ops⟩ h;dsimp [zS]at h ⊢;refine fS E.g Qak (λj U=>∃o,(∀d∈(l.map zq).take j,XM ops d=true)/\U=[some _,some _,o])
  (ZX QaK) ⟨_,λx u=>by simp at u,rfl⟩ (λj U ⟨_,_,e⟩=>by subst e;exact iq rfl) ?turn ?fin
 case turn=>
  rintro j d U s ⟨o,p,rfl⟩;have z:(l.map zq).take QF=(l.map zq).take j++[d]:=by rw[rk,s];rfl
  have n:=kA s;have no:XM ops d=false->N6 ops _=false:=λe=>List.all_eq_false.2 ⟨d,n,by rw[e];decide⟩;obtain⟨a,w,rfl⟩:=ip.1 n;have v:=h a w;have i:XM ops _=true->∀y∈(l.map zq).take _,XM ops y=true:=λe y f=>by
   rw[z]at f;obtain f|f:=iw.1 f
   .exact p y f
   .exact kx.1 f▸e
  cases a with
  | num mk b1 m1 b2 m2=>
   obtain⟨n1,t⟩:=afS v;refine dR (kh (lU (q:=false) (iS QeS dg).1 (λr=>absurd (l1 r) n1))) (λc=>by simp at c) (λ_=>aq ?_);refine dR (kh (lU (q:=false) (iS QeS dg).1 (λr=>absurd (l1 r) t))) (λc=>by simp at c) (λ_=>aq (aq ⟨_,i rfl,rfl⟩))
  | Ea op m=>
   have hf:=abE ops op m;refine dR (kh (lU (iS QeS dg).1 (λ_=>om (yQ QeS QH rfl rfl).1))) (λc=>?_) (λc=>aq ?_)
   .have c:=c;apply aX mC;rw[no];rw[hf];cases op with
    | false=>exact absurd c (by rw[show decide _=false by decide +kernel];simp)
    | true=>rw[Bool.and_eq_true]at c;simpa using c.2
   refine dR (kh (lU (iS QeS dg).1 (λ_=>om (CM QeS QH rfl rfl).1))) (λk=>?_) (λk=>aq (aq ⟨_,i ?_,rfl⟩))
   .apply aX mC;rw[no];rw[hf];cases op with
    | true=>exact absurd k (by rw[show decide _=false by decide +kernel];simp)
    | false=>rw[Bool.and_eq_true]at k;simpa using k.2
   .rw[hf];cases op with
    | true=>simpa using c
    | false=>simpa using k
 case fin=>
  rintro U ⟨o,p,rfl⟩;rw[md]at p;apply aX mC;rw[show N6 ops _=true from me.2 p]
noncomputable def VW:FG R5 ["asks","opens"] [] (ao R3):=fG
abbrev zT:=top 19
abbrev EY:=BA×BA×At×AT×AT×BA×BA×List bM×AT×Int×Str
noncomputable abbrev EZ:At:=["chart","opens","leaf","sign","found","number","way","line"]
def xY:EY->BA:=λ(bs,nm,ks,es,ss,is,os,ws,ops,leaf,sg)=>[fz bs nm Qa2 is os QaY,.lst Qcl,.int leaf,.str sg]
def xZ:EY->Prop:=λ(bs,nm,ks,es,ss,is,os,ws,ops,leaf,sg)=>ez es/\es.length<=900/\0<=leaf/\leaf<es.length/\ws.length<=63/\Eb ws
def rT:EY->T:=λ(bs,nm,ks,es,ss,is,os,ws,ops,leaf,sg)=>(.lst (((so ws ops sg (leaf::bV es leaf)).map .int).map T.sh):T)
structure acw(X:Cx)(CL:BM):Prop extends EL X EZ ["above","enumerate","SIGN","SOURCE","fits","ASKS","sorted"],fF X.K X.mg CL where
 jU:Ka X "chart"
 alm:Ka X "line"
 mQ:Fc X CL "above" 1 2 kL kM kN
 aln:Fc X CL "fits" 1 2 EW EX zS
 lam:xc X CL "#goable.<locals>.<lambda>" "goable.<locals>.<lambda>"
 dp:X.A.depth<recursionLimit
 rm:fj 1 X.A
theorem acy(E:acw X CL) :
  j6 X CL b zT EZ xY xZ rT:=by
 rintro⟨bs,nm,ks,es,ss,is,os,ws,ops,leaf,sg⟩ h;dsimp [rT]at h ⊢;obtain⟨z,hl,f0,f1,L,t⟩:=h;have B:(bV es leaf).length<=es.length+1:=zg _ _ _;have J:([D.int leaf]++(bV es leaf).map _)=(leaf::bV es leaf).map _:=rfl;refine aF E.g Qbb (aH (qO (aW (ds:=[.int leaf]) (b8 (aG QaD bu) aD)) (aW (c_ (ks,es,ss,leaf) E.mQ QA (ah QcZ Qc8) (⟨z,f0,f1,We⟩) (aO _))) rfl (bE _) Qha) (t2:=.lst (((leaf::bV es leaf).map .int).map T.sh)) rfl) ?_;generalize leaf::bV es leaf=ln;apply aF E.g Qar Qa1;have F:∀(l:AT) (x:Int),(l.map D.int).map T.sh++[T.sh Qdj]=((l++[x]).map D.int).map T.sh:=by simp
 refine QS E.g (CN E.g.nd E.g.calm Qaq QaF) (λj U=>∃n m,U=[some _,some _,some _,some _,some (.lst ((((sv ws ops sg ln j).map λ(k:Nat)=>(k:Int)).map .int).map T.sh)),n,m,some _])
  (Nr w0 E.BV QeA QN) ⟨_,_,rfl⟩ (λj U ⟨_,_,e⟩=>by subst e;intro i hi;simp only[fP,km,or_false]at hi;obtain rfl|rfl:=hi<;>exact iq rfl) ?turn ?fin
 case turn=>
  rintro j d U A ⟨n,m,rfl⟩;obtain⟨i,rfl,hi,r,u,_,_⟩:=jM A;have C:=by
   rw[List.getElem?_range (by simpa using (List.getElem?_eq_some_iff.1 hi).1)]at hi;exact(l5 hi).symm
  subst C;have u:=ma.1 r;refine⟨_,rfl,?_⟩;obtain⟨w,hw⟩:∃w,ws.getD i w0=w:=⟨_,rfl⟩;have p:w∈ws:=by rw[<- hw,kq,kf u];exact o2 _
  obtain⟨al,o,s⟩:=t w p;show cQ X CL b _ _ {nx:=λU=>∃n m,U=[_,_,_,_,some _,n,m,_],rt:=_,bk:=_,ct:=_};rw[abF,hw];have G:=Kq ws ops sg ln i;refine dR (kh (lU (iS (bI Qam (ak (aN E.RE QU)) pe) Qaw).1 (λ_=>lU (CM (bI Qam (ak (aN E.zG Q1)) lW) Qjk rfl rfl).1 (λ_=>om (fX (aH (c_ (al,ops) E.aln Qbd (ah (mE (bI Qam (ak (aN E.Sa Qb4)) AG) (congrArg _ o)) QoI) (s) rfl) (t2:=.sh (.bl (N6 ops w.asks))) (by rw[o];rfl))))))) (λa=>?_) (λa=>aq (aq ?_))
  .have a:u7 ops sg ln w=true:=a;refine iZ (E.ll 4).1 rfl QbX rfl WE (aq (aq ?_));rw[F,cq a,i5];exact⟨_,_,rfl⟩
  .have a:u7 ops sg ln w=false:=a;rw[bX (by rw[a];decide),js];exact⟨_,_,rfl⟩
 case fin=>
  rintro U ⟨n,m,rfl⟩;rw[cK,nh];have G:=Kq ws ops sg ln ws.length;have H:∀{k:Nat},k∈sv ws ops sg ln _->k<ws.length/\(ws.getD k w0).src∈ln:=λq=>by
   obtain⟨h1,h2⟩:=l7.1 q;simp only[u7,lj,vk]at h2;exact⟨ma.1 h1,h2.2.1⟩
  refine aX (aH (DW (y:="way") (g:=λd=>((XJ ln (ws.getD d.tS.toNat w0).src))) E.lam E.g E.dp E.lJ Qb3 (b9 (.cons (E.ll 0).1 QoU (.cons (E.ll 7).1 (.inl E.alm) .nil)) Wl) QeC (bE _) WE (λf c s0 M K d hd=>?key)) ?eq) rfl
  case key=>
   obtain⟨x,v,rfl⟩:=ip.1 hd;obtain⟨k,q,rfl⟩:=ip.1 v;obtain⟨k1,k2⟩:=H q;have I:xq QaY k=some _:=(fJ w0 We We).trans (by rw[k4]);refine ak (aH (aaF (mE (ak (v_ (JX (i:=2) rfl Wl))) (bF _)) (bI (bQ (cH (E.bU) (E.cW) QlB fC) Qsd I) (ak (aN (E.zG) (Q7 Wl))) lW) (afR k2) (λi hi=>akT hi)) ?_);show T.sh _=T.sh (.int ((XJ ln (ws.getD (k:Int).toNat w0).src:Nat):Int));rw[k4]
  case eq=>
   rw[Ig];rfl
def Bh:UI (ao zT) ([("chart",.cell),("opens",cI),("leaf",cI),("sign",cI),("found",cI),("number",cI),("way",cI),("line",.cell),("above",bT),("enumerate",bT),("SIGN",bT),("SOURCE",bT),("fits",bT),("ASKS",bT),("sorted",bT)])=true:=by decide +kernel
noncomputable def IK:dB EZ ["chart","opens","leaf","sign"] (ao zT):=jN
theorem VX:∀{l:Cn} {n:Nat},n∈l->n<=l.sum
 | [],_,h=>by cases h
 | m::l,n,h=>by
  simp;obtain rfl|h:=fP.1 h
  .lia
  .have:=VX h;lia
theorem VY{α:Type}{f:α->Nat}:∀{W:Qaa} {M:Nat},W.Pairwise (λa b=>f b<f a)->(∀s∈W,f s<=M)->W.length<=M+1
 | [],_,_,_=>i8 _
 | s::W,M,h,k=>by
  simp at h;have a:=k s Wp;cases W with
  | nil=>rw[rr];lia
  | cons t W=>
   have z:=h.1 t Wp;have:=VY (M:=M-1) h.2 λx c=>by have:=h.1 x c;lia
   rw[mi];lia
theorem agB{R:ET}{s:Gm}(hi:s.i<R.length)(d:s.j<=(R.getD s.i []).length):(nZ ws R s).Pairwise Qrq:=by
 obtain⟨i,j,q,p,hl⟩:=s;unfold nZ;split
 .exact o1 ..
 .split
  .exact o1 ..
  .split
   .exact o1 ..
   .rw[mT];refine⟨λt c=>?_,o1 ..⟩;rw[kx.1 c];generalize (R.getD i []).getD j 0=w;rw[show nv _ w=⟨i,j,_,_,_ ⟩ from rfl,oF];unfold zA Y9;dsimp;rw[cq hi,eU];lia
abbrev kO:=top 36
abbrev x6:=BA×BA×At×AT×AT×BA×BA×List bM×AT×Str×Nat
noncomputable abbrev nU:At:=["chart","opens","sign","most","rows","found","waiting","branch"]
def jW:x6->BA:=λ(bs,nm,ks,es,ss,is,os,ws,ops,sg,mo)=>[fz bs nm Qa2 is os QaY,.lst Qcl,.str sg,.int mo]
def gA:x6->Prop:=λ(bs,nm,ks,es,ss,is,os,ws,ops,sg,mo)=>(ez es/\es.length<=900/\ks.length=es.length)/\Qlu/\(ops.length<=64/\∀x∈ops,0<=x/\x<(es.length:Int))/\(tH ws Qew [] [] []).length<=mo/\mo<=1000
def jX:x6->T:=λ(bs,nm,ks,es,ss,is,os,ws,ops,sg,mo)=>(.lst (((tH ws Qew [] [] []).map oD).map T.sh):T)
structure x8(X:Cx)(CL:BM):Prop extends EL X nU ["open_leaves","LEAF","len","further","ASKED","PICKED","TooWide"],fF X.K X.mg CL where
 jU:Ka X "chart"
 agC:Ka X "opens"
 alo:Ka X "sign"
 GC:Fc X CL "open_leaves" 1 2 l0 mh jf
 Yg:Fc X CL "further" 2 3 uK uL uM
 qA:Fc X CL "goable" 2 4 xY xZ rT
theorem BZ(E:x8 X CL)(h:(ez es/\es.length<=900/\ks.length=es.length)/\Qlu/\(ops.length<=64/\∀x∈ops,0<=x/\x<(es.length:Int))/\mo<=1000)(L:mo<(tH ws Qew [] [] []).length->∃I W,X=Cx.gS I (XE I W)/\eL b W Qez) :
  cQ X CL b (bN kO) (entry nU [fz bs nm Qa2 is os QaY,.lst Qcl,.str sg,.int mo]) {nx:=λ_=>False,rt:=λXu _=>(tH ws Qew [] [] []).length<=mo/\Xu=.lst (((tH ws Qew [] [] []).map oD).map T.sh)}:=by
 obtain⟨⟨f,Ii,Z⟩,⟨YY,M,u⟩,⟨aa,Y⟩,ag⟩:=h;have J:∀x∈Qh ks ops,0<=x/\x<(es.length:Int):=λx j=>Y x (l7.1 j).1;have ae:(Qh ks ops).length<=ops.length:=oT _ _;refine oY (p:=λ_=>true) (gg:=λd=>T.lst (((so ws ops sg (d.tS::bV es d.tS)).map D.int).map T.sh)) E.g Qar (b9 (.cons (E.ll 0).1 QoU (.cons (E.ll 1).1 (.inl E.agC) (.cons (E.ll 2).1 (.inl E.alo) .nil))) Wl)
  (dX (gX (aH (c_ (bs,nm,ks,es,ss,is,os,ws.map dN,ops) E.GC QA QeE (by exact⟨We,λx j=>Z▸Y x j ⟩) (aO _)) rfl))) Qay (λC s0 H0 f0 b' d hd=>?AO) (lx (cj (by rw[cK];lia))) ?rest (by exact iq rfl) Qch
 case AO=>
  obtain⟨x,j,rfl⟩:=ip.1 hd;obtain⟨x0,x1⟩:=J x j;exact⟨rfl,λ_=>aH (c_ (bs,nm,ks,es,ss,is,os,ws,ops,x,sg) (kW E.qA) y9 (ah (i6 1) (ah (i6 2) (ah (jA 0) (ah (i6 3) av)))) (by exact⟨f,We,x0,x1,YY,M⟩) (aO _)) rfl⟩
 case rest=>
 have em:(((Qh ks ops).map D.int).filter λ_=>true).map (λd=>T.lst (((so ws ops sg (d.tS::bV es d.tS)).map D.int).map T.sh))=(xO ws ops sg es (Qh ks ops)).map λl=>T.lst ((l.map D.int).map T.sh):=by
  rw[fM,i0];unfold xO;rw[i0];rfl
 rw[em];have k:=abO (ws:=ws) (ops:=ops) (sg:=sg) (es:=es) (l:=Qh ks ops);have A:(xO ws ops sg es (Qh ks ops)).length<=64:=by unfold xO;rw[cK];lia
 generalize xO ws ops sg es _=R at k A L ⊢;refine aoD (i:=4) rfl (XS R) ?_;have hM:Aj R<=4096:=by
  have h1:=akZ (R:=R) λr hr=>(k r hr).2;have h2:R.length*(ws.length+1)<=64*64:=Nat.mul_le_mul A We;lia
 refine aF E.g Qaq Qa1 ?_;refine aF E.g QaF (aH (b8 (aG (jc (nE (aG jG (aG jG (aG Qpe (aG Qpe (aG UM bu))))) aD) (by
  rfl)) bu) aD) rfl) ?_
 generalize P:tH ws R [] [] []=V at L ⊢;refine CK E.g (λn U=>∃(W:List Gm) (F:Qec) (o:Qej),U=[some _,some _,some _,some _,some _,some (.lst ((F.map oD).map T.sh)),some (.lst ((W.map Kw).map T.sh)),o]/\(∀s∈W,xa (Aj R) 0 ws R s)/\F++(W.reverse.map Qku).flatten=V/\n=(W.map (nt R)).sum/\F.length<=mo/\W.Pairwise Qrq) _
  ⟨[⟨0,0,[],[],[]⟩],[],none,rfl,λs hs=>?_,?_,rfl,i8 _,o1 ..⟩ ?_
 .rw[kx.1 hs];have e:=OK R;exact⟨i8 _,i8 _,by rw[e];show 0+_<=_;lia,by rw[e];show 0+_<=_;lia,by rw[e];show 0+_<=_;lia⟩
 .show tH ws _ [] [] []++[]=V;rw[js,OK,P]
 rintro n U ⟨W,F,o,rfl,N,m,rfl,B,c⟩;have hlen:W.length<=Aj R+1:=VY c λs hs=>by have:=(N s hs).p1;lia
 refine⟨_,_,akn QdN,λH=>?_,λH=>?_⟩
 .have G:W≠[]:=λz=>by rw[z]at H;cases H
  obtain⟨W,s,rfl⟩:∃W' s,W=W'++[s]:=⟨W.dropLast,W.getLast G,(List.dropLast_concat_getLast G).symm⟩;have eW:((W++[s]).map Kw).map T.sh=(W.map Kw).map T.sh++[T.sh (Kw s)]:=by simp
  rw[eW];refine akf E.g Qbb (akq (E.ll 6).1 rfl) ?_;have hs:=N s (iF _ gk);rw[y6]at c;have K:=λt f=>c.2.2 t f s gk;have v:=λt f=>N t (i4 _ f);have eR:((W++[s]).reverse.map Qku).flatten=o9 ws R s++(W.reverse.map Qku).flatten:=by
   rw[List.reverse_append];rfl
  rw[eR]at m;have q:((W++[s]).map (nt R)).sum=(W.map (nt R)).sum+nt R s:=by
   rw[i5,List.sum_append];show _+(nt R s+0)=_;lia
  have S:(R.map λl=>D.lst QbY).length=R.length:=cK ..;have Y3:=hs.q1;have Rh:=hs.p1;have af:=hs.h1;rw[ke]at hlen;refine dR (UG (bI QbK Qun lW) (ak (cU S E.d9 QaL QU))).1 (λhc=>?_) (λhc=>?_)
  .obtain⟨g1,g2,g3,g4⟩:=akY hs We (λw=>u.len w);refine nJ (E.ll 6).1 rfl (XX (gX (aH (cF (bs,nm,dG ks es ss,is,os,ws,R,s) E.Yg Q1 (aj QaK (aj QdO (aj Qc7 aL))) (by exact⟨We,hs.j1,⟨We,We,We⟩,λl hl=>(k l hl).1,u⟩)) rfl))) rfl (by simp only[cK];lia) (aq (aq ?_));refine⟨ _,?_,W++nZ ws R s,F,some Qoy,?_,λt f=>?_,?_,rfl,B,?_⟩
   .rw[q,i5,List.sum_append];lia
   .rw[i5,i5];rfl
   .obtain z|z:=iw.1 f
    .exact v t z
    .exact g1 t z
   .rw[<- m,g2,List.reverse_append,i5,List.flatten_append]
   .have g5:=λt f=>by
     have z:=VX (ip.2 ⟨t,f,rfl⟩:nt R t∈(nZ ws R s).map (nt R));exact(Nat.pow_lt_pow_iff_right (a:=3) Wm).1 (nq z g3)
    rw[y6];exact⟨c.1,agB We hs.j1,λx j y hy=>Nat.lt_trans (g5 y hy) (K x j)⟩
  .have eX:o9 ws R s=[(s.qs,s.pk)]:=by
    unfold o9;rw[show zA R s=[] by unfold zA;rw[bX We],Kv]
   rw[eX]at m;have O:(F.map oD).length=F.length:=cK ..;refine dR (UG (ak (cU O E.d9 QiQ QU)) Qaw).1 (λhd=>?_) (λhd=>?_)
   .refine iZ (E.ll 5).1 rfl (bG (aj (bK Qc7 (ak (aN E.vN Qbd)) AG) (aj (bK Qc7 (ak (aN E.qv Qb4)) NF) aL)) aD) rfl (by simp only[cK];lia) (aq (aq (aq ?_)));refine⟨ _,?_,W,F++[(s.qs,s.pk)],some Qoy,?_,v,?_,rfl,?_,c.1⟩
    .rw[q];have:0<nt R s:=Nat.pow_pos Wm;lia
    .rw[i5,i5];rfl
    .rw[<- m,i3]
    .rw[ke,rr];lia
   .obtain⟨I,W0,rfl,hE⟩:=L (by rw[<- m];simp only[ke,rr];lia);exact UY (X:=I) E.g.calm Qb3 E.rG E.Ek hE
 .have G:W=[]:=by
   cases W with
   | nil=>rfl
   | cons s W=>cases H
  subst G;have e:F=V:=by rw[<- m];simp
  subst e;exact aX QnX ⟨B,rfl⟩
theorem R6(E:x8 X CL) :
  j6 X CL b kO nU jW gA jX:=by
 rintro⟨bs,nm,ks,es,ss,is,os,ws,ops,sg,mo⟩ h;dsimp only [gA,jW,jX]at h ⊢;obtain⟨a,c,⟨d,e⟩,f,g⟩:=h;exact(BZ E ⟨a,c,⟨We,e⟩,g⟩ λz=>by lia).mono QeM λ_ _ z=>z.2
abbrev rV:Type:=BA×BA×At×AT×AT×BA×BA×List bM×AT×Str×Nat
def iC:rV->BA:=λ(bs,nm,ks,es,ss,is,os,ws,ops,sg,mo)=>[fz bs nm Qa2 is os QaY,.lst Qcl,.str sg,.int mo]
def f7:rV->Prop:=λ(bs,nm,ks,es,ss,is,os,ws,ops,sg,mo)=>(ez es/\es.length<=900/\ks.length=es.length)/\Qlu/\(ops.length<=64/\∀x∈ops,0<=x/\x<(es.length:Int))/\mo<(tH ws Qew [] [] []).length/\mo<=1000
noncomputable def iD:rV->Str:=λ(bs,nm,ks,es,ss,is,os,ws,ops,sg,mo)=>"TooWide"
theorem OV(E:x8 Qbx CL)(bs nm ks es ss is os ws ops sg mo)(h:f7 (bs,nm,ks,es,ss,is,os,ws,ops,sg,mo))(e:eL b W (CL (iD (bs,nm,ks,es,ss,is,os,ws,ops,sg,mo)))) :
  cQ Qbx CL b (bN kO) (entry nU (iC (bs,nm,ks,es,ss,is,os,ws,ops,sg,mo))) {nx:=λ_=>False,rt:=λ_ _=>False}:=by
 dsimp only [f7,iC,iD]at h e ⊢;obtain⟨a,c,d,f,g⟩:=h;exact(BZ E ⟨a,c,d,g⟩ λ_=>⟨X,W,rfl,e⟩).mono QeM λ_ _ z=>by lia
def gj:UI (ao kO) ([("chart",.cell),("opens",.cell),("sign",.cell),("most",cI),("rows",cI),("found",cI),("waiting",cI),("branch",cI),("open_leaves",bT),("LEAF",bT),("len",bT),("further",bT),("ASKED",bT),("PICKED",bT),("TooWide",bT)])=true:=by decide +kernel
noncomputable def oJ:dB nU ["chart","opens","sign","most"] (ao kO):=jN
abbrev E1:=top 13
abbrev E2:=At×AT×AT×Int×Int
noncomputable abbrev E3:At:=["tree","mood","other"]
def kP:E2->BA:=λ(ks,es,ss,m,o)=>[dG ks es ss,.int m,.int o]
def kQ:E2->Prop:=λ(ks,es,ss,m,o)=>ez es/\0<=m/\m<es.length/\es.length<=1000
def kR:E2->T:=λ(ks,es,ss,m,o)=>(.sh (.bl (decide (o=-1) || decide (o∈bV es m))):T)
structure acz(X:Cx)(CL:BM):Prop extends EL X E3 ["above"],fF X.K X.mg CL where
 mQ:Fc X CL "above" 1 2 kL kM kN
def acA(E:acz X CL) :
  j6 X CL b E1 E3 kP kQ kR:=by
 rintro⟨ks,es,ss,m,o⟩ h;exact aX (OS (eY QP QdS).2 (λ_=>Ao (CM QP (aW (c_ (ks,es,ss,m) E.mQ QA QeE h (aO _))) rfl rfl).2)) rfl
noncomputable def IL:FG E3 ["tree","mood","other"] ["above"] (ao E1):=fG
abbrev Li:=top 46
abbrev R7:=At×AT×AT×AT×Int
noncomputable abbrev R8:At:=["tree","opens","upper"]
def E4:R7->BA:=λ(ks,es,ss,ops,u)=>[dG ks es ss,.lst Qcl,.int u]
def E5:R7->Prop:=λ(ks,es,ss,ops,u)=>ez es/\es.length<=1000/\ops.length<=1000/\∀m∈ops,0<=m/\m<es.length
def E6:R7->T:=λ(ks,es,ss,ops,u)=>(.lst (((wG es ops u).map .int).map T.sh):T)
structure alp(X:Cx)(CL:BM):Prop extends EL X R8 ["reversed"],fF X.K X.mg CL where
 alq:Ka X "tree"
 Lj:Ka X "upper"
 lO:Fc X CL "within" 2 3 kP kQ kR
theorem alr(E:alp X CL) :
  j6 X CL b Li R8 E4 E5 E6:=by
 rintro⟨ks,es,ss,ops,u⟩ h;obtain⟨a,hl,c,hm⟩:=h;refine aX (qS (p:=λd=>decide (u=-1) || decide (u∈bV es d.tS)) (g:=T.sh) (b9 (.cons (E.ll 0).1 (.inl E.alq) (.cons (E.ll 2).1 (.inl E.Lj) .nil)) Wl) E.g.calm
  (ajX E.xQ Qbn QA) Qay (λC s0 j f0 e d hd=>?AO) Qha) ?eq
 case AO=>
  obtain⟨i,hi,rfl⟩:=ip.1 (vT.1 hd);have f:=hm i hi;exact⟨fX (c_ (ks,es,ss,i,u) (kW E.lO) y9 (ah (i6 1) (ah (jA 0) (ah (i6 2) av))) (⟨a,We,We,hl⟩) rfl),λ_=>v_ (J9 0)⟩
 case eq=>
  rw[<- List.map_reverse,tc,List.filter_reverse];rfl
def Lk:UI (ao Li) ([("tree",.cell),("opens",cI),("upper",.cell),("reversed",bT)])=true:=by decide +kernel
noncomputable def agD:dB R8 ["tree","opens","upper"] (ao Li):=jN
abbrev KA:=top 17
abbrev Kt:=At×AT×AT×Int×Int
noncomputable abbrev Kk:At:=["tree","one","other","upper"]
def Lp:Kt->BA:=λ(ks,es,ss,a,c)=>[dG ks es ss,.int a,.int c]
def Lq:Kt->Prop:=λ(ks,es,ss,a,c)=>ez es/\es.length<=1000/\ks.length=es.length/\(0<=a/\a<es.length)/\0<=c/\c<es.length
def C9:Kt->T:=λ(ks,es,ss,a,c)=>(.sh (.int (Kf QcK es a c)):T)
structure apn(X:Cx)(CL:BM):Prop extends EL X Kk ["above","within"],fF X.K X.mg CL where
 mQ:Fc X CL "above" 1 2 kL kM kN
 lO:Fc X CL "within" 2 3 kP kQ kR
theorem apo(E:apn X CL) :
  j6 X CL b KA Kk Lp Lq C9:=by
 rintro⟨ks,es,ss,a,c⟩ h;dsimp [C9]at h ⊢;obtain⟨p,hl,w,⟨a0,a1⟩,c0,t⟩:=h;refine fS E.g Qax (λj U=>∃o,(∀x∈(bV es a).take j,QrA=false)/\U=[some _,some _,some _,o])
  (dX (gX (c_ (_,_,_,_) E.mQ QA QeE ((⟨p,a0,a1,hl⟩)) (aO _)))) ⟨_,λx i=>by simp at i,rfl⟩ (λj U ⟨_,_,e⟩=>by subst e;exact iq rfl) ?turn ?fin
 case turn=>
  rintro j d U m ⟨o,k,rfl⟩;rw[j2]at m;cases i:(bV es a)[j]? with
  | none=>rw[i]at m;cases m
  | some x=>
   rw[i]at m;cases m;have n:=kA i;have s:=bH p a0 a1 n;have r:=(lr.1 i).1;have v:(bV es a).take QF=(bV es a).take j++[x]:=by rw[rk,i];rfl
   refine dR (kh (lU (iS (bQ Qiv Qaw (fJ Str.empty We We)) dg).1 (λz=>(om (fX (c_ (_,_,_,_,_) E.lO QN Qv8 ((⟨p,c0,t,hl⟩)) rfl)))))) (λl=>?_) (λl=>aq (aq ⟨_,?_,rfl⟩))
   .apply aX QbU;have q:QrA=true:=by
     have:decide (x=-1)=false:=kv We;rw[this]at l;exact l
    have:(bV es a).find? (λx=>eS ks x&&decide (x∈bV es c))=some x:=by
     have u:=by
      have h2:=t4 j (bV es a);rw[tJ r]at h2;have:=(lr.1 i).2;rw[this]at h2;exact h2.symm
     conv=>lhs;rw[u]
     rw[List.find?_append,zd.2 (λy f=>by rw[k y f];decide),nf,q];rfl
    show _=T.sh _;unfold Kf;rw[this];rfl
   .intro y f;rw[v]at f;obtain f|f:=iw.1 f
    .exact k y f
    .have e:=by simpa using f
     subst e;have:decide (y=-1)=false:=kv We;rw[this]at l;exact l
 case fin=>
  rintro U ⟨o,k,rfl⟩;rw[cK,md]at k;apply aX QbZ;unfold Kf;rw[zd.2 (λy f=>by rw[k y f];decide)];rfl
noncomputable def Pm:FG Kk ["tree","one","other"] ["above","within"] (ao KA):=fG
abbrev Bj:=top 24
abbrev Bk:=BA×BA×At×AT×AT×BA×BA×List bM×Int
noncomputable abbrev Bl:At:=["chart","number","way"]
def lP:Bk->BA:=λ(bs,nm,ks,es,ss,is,os,ws,i)=>[fz bs nm Qa2 is os QaY,.int i]
def jE:Bk->Prop:=λ(bs,nm,ks,es,ss,is,os,ws,i)=>ez es/\es.length<=1000/\ks.length=es.length/\Qgr/\QhU/\0<=(gC ws i).jj/\(gC ws i).jj<es.length
def lQ:Bk->T:=λ(bs,nm,ks,es,ss,is,os,ws,i)=>(.sh (.int QvF):T)
structure Yh(X:Cx)(CL:BM):Prop extends EL X Bl ["top","SOURCE","TARGET"],fF X.K X.mg CL where
 apr:Fc X CL "top" 3 3 Lp Lq C9
def Yi(E:Yh X CL) :
  j6 X CL b Bj Bl lP jE lQ:=by
 rintro⟨bs,nm,ks,es,ss,is,os,ws,i⟩ h;obtain⟨d,hl,e,⟨c,i1⟩,hs,a⟩:=h;exact aF E.g Qak (aH (QK QeA QH (fJ w0 c i1)) rfl) (aX (c_ (ks,es,ss,(gC ws i).src,(gC ws i).jj) E.apr QA (ah QcZ (ah (bI QP (ak (aN E.zG QN)) lW) (ah (bI QP Quq QdW) av))) (⟨d,hl,e,hs,a⟩) rfl) rfl)
noncomputable def E7:FG Bl ["chart","number"] ["top","SOURCE","TARGET"] (ao Bj):=fG
abbrev x9:=top 52
abbrev yb:=BA×BA×At×AT×AT×BA×BA×List bM×AT×AT
noncomputable abbrev yc:At:=["chart","opens","going","gone","number"]
def rW:yb->BA:=λ(bs,nm,ks,es,ss,is,os,ws,ops,gs)=>[fz bs nm Qa2 is os QaY,.lst Qcl,.lst (gs.map .int)]
def mR:yb->Prop:=λ(bs,nm,ks,es,ss,is,os,ws,ops,gs)=>ez es/\es.length<=1000/\ks.length=es.length/\ops.length<=1000/\(∀m∈ops,0<=m/\m<es.length)/\(∀i∈gs,Qgr/\QhU/\0<=(gC ws i).jj/\(gC ws i).jj<es.length)/\((gs.map QbO).flatMap λw=>wG es ops Qcp).length<64
def mS:yb->T:=λ(bs,nm,ks,es,ss,is,os,ws,ops,gs)=>(.lst (((pA ks es ops (gs.map QbO)).map .int).map T.sh):T)
structure R9(X:Cx)(CL:BM):Prop extends EL X yc ["left","way_top","sorted"],fF X.K X.mg CL where
 als:Fc X CL "left" 3 3 E4 E5 E6
 qB:Fc X CL "way_top" 4 2 lP jE lQ
theorem Sb(E:R9 X CL) :
  j6 X CL b x9 yc rW mR mS:=by
 rintro⟨bs,nm,ks,es,ss,is,os,ws,ops,gs⟩ h;dsimp [mS]at h ⊢;obtain⟨f,hl,p,a,m,r,k⟩:=h;apply aF E.g Qax Qa1;refine fS E.g Qar (λj U=>∃o,U=[some _,some _,some _,some (.lst (((((gs.take j).map QbO).flatMap λw=>wG es ops Qcp).map .int).map T.sh)),o])
  (dX QaD) ⟨_,rfl⟩ (λj U ⟨_,e⟩=>by subst e;exact iq rfl) ?turn ?fin
 case turn=>
  rintro j d U q ⟨o,rfl⟩;obtain⟨i,rfl,_,hi,t,_,s⟩:=jM q;obtain⟨⟨l,i1⟩,hs,c⟩:=r i hi;have u:(((gs.take j).map _).flatMap _).length<64:=xm▸nq (pB _ _) k;have n:(wG es ops QvF).length<=1000:=by
   unfold wG;rw[rF];exact ky Qfu a
  refine nJ (E.ll 3).1 rfl (Gk (aW (aH (c_ (ks,es,ss,ops,j9 ks es _) E.als QA (ah QcZ (ah QH (ah (ak (aH (c_ (bs,nm,ks,es,ss,is,os,ws,i) E.qB QN Qge (⟨f,hl,p,⟨l,i1⟩,hs,c⟩) rfl) rfl)) av))) (⟨f,hl,a,m⟩) (aO _)) rfl)) (bE _)) rfl (by simp only[cK];lia) (aq ⟨some Qj2,?_⟩);rw[s];simp
 case fin=>
  rintro U ⟨o,rfl⟩;rw[cK,md];exact aX (Q0 E.lJ Qa8 k QU) rfl
noncomputable def B3:FG yc ["chart","opens","going"] ["left","way_top","sorted"] (ao x9):=fG
abbrev rX:=top 47
abbrev rY:=At×AT×AT×AT×AT×AT
noncomputable abbrev rZ:At:=["tree","memory","opens","moods","behind","mood","elder"]
def nV:rY->BA:=λ(ks,es,ss,mem,ops,a)=>[dG ks es ss,.lst Qc3,.lst Qcl,.lst QeX]
def jY:rY->Prop:=λ(ks,es,ss,mem,ops,a)=>ez es/\ks.length=es.length/\mem.length=es.length/\(∀m∈ops,0<=m/\m<es.length)/\(∀m∈a,0<=m/\m<es.length)
def nW:rY->T:=λ(ks,es,ss,mem,ops,a)=>(.lst (((oo QcK es a mem ops).map .int).map T.sh):T)
theorem Lr(E:Gp rZ ["list"] X CL) :
  j6 X CL b rX rZ nV jY nW:=by
 rintro⟨ks,es,ss,mem,ops,c⟩ h;obtain⟨t,u,hm,p,l⟩:=h;refine aF E.g Qar (cS E.cJ QH (bE _) QA aU) ?_;refine fS E.g Qaq (λj U=>∃i f,U=[some _,some _,some _,some _,some (.lst (((oo QcK es c mem (ops.take j)).map _).map _)),i,f])
  (dX QaD) ⟨_,_,rfl⟩ (λj U ⟨_,_,e⟩=>by subst e;exact iq rfl) ?turn ?fin
 case turn=>
  rintro j d U r ⟨i,f,rfl⟩;obtain⟨x,rfl,_,k,_,_,s⟩:=jM r;have n:=p x k;have hl:=Vk QcK es c (ops.take j) mem;apply aF E.g QaF (fq (bQ Qme Qal Qg7) rfl);rw[s,abq];unfold D4;generalize es.getD _ 0=q;generalize oo _ es c mem _=acc at hl ⊢;refine dR (kh (lU (CM Qam Qaw (rfl) rfl).1 (λm=>(om (iS (bQ Qiv Qam (fJ Str.empty (l q (l1 m)).1 (by have:=l q (l1 m);lia))) dg).1)))) (λa=>?_) (λa=>aq (aq ?_))
  .rw[lj,vk]at a;have o:=l q a.1;have hlen:((acc.map D.int).map T.sh).length=acc.length:=by simp
   refine aky QbX Qgf Qam rfl rfl (ajV o.1 We) (aq (aq ?_));rw[cq (show q∈c/\eS ks q=true from a),List.map_set,List.map_set];exact⟨_,_,rfl⟩
  .rw[bX (λz=>by
    have:(decide (q∈c)&&decide (ks.getD q.toNat Str.empty="one"))=true:=by
     rw[lj,vk];exact z
    rw[this]at a;cases a)]
   exact⟨_,_,rfl⟩
 case fin=>
  rintro U ⟨i,f,rfl⟩;rw[cK,md];exact aX QeW rfl
noncomputable def wU:FG rZ ["tree","memory","opens","moods"] ["list"] (ao rX):=fG
abbrev Sd:=top 16
abbrev Se:=At×AT×AT×Int×Int
noncomputable abbrev Sf:At:=["tree","upper","mood","steps","elder"]
def E8:Se->BA:=λ(ks,es,ss,u,m)=>[dG ks es ss,.int u,.int m]
def zU:Se->Prop:=λ(ks,es,ss,u,m)=>ez es/\0<=m/\m<es.length/\es.length<=1000
def uO:Se->T:=λ(ks,es,ss,u,m)=>(.lst (((cT es u m).map .int).map T.sh):T)
structure alu(X:Cx)(CL:BM):Prop extends EL X Sf ["above","list","reversed"],fF X.K X.mg CL where
 mQ:Fc X CL "above" 1 2 kL kM kN
theorem alv(E:alu X CL) :
  j6 X CL b Sd Sf E8 zU uO:=by
 rintro⟨ks,es,ss,u,m⟩ h;dsimp [zU,uO]at h ⊢;have h':=h;have r:(bV es m).length<=es.length+1:=zg _ _ _;apply aF E.g Qax (e7 QjK aD);refine fS E.g Qar (λj U=>∃o,(∀x∈(bV es m).take j,x≠u)/\U=[some _,some _,some _,some (.lst (((m::(bV es m).take j).map _).map _)),o])
  (dX (gX (c_ (_,_,_,_) E.mQ QA QnF (h') (aO _)))) ⟨_,λx c=>by simp at c,rfl⟩ (λj U ⟨_,_,e⟩=>by subst e;exact iq rfl) ?turn ?fin
 case turn=>
  rintro j d U k ⟨o,i,rfl⟩;rw[j2]at k;cases c:(bV es m)[j]? with
  | none=>rw[c]at k;cases k
  | some x=>
   rw[c]at k;cases k;have q:=(lr.1 c).1;have n:(bV es m).take QF=(bV es m).take j++[x]:=by rw[rk,c];rfl
   refine dR (eY QaL QH).1 (λl=>aeP ?brk) (λl=>aq ?_)
   case brk=>
    have e:=l1 l;have f:(bV es m).takeWhile QcW=(bV es m).take j:=by
     have t:=by
      have h2:=t4 j (bV es m);rw[tJ q]at h2;have:=(lr.1 c).2;rw[this]at h2;exact h2.symm
     conv=>lhs;rw[t]
     rw[List.takeWhile_append_of_pos (λy a=>by simpa using i y a),List.takeWhile_cons,if_neg (by simp[e]),List.append_nil]
    apply aX Qqq;unfold cT;rw[f];simp only[List.map_reverse]
   .have e:=mN l;refine iZ (E.ll 3).1 rfl QdO rfl WE (aq ?_);have s:(((m::(bV es m).take j).map D.int).map T.sh)++[T.sh Qdj]=((m::(bV es m).take QF).map D.int).map T.sh:=by rw[n];simp
    rw[s];refine⟨_,λy a=>?_,rfl⟩;rw[n]at a;obtain a|a:=iw.1 a
    .exact i y a
    .have:=by simpa using a
     exact this▸e
 case fin=>
  rintro U ⟨o,i,rfl⟩;apply aX Qqq;rw[cK,md]at i ⊢;unfold cT;have f:(bV es m).takeWhile QcW=bV es m:=by
   have:=List.takeWhile_append_of_pos (p:=λx=>decide _) (l₂:=[]) (λy a=>by simpa using i y a);simpa using this
  rw[f];simp only[List.map_reverse]
noncomputable def VZ:FG Sf ["tree","upper","mood"] ["above","list","reversed"] (ao Sd):=fG
abbrev Bm:=top 45
abbrev Bo:=At×AT×AT×AT×Int×Nat×Str
noncomputable abbrev Bp:At:=["tree","memory","upper","target","mode","steps","found","step","place"]
def oK:Bo->BA:=λ(ks,es,ss,mem,u,tg,mode)=>[dG ks es ss,.lst Qc3,.int u,.int tg,.str mode]
def oM:Bo->Prop:=λ(ks,es,ss,mem,u,tg,mode)=>(es.length<=900/\ks.length=es.length/\ss.length=es.length/\mem.length=es.length/\tg<es.length/\tY mode/\∀k:Nat,k<es.length->aV ks k=true\/bw ks k=true\/ks.getD k Str.empty="one")/\e9 Qa4 Qa5 es ss mem/\es.length<=61/\(u=-1\/u∈bV es tg)
def oN:Bo->T:=λ(ks,es,ss,mem,u,tg,mode)=>(.lst (((sortI (rh Qa4 Qa5 es ss mem Qks (gU mode) u tg)).map .int).map T.sh):T)
structure Yj(X:Cx)(CL:BM):Prop extends EL X Bp ["road","opened","inner","sorted"],fF X.K X.mg CL where
 alw:Fc X CL "road" 2 3 E8 zU uO
 qx:Fc X CL "opened" 63 4 nO (nP 60) kJ
 K8:Fc X CL "inner" 1 2 vV m8 vW
theorem Yk(E:Yj X CL) :
  j6 X CL b Bm Bp oK oM oN:=by
 rintro⟨ks,es,ss,mem,u,tg,mode⟩ h;dsimp only [oM,oK,oN]at h ⊢;obtain⟨MK,t,A,L⟩:=h;obtain⟨hl,I,hs,hm,v,X9,y⟩:=MK;have H:=t.pre.1;have O:ez es/\(0:Int)<=tg/\(tg:Int)<es.length/\es.length<=1000:=⟨H,We,We,We⟩;refine aF E.g Qaq (c_ ((ks,es,ss,u,(tg:Int))) E.alw QA Qv8 (O) (aO _)) ?_;rw[show uO _=T.lst _ from rfl];have li:=D5 H (u:=u) We We L;have aa:(cT es u tg).length<=es.length+2:=by
  unfold cT;rw[rF,mi];have h1:=(y8 (l:=bV es (tg:Int)) QcW).length_le;have h2:(bV es (tg:Int)).length<=es.length+1:=zg _ _ _;lia
 have P:(cT es u tg).dropLast.length<=es.length+2:=by rw[List.length_dropLast];lia
 have n:∀(far near:Bool) (k:Nat),k<es.length->(kG Qa4 Qa5 es ss mem far es.length near k).length<=61:=λfar near k I=>ky (CW t I) A;have ax:(Ij ks es ss mem mode tg).length<=61:=n _ _ tg v;have G:∀p:Int,Ij ks es ss mem "new" p=kG Qa4 Qa5 es ss mem false es.length false p:=λp=>by
  unfold Ij;rw[show eN "new" = false by decide +kernel,show gU "new" = false by decide +kernel]
 have f:cutD ((cT es u tg).map D.int) none QoR=(cT es u tg).dropLast.map D.int:=by rw[Z9,XC]
 refine aF E.g QaF (aH (t2:=T.lst (((((cT es u tg).dropLast++Ij ks es ss mem mode tg)).map D.int).map T.sh)) (qO (aW Qq7) (aW (c_ ((ks,es,ss,mem,tg,mode)) E.qx QN (ah QD (ah QH (ah Qaw (ah QaL av)))) (by exact(⟨⟨hl,I,hs,hm,v,X9,y⟩,t,We⟩)) (aO _))) ((f▸bE _)) (bE _) (lx (cj (by rw[f,cK,cK];exact(show(cT es u tg).dropLast.length+(Ij ks es ss mem mode tg).length<=1000 by lia))))) (by rw[f,<- i5])) ?_;generalize W:(λs:Int=>((iG es s).filter _).flatMap Qcx)=F;have S:∀s:Int,(F s).length<=61*61:=λs=>by
  rw[<- W];have h1:((iG es s).filter Qcy).length<=61:=ky Qfu (ky (Vh es s) A);refine ky (zm (c:=61) λp a=>?_) (y4 _ h1);have Z:=qY (l7.1 a).1;obtain⟨q,rfl⟩:∃q:Nat,p=q:=⟨p.toNat,We⟩;exact n _ _ q We
 have V:∀l:AT,l.length<=64->(l.flatMap F).length<=64*(61*61):=λl h=>ky (zm λp _=>S p) (y4 _ h);have C:rh Qa4 Qa5 es ss mem Qks (gU mode) u tg=(cT es u tg).dropLast++Ij ks es ss mem mode tg++((cT es u tg).dropLast.filter QdI).flatMap F:=by
  rw[<- W];rfl
 have r:=iJ (AU t (far:=eN mode) (near:=gU mode) v L) λx hx=>Lm t v ((CY t v L x).1 hx);rw[C]at r ⊢;clear C;have z:∀s∈(cT es u tg).dropLast,0<=s/\s<es.length:=λs hs=>by
  have:=jP H v ((li s).1 (vI H v hs).1);lia
 generalize iW:(cT es u tg).dropLast++Ij ks es ss mem mode tg=base at r ⊢;have ag:base.length<=130:=by
  rw[<- iW,ke];lia
 generalize ae:(cT es u tg).dropLast=o at P z r f ⊢;refine fS E.g Qbb (λj U=>∃w m,U=[some (.sh Qa2),some QmP,some (.sh (.int u)),some (.sh (.int tg)),some Qvc,some QqF,some (.lst (((base++((o.take j).filter QdI).flatMap F).map .int).map T.sh)),w,m])
  (dX (gX (aH Qq7 (by rw[f])))) ⟨_,_,by simp;rfl⟩ (λj U ⟨_,_,e⟩=>by subst e;exact iq rfl) ?turn ?fin
 case turn=>
  rintro j d U hj ⟨w,m,rfl⟩;obtain⟨x,rfl,_,J,sS,_,Ai⟩:=jM hj;have K:=z x J;have Gj:((o.take j).filter QdI).length<=64:=ky Qfu (by rw[o4];lia);have aw:=V _ Gj;refine dR (iS (bQ Qiv QbK (fJ Str.empty K.1 We)) dg).1 (λa=>?_) (λa=>aq (aq ?_))
  .have a:bw ks x=true:=a;have Y:((o.take QF).filter QdI).flatMap F=((o.take j).filter QdI).flatMap F++F x:=by
    rw[Ai,p4,wt a,tf,w4];simp
   show cQ X CL b _ _ {nx:=λU=>cQ X CL b _ U {nx:=λU=>∃w m,U=[_,_,_,_,_,_,some (.lst (((base++((o.take QF).filter _).flatMap F).map .int).map T.sh)),w,m],rt:=_,bk:=_,ct:=_},rt:=_,bk:=_,ct:=_};rw[Y,<- i3];generalize R:base++((o.take j).filter _).flatMap F=cur;have af:cur.length<=130+64*(61*61):=by rw[<- R,ke];lia
   have eF:F x=((iG es x).filter Qcy).flatMap Qcx:=by rw[<- W]
   have Y5:=Vh es x;refine fS E.g Qdc (λi U=>∃m,U=[some (.sh Qa2),some QmP,some (.sh (.int u)),some (.sh (.int tg)),some Qvc,some QqF,some (.lst (((cur++(((iG es x).take i).filter Qcy).flatMap Qcx).map .int).map T.sh)),some (.sh Qdj),m])
    (dX (gX (c_ ((ks,es,ss,x)) E.K8 QU (ah QD (ah QbK av)) ((by dsimp only [m8];lia)) (aO _)))) ⟨_,by simp;rfl⟩ (λj U ⟨_,e⟩=>by subst e;exact Nat.le_of_ble_eq_true rfl) ?Oh ?fin2
   case Oh=>
    rintro i d U hi ⟨m,rfl⟩;obtain⟨p,rfl,_,N,ar,_,B⟩:=jM hi;have Z:=qY N;obtain⟨q,rfl⟩:∃q:Nat,p=q:=⟨p.toNat,We⟩;have qI:((((iG es x).take i).filter Qcy).flatMap Qcx).length<=61*61:=by
     have h1:(((iG es x).take i).filter Qcy).length<=61:=ky Qfu (by rw[o4];lia);refine ky (zm (c:=61) λp a=>?_) (y4 _ h1);have Z:=qY (wq (l7.1 a).1);obtain⟨q,rfl⟩:∃q:Nat,p=q:=⟨p.toNat,We⟩;exact n _ _ q We
    refine dR (yQ QoS QiQ rfl rfl).1 (λM=>?_) (λM=>aq (aq ?_))
    .refine nJ (E.ll 6).1 rfl (Gk (aW (aH (c_ ((ks,es,ss,mem,q,("new":Str))) E.qx QN (ah QD (ah QH (ah QoS (ah dg av)))) (by exact(⟨⟨hl,I,hs,hm,We,.inl rfl,y⟩,t,We⟩)) (aO _)) rfl)) (bE _)) rfl ?len (aq (aq ?_))
     case len=>
      have:=n false false q We;rw[G];simp only[cK,ke];lia
     have e1:(((cur++(((iG es x).take i).filter Qcy).flatMap Qcx).map D.int).map T.sh)++(((Ij ks es ss mem "new" q).map D.int).map T.sh)=((cur++(((iG es x).take Qbe).filter Qcy).flatMap Qcx).map D.int).map T.sh:=by
      rw[B,p4,wt (p:=λp=>!decide _) M,tf,w4,G,<- i5];simp
     rw[show((((cur++(((iG es x).take i).filter _).flatMap Qcx).map D.int).map T.sh)++(((Ij ks es ss mem "new" q).map D.int).map T.sh))=_ from e1];exact⟨_,rfl⟩
    .have e1:(((iG es x).take i).filter Qcy).flatMap Qcx=(((iG es x).take Qbe).filter Qcy).flatMap Qcx:=by
      rw[B,p4,wx (by rw[M];decide),tf,js]
     rw[e1];exact⟨_,rfl⟩
   case fin2=>
    rintro U ⟨m,rfl⟩;rw[cK,md];refine aq (aq ?_);rw[eF];exact⟨_,_,rfl⟩
  .have a:bw ks x=false:=a;have e1:((o.take j).filter QdI).flatMap F=((o.take QF).filter QdI).flatMap F:=by
    rw[Ai,p4,wx (by rw[a];decide),tf,js]
   rw[e1];exact⟨_,_,rfl⟩
 case fin=>
  rintro U ⟨w,m,rfl⟩;rw[cK,md];exact aX (nH E.lJ QdN We Q1) rfl
noncomputable def E9:FG Bp ["tree","memory","upper","target","mode"] ["road","opened","inner","sorted"] (ao Bm):=fG
abbrev pX:=top 53
abbrev pY:=BA×BA×At×AT×AT×BA×BA×List bM×AT×AT
noncomputable abbrev pZ:At:=["chart","memory","going","come","number","way"]
def jl:pY->BA:=λ(bs,nm,ks,es,ss,is,os,ws,mem,gs)=>[fz bs nm Qa2 is os QaY,.lst Qc3,.lst (gs.map .int)]
def gF:pY->Prop:=λ(bs,nm,ks,es,ss,is,os,ws,mem,gs)=>(es.length<=61/\ks.length=es.length/\ss.length=es.length/\mem.length=es.length/\∀k:Nat,k<es.length->aV ks k=true\/bw ks k=true\/ks.getD k Str.empty="one")/\e9 Qa4 Qa5 es ss mem/\(∀i∈gs,Qgr/\QhU/\Qq8/\tY (gC ws i).mode/\Qql)/\((gs.map QbO).flatMap QeP).length<64
def jm:pY->T:=λ(bs,nm,ks,es,ss,is,os,ws,mem,gs)=>(.lst (((xK ks es ss mem (gs.map QbO)).map .int).map T.sh):T)
structure GD(X:Cx)(CL:BM):Prop extends EL X pZ ["entered","way_top","TARGET","MODE","sorted"],fF X.K X.mg CL where
 Yl:Fc X CL "entered" 64 5 oK oM oN
 qB:Fc X CL "way_top" 4 2 lP jE lQ
theorem GF(E:GD X CL) :
  j6 X CL b pX pZ jl gF jm:=by
 rintro⟨bs,nm,ks,es,ss,is,os,ws,mem,gs⟩ h;dsimp only [gF,jl,jm]at h ⊢;obtain⟨⟨hl,s,f,z,k⟩,t,x,p⟩:=h;have u:=t.pre.1;have q:∀l:List bM,(l.flatMap _).length=(l.flatMap QeP).length:=λl=>(AW l).length_eq;refine aF E.g Qax Qa1 ?_;refine fS E.g Qar (λj U=>∃o o',U=[some _,some _,some _,some (.lst (((((gs.take j).map QbO).flatMap λw=>sortI Qgt).map .int).map T.sh)),o,o'])
  (dX QaD) ⟨_,_,rfl⟩ (λj U ⟨_,_,e⟩=>by subst e;exact iq rfl) ?turn ?fin
 case turn=>
  rintro j d U v ⟨o,o',rfl⟩;obtain⟨i,rfl,_,hi,B,_,A⟩:=jM v;obtain⟨⟨r,i1⟩,hs,c,y,a⟩:=x i hi;have C:(((gs.take j).map QbO).flatMap λw=>sortI Qgt).length<64:=by
   rw[q,xm];exact nq (pB _ _) p
  have n:(((gs.take QF).map QbO).flatMap λw=>sortI Qgt).length<64:=by
   rw[q,xm];exact nq (pB _ _) p
  have e2:((gs.take QF).map QbO).flatMap (λw=>sortI Qgt)=(((gs.take j).map QbO).flatMap λw=>sortI Qgt)++sortI (Rr ks es ss mem Qcr):=by
   rw[A,i5];simp
  rw[e2,ke]at n;have m:((gC ws i).jj.toNat:Int)=(gC ws i).jj:=by lia
  refine aF E.g Qaq (aH (QK QeA QaL (fJ w0 r i1)) (t2:=.sh (dN Qcr)) rfl) ?_;refine nJ (E.ll 3).1 rfl (Gk (aW (aH (c_ (ks,es,ss,mem,j9 ks es _,(gC ws i).jj.toNat,(gC ws i).mode) E.Yl QA (ah QcZ (ah QH (ah (ak (aH (c_ (bs,nm,ks,es,ss,is,os,ws,i) E.qB QN Qge (by exact⟨u,We,s,⟨r,i1⟩,hs,c⟩) rfl) rfl)) (ah (mE (bI Qal Quq QdW) (congrArg _ m.symm)) (ah (bI Qal (ak (aN E.RC Q1)) QdW) av))))) (by exact⟨⟨We,s,f,z,We,y,k⟩,t,We,a⟩) (aO _)) (t2:=.lst (((sortI (Rr ks es ss mem _)).map .int).map T.sh)) rfl)) (bE _)) rfl (by simp only[cK];lia) (aq ⟨some Qj2,some (.sh (dN Qcr)),?_⟩);rw[e2];simp
 case fin=>
  rintro U ⟨o,o',rfl⟩;rw[cK,md];refine aX (nH E.lJ Qa8 (by rw[q];exact p) Qbd) ?_;rw[XG (AW _)];rfl
noncomputable def uP:FG pZ ["chart","memory","going"] ["entered","way_top","TARGET","MODE","sorted"] (ao pX):=fG
abbrev Fb:=top 49
abbrev Fd:=BA×BA×At×AT×AT×BA×BA×List bM×Int
noncomputable abbrev Fe:At:=["chart","mood","way"]
def r6:Fd->BA:=λ(bs,nm,ks,es,ss,is,os,ws,m)=>[fz bs nm Qa2 is os QaY,.int m]
def nX:Fd->Prop:=λ(bs,nm,ks,es,ss,is,os,ws,m)=>ez es/\ks.length=es.length/\es.length<=1000/\0<=m/\m<es.length
def nY:Fd->T:=λ(bs,nm,ks,es,ss,is,os,ws,m)=>(.sh (.bl (lH ks es ws m)):T)
structure acG(X:Cx)(CL:BM):Prop extends EL X Fe ["MODE","TARGET","within"],fF X.K X.mg CL where
 lO:Fc X CL "within" 2 3 kP kQ kR
theorem acH(E:acG X CL) :
  j6 X CL b Fb Fe r6 nX nY:=by
 rintro⟨bs,nm,ks,es,ss,is,os,ws,m⟩ h;dsimp [nY]at h ⊢;obtain⟨n,s,hl,m0,m1⟩:=h;refine dR (ZQ (bQ (cH E.iU E.gu QcZ kD) QH (fJ Str.empty m0 We)) dg).1 (λa=>?_) (λa=>aq ?_)
 .apply aX mC;have:eS ks m=false:=by
   rw[tw]at a;exact a
  unfold lH;rw[this];rfl
 have q:eS ks m=true:=by
  rw[zb]at a;exact a
 have k:lH ks es ws m=ws.any (Io es m):=by unfold lH;rw[q];rfl
 rw[k];refine fS E.g Qak (λj U=>(∀i x,i<j->ws[i]? = some x->Io es m x=false)/\∃o,U=[some _,some _,o])
  (dX QeA) ⟨λi x hi=>by lia,_,rfl⟩ (λj U ⟨_,_,e⟩=>by subst e;exact iq rfl) ?turn ?fin
 case turn=>
  rintro j d U p ⟨c,o,rfl⟩;obtain⟨w,rfl,hw,_,r,_,_⟩:=jM p;refine dR (kh (lU (ZQ QqX dg).1 (λ_=>om (eY QqT QH).1))) (λa=>?_) (λa=>aq ?_)
  .apply aX mC;rw[N4 hw (by unfold Io;rw[a];rfl)]
  refine dR (kh (lU (iS QqX dg).1 (λ_=>om (fX (c_ (ks,es,ss,m,w.jj) E.lO QU (ah QcZ (ah QH (ah QqT av))) (⟨n,m0,m1,hl⟩) rfl))))) (λl=>?_) (λl=>aq (aq ?_))
  .apply aX mC;rw[N4 hw (by unfold Io;rw[l,Bool.or_true])]
  .refine⟨λi x hi f=>?_,_,rfl⟩;by_cases e:i=j
   .subst e;rw[hw]at f;cases f;unfold Io;rw[a,l];rfl
   .exact c i x We f
 case fin=>
  rintro U ⟨c,o,rfl⟩;apply aX mC;rw[any_none λi x f=>c i x (by rw[cK];exact(lr.1 f).1) f]
noncomputable def IQ:FG Fe ["chart","mood"] ["MODE","TARGET","within"] (ao Fb):=fG
abbrev yd:=top 54
abbrev ye:=BA×BA×At×AT×AT×BA×EU×List bM×AT×AT×AT
noncomputable abbrev yf:At:=["chart","gone","memory","behind","rows","mood"]
def r9:ye->BA:=λ(bs,nm,ks,es,ss,is,os,ws,gone,mem,bh)=>[fz bs nm Qa2 is Qol QaY,.lst (gone.map .int),.lst Qc3,.lst (bh.map .int)]
def mU:ye->Prop:=λ(bs,nm,ks,es,ss,is,os,ws,gone,mem,bh)=>ez es/\es.length<=1000/\ks.length=es.length/\os.length=es.length/\mem.length=es.length/\bh.length=es.length/\pC os/\gone.length<=1000/\∀m∈gone,0<=m/\m<es.length
def mV:ye->T:=λ(bs,nm,ks,es,ss,is,os,ws,gone,mem,bh)=>(.lst ((Km Qe1 os mem bh gone).map T.sh):T)
structure Sg(X:Cx)(CL:BM):Prop extends EL X yf ["heeded"],fF X.K X.mg CL where
 Ff:Fc X CL "heeded" 3 2 r6 nX nY
theorem Sh(E:Sg X CL) :
  j6 X CL b yd yf r9 mU mV:=by
 rintro⟨bs,nm,ks,es,ss,is,os,ws,gone,mem,bh⟩ h;dsimp [mV]at h ⊢;obtain⟨l,hl,p,n,x,t,f,r,s⟩:=h;apply aF E.g Qar Qa1;refine fS E.g Qaq (λj U=>∃o,U=[some _,some _,some _,some _,some (.lst ((Km Qe1 os mem bh (gone.take j)).map T.sh)),o])
  (dX Qbn) ⟨_,rfl⟩ (λj U ⟨_,e⟩=>by subst e;exact iq rfl) ?turn ?fin
 case turn=>
  rintro j d U q ⟨o,rfl⟩;obtain⟨m,rfl,_,hm,v,_,u⟩:=jM q;obtain⟨m0,m1⟩:=s m hm;have c:=(Kn (Cr:=lH ks es ws) (mem:=mem) (bh:=bh) f (gone.take j)).1;have k:(gone.take j).length<=j:=by simp;lia
  obtain⟨g1,g2⟩:=f.get m.toNat;rw[u,XH];generalize Km _ os _ bh _=rs at c ⊢;apply iZ (E.ll 4).1 rfl (bG (aj cg (aj QbX aL)) aD) rfl (by rw[cK];lia);refine tP (λU=>U=[some (.sh (fz bs nm Qa2 is Qol QaY)),some (.sh (.lst (gone.map .int))),some QmP,some (.sh (.lst (bh.map .int))),some (.lst ((rs++(D.tup [.str "out",.int m]::(if lH ks es ws m=true then [D.tup [.str "keep",.int m,.int Qmz,.int QmV]] else []))).map T.sh)),some Qn2])
   (fX (aH (c_ (bs,nm,ks,es,ss,is,os.map _,ws,m) E.Ff QA (ah QD QjI) (⟨l,p,hl,m0,m1⟩) rfl) rfl)) (λa=>?_) (λa=>?_) ?_
  .rw[cq a];refine iZ (E.ll 4).1 rfl (bG (aj cg (aj QbX (aj (fq (bQ QP Qal (ic m0 We)) rfl) (aj (fq (bQ Qaw Qal (ic m0 We)) rfl) aL)))) aD) rfl WE (aq ?_);simp
  .rw[bX (by rw[a];decide)];apply aq;simp
  rintro U rfl;have i:(if lH ks es ws m=true then [D.tup [.str "keep",.int m,.int Qmz,.int QmV]] else []).length<=1:=by split<;>simp
  generalize (if lH ks es ws m=true then [D.tup _] else [])=w at i ⊢;refine nJ (E.ll 4).1 rfl (Gk (bQ (cH E.bU E.zE QD Rq) Qal (fJ [] m0 We)) g2) rfl (by rw[cK,ke,mi];lia) (aq ⟨some Qn2,?_⟩);simp
 case fin=>
  rintro U ⟨o,rfl⟩;rw[cK,md];exact aX QeW rfl
noncomputable def B4:FG yf ["chart","gone","memory","behind"] ["heeded"] (ao yd):=fG
abbrev yg:=top 55
abbrev yh:=BA×BA×D×BA×BA×List bM×Nat×AT
noncomputable abbrev yi:At:=["chart","ways","rows","number"]
def sd:yh->BA:=λ(bs,nm,tr,is,os,ws,n,sel)=>[fz bs nm tr is os QaY,.lst (sel.map .int)]
def mW:yh->Prop:=λ(bs,nm,tr,is,os,ws,n,sel)=>sel.length<=1000/\(∀i∈sel,Qgr/\xp n Qcr)
def mX:yh->T:=λ(bs,nm,tr,is,os,ws,n,sel)=>(.lst ((N2 ws sel).map T.sh):T)
theorem Si(E:Gp yi ["DEEDS"] X CL) :
  j6 X CL b yg yi sd mW mX:=by
 rintro⟨bs,nm,tr,is,os,ws,n,sel⟩ h;dsimp [mX]at h ⊢;obtain⟨hl,hs⟩:=h;apply aF E.g Qak Qa1;refine fS E.g Qax (λj U=>∃o,U=[Option.some _,Option.some _,Option.some (.lst ((N2 ws (sel.take j)).map T.sh)),o])
  (dX Qbn) ⟨_,rfl⟩ (λj U ⟨_,e⟩=>by subst e;exact iq rfl) ?turn ?fin
 case turn=>
  rintro j d U l ⟨o,rfl⟩;obtain⟨i,rfl,_,hi,p,_,m⟩:=jM l;obtain⟨⟨a,i1⟩,hw⟩:=hs i hi;have k:=(Ko (some:=sel.take j) (λx c=>(hs x (wq c)).2)).1;have f:(sel.take j).length<=j:=by simp;lia
  have d1:=hw.2.2.2.1;apply iZ (E.ll 2).1 rfl QvV rfl (by rw[cK];lia);refine nJ (E.ll 2).1 rfl (Gk (bI (bQ Qtt Qaw (fJ w0 a i1)) (ak (aN E.age QA)) NF) hw.2.2.2.2.1) rfl (by rw[ke,cK];show _+1+(gC ws i).lG.length<=_;lia) (aq ⟨Option.some Qj2,?_⟩);rw[m,XI,i5,i3];rfl
 case fin=>
  rintro U ⟨o,rfl⟩;rw[cK,md];exact aX QgM rfl
noncomputable def B5:FG yi ["chart","ways"] ["DEEDS"] (ao yg):=fG
abbrev se:=top 23
abbrev sf:=BA×BA×D×BA×BA×List bM×Int
noncomputable abbrev sr:At:=["chart","number"]
def jZ:sf->BA:=λ(bs,nm,tr,is,os,ws,i)=>[fz bs nm tr is os QaY,.int i]
def f9:sf->Prop:=λ(bs,nm,tr,is,os,ws,i)=>0<=i/\i<ws.length
def j3:sf->T:=λ(bs,nm,tr,is,os,ws,i)=>(.sh (.bl (nL ws i)):T)
def Ls(E:Gp sr ["TARGET"] X CL) :
  j6 X CL b se sr jZ f9 j3:=by
 rintro⟨bs,nm,tr,is,os,ws,i⟩ h;obtain⟨h0,h1⟩:=h;exact aX (Dv (bI (bQ Qtt QH (fJ w0 h0 h1)) (ak (aN E.uc QA)) QdW) QdS).2 rfl
noncomputable def wV:FG sr ["chart","number"] ["TARGET"] (ao se):=fG
abbrev Dc:=top 50
abbrev Lv:=BA×BA×At×AT×AT×EU×EU×List bM×AT×AT×AT
noncomputable abbrev Lw:At:=["chart","opens","memory","ways","going","gone","behind","come","script"]
def qC:Lv->BA:=λ(bs,nm,ks,es,ss,is,os,ws,ops,mem,a)=>[fz bs nm Qa2 Qok Qol QaY,.lst Qcl,.lst Qc3,.lst QeX]
def ng:Lv->Prop:=λ(bs,nm,ks,es,ss,is,os,ws,ops,mem,a)=>oE ks es ss is os ws/\(ops.Pairwise (· < ·)/\∀x∈ops,0<=x/\x<es.length)/\BR ks es mem/\t6 ks es ws a
def kT:Lv->T:=λ(bs,nm,ks,es,ss,is,os,ws,ops,mem,a)=>(.tup [.lst ((z3 ks es ss is os ws mem ops a).map T.sh),.lst (((z4 ks es ss (Y7 ks es ws mem ops QaR) ops QaR).map .int).map T.sh),.lst (((Y7 ks es ws mem ops QaR).map .int).map T.sh)]:T)
structure agE(X:Cx)(CL:BM):Prop extends EL X Lw ["all_left","remembered","all_entered","out_rows","way_rows","in_rows","sorted"],fF X.K X.mg CL where
 jU:Ka X "chart"
 alx:Ka X "gone"
 Sj:Fc X CL "all_left" 5 3 rW mR mS
 Lx:Fc X CL "remembered" 1 4 nV jY nW
 GH:Fc X CL "all_entered" 65 3 jl gF jm
 Sn:Fc X CL "out_rows" 4 4 r9 mU mV
 Sq:Fc X CL "way_rows" 1 2 sd mW mX
 Bd:Fc X CL "in_rows" 1 2 oH lM lN
 su:Fc X CL "has_target" 1 2 jZ f9 j3
 Ff:Fc X CL "heeded" 3 2 r6 nX nY
theorem agF(E:agE X CL) :
  j6 X CL b Dc Lw qC ng kT:=by
 rintro⟨bs,nm,ks,es,ss,is,os,ws,ops,mem,a⟩ h;dsimp only [ng,qC,kT]at h ⊢;obtain⟨c,⟨y,k⟩,hm,hs⟩:=h;have t:=c.pre.1;have n0:=c.n0;have n1:=c.n1;have o:=hs.wi c;have s:=hs.ui c;have m:=hs.i;have L:=hs.l;have j:=hs.ap;have M:ops.length<=es.length:=iJ (y.imp λh e=>by lia) k;have q:=NO (ws:=ws) k hm QaR;have r:=c.tree q;obtain⟨_,_,S⟩:=Po r y k j o;obtain⟨f1,f2⟩:=N1 (ks:=ks) t y k j;obtain⟨g1,g2⟩:=Im (ks:=ks) t y k j;obtain⟨Y,P,O⟩:=D9 r j o;have f:∀x∈pA ks es ops QaR,0<=x/\x<es.length:=λx u=>k x (Kl.1 u).1;have v:(a.filter Qdm).map QbO=rC ws a:=rfl;have z:∀i∈a.filter Qdm,Qgr/\QhU/\Qq8/\tY (gC ws i).mode/\Qql:=λi hi=>by
  have h1:=(l7.1 hi).1;have w:=s i h1;have g:=o Qcr (ip.2 ⟨i,hi,rfl⟩);exact⟨m i h1,w.1,g.1,w.2.2.1,g.2⟩
 unfold z3;refine oY (p:=λd=>nL ws d.tS) (gg:=λd=>T.sh d) E.g Qar QhV (dX QbU) Qay (λC s0 K f0 J d hd=>?alh) Qha ?rest (by exact iq rfl) Qch
 case alh=>
  obtain⟨i,hi,rfl⟩:=ip.1 hd;exact⟨fX (c_ (bs,nm,dG ks es ss,is.map .tup,os.map .tup,ws,i) (kW E.su) y9 QvY (by dsimp only [f9];exact m i hi) rfl),λ_=>(v_ (J9 0))⟩
 case rest=>
 have H:(((a.map D.int).filter (λd=>nL ws d.tS)).map λd=>T.sh d)=((a.filter Qdm).map D.int).map T.sh:=by
  rw[tc,i0];exact(i0 ..).symm
 rw[H];refine aF E.g Qaq (gX (ds:=(pA ks es ops QaR).map .int) (aH (c_ (bs,nm,ks,es,ss,is.map .tup,os.map .tup,ws,ops,a.filter Qdm) E.Sj QA (ah QD (ah QH Qoa)) (by dsimp only [mR];exact⟨t,We,c.kl,We,k,λi hi=>⟨(z i hi).1,(z i hi).2.1,(z i hi).2.2.1⟩,by rw[v];lia⟩) (aO _)) rfl)) ?_;have Z:((pA ks es ops QaR).filter Qe1).length<=es.length:=ky Qfu g2;refine aF E.g QaF (aH (c_ (ks,es,ss,mem,ops,(pA ks es ops QaR).filter Qe1) E.Lx QN (ah QcZ (ah QP (ah QH (ah (aW (aH (qS (p:=λd=>lH ks es ws d.tS) (g:=λd=>T.sh d) QhV E.g.calm (dX QbX) Qay (λC s0 K f0 J d hd=>?acm) Qha) (t2:=.lst _) (by
  refine congrArg T.lst ?_;rw[tc,i0];exact(List.map_map ..).symm))) av)))) (by dsimp only [jY];exact⟨t,c.kl,hm.1,k,λx u=>f x (List.mem_filter.1 u).1⟩) (aO _)) (t2:=.lst (((Y7 ks es ws mem ops QaR).map .int).map T.sh)) rfl) ?_
 case acm=>
  obtain⟨i,hi,rfl⟩:=ip.1 hd;exact⟨fX (c_ (bs,nm,ks,es,ss,is.map .tup,os.map .tup,ws,i) (kW E.Ff) y9 QvY (by dsimp only [nX];exact⟨t,c.kl,We,(f i hi).1,(f i hi).2⟩) rfl),λ_=>(v_ (J9 0))⟩
 generalize W:Y7 ks es ws mem ops QaR=bh at *;refine aF E.g Qbb (aH (c_ (bs,nm,ks,es,ss,is.map .tup,os.map .tup,ws,bh,a.filter Qdm) E.GH QU (ah QD (ah QdN Qoa)) (by dsimp only [gF];exact⟨⟨We,c.kl,c.sl,q.1,c.kinds⟩,r,z,by rw[v];lia⟩) (aO _)) rfl) ?_;obtain⟨V,B⟩:=Kn (Cr:=lH ks es ws) (mem:=mem) (bh:=bh) c.or (pA ks es ops QaR);obtain⟨U,A⟩:=Ko (n:=es.length) s;have R:(xK ks es ss bh QaR).length<=es.length:=by unfold xK;rw[kB];exact P
 have F:∀x∈xK ks es ss bh QaR,0<=x/\x<is.length:=λx u=>by
  rw[c.il];exact(O x (gP.1 u)).1
 obtain⟨i1,I⟩:=AY c.ir _;refine aF E.g Qdc (qO (aW (qO (aW (aH (c_ (bs,nm,ks,es,ss,is.map .tup,os,ws,pA ks es ops QaR,mem,bh) E.Sn Q1 (ah QD (ah Qal (ah QP (ah QdN av)))) (by dsimp only [mU];exact⟨t,We,c.kl,c.ol,hm.1,q.1,c.or,We,f⟩) (bW B)) (t2:=.lst _) rfl))
  (aW (aH (c_ (bs,nm,dG ks es ss,is.map .tup,os.map .tup,ws,es.length,a) E.Sq Qbd (ah QD QeQ) (by dsimp only [mW];exact⟨We,λi hi=>⟨m i hi,s i hi⟩⟩) (bW A)) rfl)) B A (by rw[sizeLine_eq];lia)))
  (aW (aH (c_ (bs,nm,dG ks es ss,is,os.map .tup,ws.map dN,xK ks es ss bh QaR) E.Bd Qb4 (ah QD (ah Qjk av)) (by dsimp only [lM];exact⟨c.ir,We,F⟩) (bW I)) rfl)) (N3 B A) I (by rw[List.length_append,sizeLine_eq];lia)) ?_
 have G:((((ops.map D.int).filter (λd=>!decide (d.tS∈pA ks es ops QaR))).map λd=>T.sh d))=((ops.filter Qqg).map D.int).map T.sh:=by
  rw[tc,i0];exact(i0 ..).symm
 have N:(ops.filter Qqg).length<=ops.length:=oT _ _;refine aX (nE (aG QnY (aG (aH (nH E.lJ (aW (aH (qO (JK:=(xK ks es ss bh QaR).map .int) (aW (aH (qS (g:=λd=>T.sh d) (b9 (.cons (E.ll 5).1 (.inl E.alx) .nil) Wl) E.g.calm (dX Qbn) Qay (λC s0 K f0 J d hd=>?as4) Qha) (congrArg T.lst G))) Qjk (bE _) (bE _) (lx (cj (by simp only[cK];lia)))) (t2:=.lst (((ops.filter _++xK ks es ss bh QaR).map .int).map T.sh)) (by rw[<- i5]))) We Qb3) rfl) (aG (vM (E.ll 6).1) bu))) aD) rfl
 case as4=>
  obtain⟨i,hi,rfl⟩:=ip.1 hd;exact⟨(yQ (jA 0) (i6 1) rfl rfl).1,λ_=>(v_ (J9 0))⟩
def Fg:UI (ao Dc) ([("chart",.cell),("opens",cI),("memory",cI),("ways",cI),("going",cI),("gone",.cell),("behind",cI),("come",cI),("script",cI),("all_left",bT),("remembered",bT),("all_entered",bT),("out_rows",bT),("way_rows",bT),("in_rows",bT),("sorted",bT)])=true:=by decide +kernel
noncomputable def acI:dB Lw ["chart","opens","memory","ways"] (ao Dc):=jN
abbrev Ly:=top 12
abbrev Lz:=At×AT×AT×Int
noncomputable abbrev LC:At:=["tree","mood"]
def Bq:Lz->BA:=λ(ks,es,ss,m)=>[dG ks es ss,.int m]
def vY:Lz->Prop:=λ(ks,es,ss,m)=>ez es/\0<=m/\m<es.length/\es.length<=1000
def Br:Lz->T:=λ(ks,es,ss,m)=>(.sh (.int ((bV es m).length:Nat)):T)
structure agG(X:Cx)(CL:BM):Prop extends EL X LC ["len","above"],fF X.K X.mg CL where
 mQ:Fc X CL "above" 1 2 kL kM kN
def agH(E:agG X CL) :
  j6 X CL b Ly LC Bq vY Br:=by
 rintro⟨ks,es,ss,m⟩ h;have hl:((bV es m).map D.int).length=(bV es m).length:=by simp
 exact aX (cU hl E.d9 (aW (c_ (ks,es,ss,m) E.mQ QN QeE h (BJ _))) QA) rfl
noncomputable def OW:FG LC ["tree","mood"] ["len","above"] (ao Ly):=fG
abbrev uQ:=top 25
abbrev uR:=At×AT×AT×Int×Int
noncomputable abbrev uS:At:=["tree","one","other"]
def qa:uR->BA:=λ(ks,es,ss,t,u)=>[dG ks es ss,.int t,.int u]
def lg:uR->Prop:=λ(ks,es,ss,t,u)=>ez es/\es.length<=1000/\(-1<=t/\t<es.length) /\ -1<=u/\u<es.length
def lq:uR->T:=λ(ks,es,ss,t,u)=>(.sh (.bl (Kp es t u)):T)
structure OX(X:Cx)(CL:BM):Prop extends EL X uS ["within"],fF X.K X.mg CL where
 lO:Fc X CL "within" 2 3 kP kQ kR
theorem OY(E:OX X CL) :
  j6 X CL b uQ uS qa lg lq:=by
 rintro⟨ks,es,ss,t,u⟩ h;dsimp [lq]at h ⊢;obtain⟨c,hl,⟨t0,t1⟩,u0,u1⟩:=h;unfold Kp;refine dR (kh (lE (eY QH QP).1 (λe=>(lE (eY QH QdS).1 (λd=>(jv (eY QP QdS).1)))))) (λa=>?_) (λa=>aq ?_)
 .apply aX mC;rw[a];rfl
 .rw[a];simp at a;apply aX (OS (c_ ((ks,es,ss,t,u)) E.lO QA (ah QD (ah QH Qc8)) ((⟨c,We,We,hl⟩)) rfl) (λe=>(Ao (c_ ((ks,es,ss,u,t)) E.lO QA (ah QD (ah QP QoI)) ((⟨c,We,We,hl⟩)) rfl))));rw[kv a.2.2,kv a.2.1];rfl
noncomputable def zV:FG uS ["tree","one","other"] ["within"] (ao uQ):=fG
abbrev LD:=top 26
abbrev Ss:=BA×BA×At×AT×AT×BA×BA×List bM×AT
noncomputable abbrev Sv:At:=["chart","found","chosen","tops","number","upper"]
def uT:Ss->BA:=λ(bs,nm,ks,es,ss,is,os,ws,row)=>[fz bs nm Qa2 is os QaY,.lst (row.map .int)]
def qD:Ss->Prop:=λ(bs,nm,ks,es,ss,is,os,ws,row)=>ez es/\es.length<=900/\ks.length=es.length/\row.length<=63/\(∀k∈row,0<=k/\k<ws.length)/\∀w∈ws,(0<=w.src/\w.src<es.length) /\ -1<=w.jj/\w.jj<es.length
def uU:Ss->T:=λ(bs,nm,ks,es,ss,is,os,ws,row)=>(.lst (((NN ks es ws row).map .int).map T.sh):T)
structure alA(X:Cx)(CL:BM):Prop extends EL X Sv ["sorted","has_target","way_top","any"],fF X.K X.mg CL where
 jU:Ka X "chart"
 Lj:Ka X "upper"
 su:Fc X CL "has_target" 1 2 jZ f9 j3
 qB:Fc X CL "way_top" 4 2 lP jE lQ
 agI:Fc X CL "depth" 2 2 Bq vY Br
 OZ:Fc X CL "tops_meet" 3 3 qa lg lq
 lam:xc X CL "#kept.<locals>.<lambda>" "kept.<locals>.<lambda>"
 dp:X.A.depth<recursionLimit
 rm:fj 4 X.A
theorem alB(E:alA X CL) :
  j6 X CL b LD Sv uT qD uU:=by
 rintro⟨bs,nm,ks,es,ss,is,os,ws,row⟩ h;dsimp only [qD,uT,uU]at h ⊢;obtain⟨G,hl,L,Y,F,hw⟩:=h;refine aF E.g Qak Qa1 ?_;refine aF E.g Qax Qa1 ?_;have P:∀(l:AT) (x:Int),(l.map D.int).map T.sh++[T.sh Qdj]=((l++[x]).map D.int).map T.sh:=by intros;simp
 have O:∀{w:bM},w∈ws->-1<=j9 ks es w/\j9 ks es w<es.length:=λ{w} hm=>by
  have hs:=(hw w hm).1;rcases abD (dS:=eS ks) (es:=es) (a:=w.src) (c:=w.jj) with z|z
  .unfold j9;rw[z];lia
  .have:=bH G hs.1 hs.2 z;unfold j9;lia
 have W:(iR Qb0 row).length<=63:=by rw[AI];exact Y
 have B:∀k∈iR Qb0 row,0<=k/\k<ws.length:=λk L=>F k (Ie.1 L);have M:∀l:AT,(∀k∈l,0<=k/\k<ws.length)->∀t∈(nC ks es ws l).2,-1<=t/\t<es.length:=by
  have gen:∀(l:AT) (s:QhH),(∀k∈l,0<=k/\k<ws.length)->(∀t∈s.2,-1<=t/\t<es.length)->∀t∈(l.foldl QhP s).2,-1<=t/\t<es.length:=by
   intro l
   induction l with
   | nil=>intro s _ hs;exact hs
   | cons k l S=>
    intro s hl hs;rw[List.foldl_cons];refine S _ (λq v=>hl q (ij _ v)) ?_;obtain⟨k0,k1⟩:=hl k gk;unfold XO;split
    .split
     .exact hs
     .intro t u;obtain z|z:=iw.1 u
      .exact hs t z
      .rw[kx.1 z];exact O Qpf
    .exact hs
  exactλl hl=>gen l ([],[]) hl (λt u=>by cases u)
 refine fS E.g Qar (λj U=>∃o n,U=[some _,some QrK,some (.lst (((nC ks es ws ((iR Qb0 row).take j)).1.map .int).map T.sh)),some (.lst (((nC ks es ws ((iR Qb0 row).take j)).2.map .int).map T.sh)),o,n])
  (dX (gX (ds:=(iR Qb0 row).map .int) (aH (DW (y:="way") (g:=λd=>XQ es ws d.tS) E.lam E.g E.dp E.lJ QA QhV QH (bE _) WE (λf c s0 H0 b' d hd=>?key)) (by rw[Ig];rfl)))) ⟨_,_,rfl⟩ (λj U ⟨_,_,e⟩=>by subst e;exact iq rfl) ?turn ?fin
 case key=>
  obtain⟨k,A,rfl⟩:=ip.1 hd;obtain⟨k0,k1⟩:=F k A;obtain⟨⟨s0,s1⟩,_⟩:=hw _ Qpf;exact ak (aH (eZ (ak (c_ (ks,es,ss,(gC ws k).src) (akk E.agI (E.rm.mono Wm)) (Q7 Wl) (ah (cH (by exact E.bU) (by exact E.cV) QlB fB) (ah (bI (bQ (cH (by exact E.bU) (by exact E.cW) QlB fC) Qsd (fJ (f:=dN) w0 k0 k1)) (ak (aN (by exact E.zG) (Q7 Wl))) lW) av)) (by dsimp only [vY];exact⟨G,s0,s1,We⟩) rfl))) rfl)
 case turn=>
  rintro j d U Z ⟨o,n,rfl⟩;obtain⟨k,rfl,_,A,sS,_,Ai⟩:=jM Z;obtain⟨k0,k1⟩:=B k A;obtain⟨I,H⟩:=hw _ Qpf;have hlen:=Vs ks es ws ((iR Qb0 row).take j);have j4:((iR Qb0 row).take j).length<=63:=by rw[o4];lia
  have r:=M ((iR Qb0 row).take j) λq v=>B q (wq v);show cQ X CL b _ _ {nx:=λU=>∃o n,U=[_,_,some Qfo,some Qfo,o,n],rt:=_,bk:=_,ct:=λU=>∃o n,U=[_,_,some Qfo,some Qfo,o,n]};rw[Ai,abI];generalize nC ks es ws ((iR Qb0 row).take j)=s at hlen r ⊢;obtain⟨cs,Cu⟩:=s;dsimp only at hlen r ⊢;unfold XO;dsimp only;refine tP (λU=>∃N n,(if nL ws k=true then(if Cu.any (Kp es QiI)=true then(cs,Cu) else(cs++[k],Cu++[j9 ks es Qi3])) else(cs++[k],Cu))=(cs++[k],N)/\U=[some (.sh (fz bs nm Qa2 is os QaY)),some QrK,some (.lst ((cs.map .int).map T.sh)),some (.lst ((N.map .int).map T.sh)),some Qjq,n])
   (fX (aH (c_ (bs,nm,dG ks es ss,is,os,ws,k) E.su QN Qge (by dsimp only [f9];exact⟨k0,k1⟩) rfl) (t2:=.sh (.bl (nL ws k))) rfl)) (λm=>?_) (λm=>?_) ?_
  .have m:nL ws k=true:=m;have V:¬ (gC ws k).jj=-1:=by unfold nL at m;simpa using m
   refine aF E.g Qaq (aH (c_ (bs,nm,ks,es,ss,is,os,ws,k) E.qB QU Qge (by dsimp only [jE];exact⟨G,We,L,⟨k0,k1⟩,I,We,H.2⟩) rfl) rfl) ?_;have J:=O (rB (ws:=ws) k0 k1);refine dR (fX (aH (akc E.g E.ape (aW (aH (aaG (p:=λ_=>true) (g:=λd=>T.sh (.bl (Kp es QiI d.tS))) (b9 (.cons (E.ll 0).1 QoU (.cons (E.ll 5).1 (.inl E.Lj) .nil)) Wl) E.g.calm Qa8 (λd _=>rfl) (λC s0 H0 f0 b' d hd=>?AO) (lx (cj (by rw[cK];lia)))) ?ceq)) Q1) (t2:=.sh (.bl (Cu.any (Kp es QiI)))) (congrArg (λz=>T.sh (.bl z)) (by rw[List.any_map];rfl)))) (λv=>?_) (λv=>aq ?_)
   case AO=>
    obtain⟨t,K,rfl⟩:=ip.1 hd;exact⟨rfl,λ_=>aH (c_ (ks,es,ss,j9 ks es Qi3,t) (kW E.OZ) y9 (ah (cH (by exact E.bU) (by exact E.cV) (i6 1) fB) (ah (i6 2) QsD)) (by dsimp only [lg];exact⟨G,We,J,r t K⟩) rfl) rfl⟩
   case ceq=>
    rw[fM,i0,i0,i0];rfl
   .refine aj1 ?_;rw[cq m,cq v];exact⟨_,_,rfl⟩
   .refine iZ (E.ll 3).1 rfl QbX rfl WE (aq ⟨Cu++[j9 ks es Qi3],some (.sh (.int QiI)),?_,?_⟩)
    .rw[cq m,bX (by rw[v];decide)]
    .rw[P];rfl
  .have m:nL ws k=false:=m;exact aq ⟨Cu,_,by rw[bX (by rw[m];decide)],rfl⟩
  rintro U ⟨N,R,eT,rfl⟩;rw[eT];refine iZ (E.ll 2).1 rfl QdO rfl WE (aq ?_);rw[P];exact⟨_,_,rfl⟩
 case fin=>
  rintro U ⟨o,n,rfl⟩;rw[cK,md];have hlen:=Vs ks es ws (iR Qb0 row);exact aX (aH (nH E.lJ Qjj We QA) rfl) rfl
def LJ:UI (ao LD) ([("chart",.cell),("found",cI),("chosen",cI),("tops",cI),("number",cI),("upper",.cell),("sorted",bT),("has_target",bT),("way_top",bT),("any",bT)])=true:=by decide +kernel
noncomputable def V0:dB Sv ["chart","found"] (ao LD):=jN
abbrev i9:=inClass (top 59) 2
abbrev lu:=Addr×CH×Nat×World×GS×Nat×Str
noncomputable abbrev ja:At:=["self","number","sign","opens","memory","rows","asks","picked","move"]
def gH:lu->Bn:=λ(y,c,mo,w,s,n,sg)=>[.pin y Qli,.sh Qc2,.sh Qgq]
def gI:lu->Bn:=λ(y,c,mo,w,s,n,sg)=>[.pin y (.ins "Growth" (MN c.d mo w ((F6 c mo s n sg).getD s))),.sh Qc2,.sh Qgq]
def jn:lu->Prop:=λ(y,c,mo,w,s,n,sg)=>VB c mo s n sg/\F6 c mo s n sg≠none
def jo:lu->T:=λ(y,c,mo,w,s,n,sg)=>(.sh .non:T)
structure qb(X:Cx)(CL:BM):Prop extends EL X ja ["list","branches","moved","kept","tuple","len"],fF X.K X.mg CL where
 yj:Fc X CL "branches" 3 4 jW gA jX
 LK:Fc X CL "moved" 66 4 qC ng kT
 uV:Fc X CL "kept" 5 2 uT qD uU
 mH:Ar X CL "Growth" "number_of" 1 3 dH dI dJ
 jw:Hf X CL "Growth" "number_of" 1 3 c6 eo eu c7
 B6:o8 X CL "branches" 3 4 iC f7 iD
theorem uW(E:qb X CL){y:Addr}{w:World}{s:GS}(h:VB c mo s n sg)(V:F6 c mo s n sg=none->∃G W,X=Cx.gS G (XE G W)/\eL b W Qez) :
  cQ X CL b (bN i9) (oZ ja [.pin y Qli,.sh Qc2,.sh Qgq]) {nx:=λU=>∃s',F6 c mo s n sg=some s'/\Keeps U [.pin y (.ins "Growth" (MN c.d mo w s')),.sh Qc2,.sh Qgq],rt:=λ_ _=>False}:=by
 obtain⟨a,nd,ln,X9,gd,hn,hk,aa,Z⟩:=h;obtain⟨p,C⟩:∃p,p=s.fl.getD n ([],[]):=⟨_,rfl⟩;have Y:s.fl[n]? = some p:=by rw[C,kq,kf hn];rfl
 have l:Gd c p:=gd p (kA Y);have g1:=l.b;have g3:=OH l;have n1:=a.k.n1;have wl:=a.k.wl;have H:=a.k.kl;have L:=a.k.pre.1;have B:=a.q (c.bs.map (·.2)) (cK ..);have CP:xq QeU (n:Int)=some (lZ p):=c9 (by rw[j2,Y];rfl);unfold MN;refine aF E.g Qax (ki E.cJ (fq (bI QuN ai lW) (by show D.bf _=true;exact bE _)) QA aU) ?_;refine aF E.g Qar (ki E.cJ (fq (bI QuN ai pe) (by show D.bf _=true;exact bE _)) QA aU) ?_;refine aF E.g Qaq Qkk ?_;show cQ X CL b _ [some QkR,some Qbj,some QdM,some _,some _,some Qj5,none,none,none] _;by_cases hw:s.sp<(F5 c p sg).length
 .have e:F6 c mo s n sg=none:=by unfold F6;rw[<- C,cq hw]
  obtain⟨G,W,rfl,O⟩:=V e;refine QS E.g Qq9 (λ_ U=>U.length=9/\U[0]? = some (some T.bad)) (UK (dX (ds:=[]) (U8 (t:=.sh Qj5) (U2:=[some T.bad,none,none,none,none,none,none,none,none]) (c.bs.map j7,c.nm,c.ks,c.es,c.ss,c.is.map .tup,c.os.map .tup,c.ws,p.1,sg,s.sp) U6 O E.B6 QN
   (gD (U0 (fY E.aY E.iA Qcb rfl rfl lI) rfl (iy lI)).m (gD (Hm (E.ll 3).1 rfl).m (gD (v_ (E.ll 2).1).m (gD (U0 Qrr rfl (iy t7)).m CT)))) (by dsimp only [f7];exact⟨⟨L,We,H⟩,⟨We,B.ok,B.g⟩,⟨We,g1⟩,hw,Z⟩)))) ⟨rfl,rfl⟩ (λj U z i hi=>?_) (λj d U hd=>by cases hd) (λU z=>U7 0 z.2)
  simp only[fP,km,or_false]at hi;rw[z.1];obtain rfl|rfl:=hi<;>decide
 have hB:(F5 c p sg).length<=s.sp:=by lia
 refine QS E.g Qq9 (λj U=>∃x K J A,Iu c mo p ((F5 c p sg).take j) (s.fl,[])=some x/\U=[some (.pin y (.ins "Growth" (Ir c.d mo (.lst ((x.1.map lZ).map T.sh)) (.j5 w (x.1.map lZ) (Kx x.1.length)) _ Qnh))),some Qbj,some QdM,some _,some _,some QrL,K,J,A])
  (UK (dX (gX (aH (c_ (c.bs.map j7,c.nm,c.ks,c.es,c.ss,c.is.map .tup,c.os.map .tup,c.ws,p.1,sg,s.sp) E.yj QN (ah QkU (ah Qa8 (ah QP (ah (jd Qrr rfl (iy t7) rfl) av)))) (by dsimp only [gA];exact⟨⟨L,We,H⟩,⟨We,B.ok,B.g⟩,⟨We,g1⟩,hB,Z⟩) QrG) (t2:=.lst (((F5 c p sg).map oD).map T.sh)) rfl)))) ⟨(s.fl,[]),none,none,none,rfl,rfl⟩ (λj U ⟨x,_,_,_,_,e⟩ i hi=>?len) ?turn ?fin
 case len=>
  subst e;simp only[fP,km,or_false]at hi;obtain rfl|rfl:=hi<;>exact iq rfl
 case turn=>
  rintro j d U S ⟨x,K,J,A,f,rfl⟩;rw[j2]at S;obtain⟨br,o,rfl⟩:=nr.1 S;have N:=kA o;obtain⟨v,_⟩:=KG a l _ (n:=0) (λz hz=>wq hz) ⟨nd,ln,gd,rfl,λr M=>by cases M⟩ f;have kl:=v.rl;have R:=v.ln;rw[o4]at kl;obtain⟨pn,pk⟩:=Ei sg br N;have P:=C3 a pn pk;have I:D.bf Qc5=true:=fU λd hd=>C4 (Ku a P d hd);have pl:br.2.length<=63:=by
   have:=iJ (n:=c.ws.length) pn pk;lia
  refine⟨ _,rfl,?_⟩;show cQ X CL b _ [some QkR,some Qbj,some QdM,some _,some _,some _,some _,some _,A] _;have em:kT (c.bs.map j7,c.nm,c.ks,c.es,c.ss,c.is,c.os,c.ws,p.1,p.2,qG c br.2)=T.tup [.lst ((ML c p QaW).map T.sh),.lst (((toN c p QaW).1.map .int).map T.sh),.lst (((toN c p QaW).2.map .int).map T.sh)]:=rfl;have wo:=a.k.wo;refine aF E.g Qdc (jc (d:=.tup [.lst Qc5,.lst ((toN c p QaW).1.map .int),.lst ((toN c p QaW).2.map .int)]) (aH (c_ _ E.LK QU (ah QkU (ah Qa8 (ah QeC (ah (aW (aH (c_ (c.bs.map j7,c.nm,c.ks,c.es,c.ss,c.is.map .tup,c.os.map .tup,c.ws,br.2) E.uV Q1 (ah QkU (ah (aW (ki E.cJ Qc7 QA aU)) av)) (by dsimp only [qD];exact⟨L,We,H,pl,pk,λw hw=>⟨(wo w hw).1,by have:=(wo w hw).2.1;lia⟩⟩) (aO _)) rfl)) av)))) (by dsimp only [ng];exact⟨a.k,⟨l.s,l.b⟩,l.m,P⟩) ?cl) em) ?fr) ?_
  case cl=>
   rw[em];rw[T.clean,T.dW,T.dW,T.dW,T.dW,bW I,aO,aO];rfl
  case fr=>rw[T.cu,T.cD,T.cD,T.cD,T.cD,bF,bF,bF]
  show cQ X CL b _ [some QkR,some Qbj,some QdM,some _,some _,some _,some _,some _,some (.sh (.tup [.lst _,.lst _,.lst _]))] _;have hlen:((x.2.map Rx).map T.sh).length<=1000000:=by rw[cK,cK];lia
  by_cases F:rf c mo p x br
  .have e:F6 c mo s n sg=none:=by unfold F6;rw[<- C,bX hw,abX o f F];rfl
   obtain⟨G,W,rfl,O⟩:=V e;refine S1 (E.ll 5).1 rfl (U3 (tl:=[.sh (.tup QjN),.sh _,.sh .non]) (gD (v_ (E.ll 6).1).m (gD (eG E.fc Qtu I Qbd).m (gD (NK (t:=.sh .non) (U2:=[some T.bad,none,none,none,none,some _,none,none,none]) (dl:=[.lst _,.lst _]) QpD U6 (λ_=>O) E.mH (E.ll 0).1 (.pin rfl) Qqn (λ_ _=>⟨⟨v.nd,R,We⟩,F⟩)).m CT))) aD) rfl hlen Qpg
  refine S1 (E.ll 5).1 rfl (aaZ (ds:=[.tup QjN,.tup _,.int _]) (gD (v_ (E.ll 6).1).m (gD (eG E.fc Qtu I Qbd).m (gD (qM (dl:=[.lst _,.lst _]) QpD (.pin y (.ins "Growth" _)) E.jw (E.ll 0).1 (.pin rfl) Qqn (λ_ _=>⟨⟨v.nd,R,We⟩,F⟩) Qck (λz hz=>by cases hz;exact⟨rfl,.inr rfl,trivial⟩)) CT))) aD) rfl hlen (aq ⟨VA c p x br,some (.sh (.tup QjN)),some (.sh (.tup (br.2.map .int))),some (.sh (.tup [.lst Qc5,.lst ((toN c p QaW).1.map .int),.lst ((toN c p QaW).2.map .int)])),abY o f F,?_⟩);show [_,_,_,_,_,some (T.lst ((x.2.map Rx).map T.sh++[T.sh _])),_,_,_]=_;rw[show(x.2.map Rx).map T.sh++[T.sh _]=((VA c p x br).2.map Rx).map T.sh by unfold VA;rw[i5,i5];rfl];rfl
 case fin=>
  rintro U ⟨x,K,J,A,f,rfl⟩;rw[cK,md]at f;obtain⟨v,_⟩:=KG a l _ (n:=0) (λz hz=>hz) ⟨nd,ln,gd,rfl,λr M=>by cases M⟩ f;have kl:=v.rl;rw[Nat.zero_add]at kl;refine aa9 E.aY E.fV Qcb rfl rfl t7 (ak (cU (cK ..) E.d9 QiQ Qb4)) Qaz ?_;show cQ X CL b _ [some (.pin y _),_,_,_,_,_,_,_,_] _;rw[af5];refine U4 (CZ n sg) E.u QnX (fY E.aY E.pD Qcb rfl rfl C1) (aH (nE (aG Qbn (aG QaD bu)) aD) rfl) rfl (iy C1) (by rw[show(d8 QdQ).map (·.1)=s.rs.map (·.1) by unfold d8 iu;rw[i0,i0];rfl];exact hk) (by unfold d8 iu;rw[cK,cK];lia) (aq ⟨⟨x.1,s.rs++[(CZ n sg,x.2)],s.sp-x.2.length⟩,?_,?_⟩)
  .unfold F6;rw[<- C,bX hw,f];rfl
  .show Keeps [some (T.lV [.fld "rows"] _ _),_,_,_,_,_,_,_,_] _;have e1:d8 QdQ++[(CZ n sg,T.lst ((x.2.map Rx).map T.sh))]=d8 (iu (s.rs++[(CZ n sg,x.2)])):=by unfold d8 iu;rw[i5,i5];rfl
   have e2:((s.sp:Nat):Int)-(x.2.length:Nat)=((s.sp-x.2.length:Nat):Int):=by lia
   rw[e1,e2];exact Sr (ds:=[.int n,.str sg])
def GJ(E:qb X CL) :
  L3.TB X CL b i9 ja gH jn jo gI:=by
 rintro⟨y,c,mo,w,s,n,sg⟩ h;dsimp only [jn,gH,jo,gI]at h ⊢;obtain⟨h1,h2⟩:=h;refine(uW E h1 λz=>absurd z h2).mono (λU z=>?_) λ_ _ z=>z.elim;obtain⟨s',e,k⟩:=z;rw[e];exact⟨rfl,k⟩
abbrev mw:Type:=Addr×CH×Nat×World×GS×Nat×Str
def gZ:mw->Bn:=λ(y,c,mo,w,s,n,sg)=>[.pin y Qli,.sh Qc2,.sh Qgq]
def g6:mw->Prop:=λ(y,c,mo,w,s,n,sg)=>VB c mo s n sg/\F6 c mo s n sg=none
def g7:mw->Str:=λ(y,c,mo,w,s,n,sg)=>"TooWide"
def Fi(E:qb Qbx CL)(y c mo w s n sg)(h:g6 (y,c,mo,w,s,n,sg))(a:eL b W (CL (g7 (y,c,mo,w,s,n,sg)))) :
  cQ Qbx CL b (bN i9) (oZ ja (gZ (y,c,mo,w,s,n,sg))) {nx:=λ_=>False,rt:=λ_ _=>False}:=by
 dsimp only [g6,gZ,g7]at h a ⊢;refine(uW E h.1 λ_=>⟨X,W,rfl,a⟩).mono (λU z=>?_) λ_ _ z=>z.elim;obtain⟨s',e,_⟩:=z;rw[h.2]at e;cases e
noncomputable def gf:FG ja ["self","number","sign"] ["list","branches","moved","kept","tuple","len"] (ao i9):=fG
theorem sA(l:At):(zP l).Nodup:=by
 have gen:∀(l acc:At),acc.Nodup->(l.foldl Gu acc).Nodup:=by
  intro l
  induction l with
  | nil=>intro acc h;exact h
  | cons x l b=>
   intro acc h;apply b _;unfold Gu;split
   .exact h
   .rw[l2];exact⟨h,l4.2 ⟨km,Wp ⟩,λa f c d e=>by simp_all ⟩
 exact gen l [] Wp
def iH(c:CH):At:=zP (c.ws.map (·.sign))
def ue(w:bM):D×Str×BA:=(.int w.src,w.sign,[.tup w.asks,.tup w.lG,.int w.jj,.str w.mode])
theorem LN(h:c.Ok):(iH c).length<=60:=by
 have:=OJ (c.ws.map (·.sign));have:=h.k.wl;unfold iH;simp at *;lia
def Sw(h:c.Ok)(hm:0<mo):xP c mo (iH c) 0 0 Qfb:=by
 refine⟨l4.2 ⟨km,Wp ⟩,hm,Nat.one_pos,λp b=>?_,?_,nc,λq a=>(by cases a),ik _⟩
 .cases kx.1 b;exact akX h
 rfl
theorem xP.pre(h:c.Ok){s:GS}(k:xP c mo (iH c) n j s)(hm:mo<=20)(hn:n<s.fl.length)(a:(iH c)[j]? = some sg):VB c mo s n sg:=by
 have ln:=k.ln;have sp:=k.sp;refine⟨h,k.nd,ln,hm,k.gd,hn,?_,?_,We⟩
 .exact k.ks▸Iv (sA _) n a
 .have e:=congrArg List.length k.ks;simp at e;have hl:=LN h;have:(Oe (iH c) n j).length<=60*n+60:=by
   unfold Oe;rw[ke,cK,o4];have f:=kH (f:=λm=>(iH c).map (CZ m)) (c:=60) (List.range n) λm _=>by simp_all
   rw[nh]at f;lia
  lia
theorem Pf{c:CH}(h:c.Ok){mo n:Nat}:∀(l:At) {j:Nat} {s s':GS},(iH c).drop j=l->xP c mo (iH c) n j s->n<s.fl.length->Ej c mo n l s=some s'->xP c mo (iH c) n (iH c).length s'/\s.fl.length<=s'.fl.length
 | [],j,s,s',e,k,_,g=>by
  cases g;have a:=List.drop_eq_nil_iff.1 e;have e2:Oe (iH c) n j=Oe (iH c) n (iH c).length:=by unfold Oe;rw[List.take_of_length_le a,md]
  exact⟨⟨k.nd,k.ln,k.p0,k.gd,k.ks.trans e2,k.kd,k.rw,k.sp⟩,ik _⟩
 | sg::l,j,s,s',e,k,hn,g=>by
  have a:=by
   have:=congrArg (·[0]?) e;simpa using this
  rw[Ej]at g;cases b:F6 c mo s n sg with
  | none=>rw[b]at g;cases g
  | some s2=>
   rw[b]at g;obtain⟨k2,f⟩:=Ry h (sA _) k a hn b;obtain⟨k3,d⟩:=Pf h l (by rw[<- List.drop_drop,e];rfl) k2 We g;exact⟨k3,ky f d⟩
theorem Pe{c:CH}(h:c.Ok){mo:Nat}:∀(f:Nat) {n:Nat} {s s':GS},xP c mo (iH c) n 0 s->n<=s.fl.length->mo<=n+f->nN c mo (iH c) f n s=some s'->xP c mo (iH c) s'.fl.length 0 s'
 | 0,n,s,s',k,hn,hf,e=>by
  cases e;have:=k.ln;grind
 | f+1,n,s,s',k,hn,hf,e=>by
  rw[nN]at e;split at e
  .rename_i b;cases a:Ej c mo n _ s with
   | none=>rw[a]at e;cases e
   | some s2=>
    rw[a]at e;obtain⟨k2,d⟩:=Pf h _ rfl k b a;have ks:=k2.ks;rw[KH]at ks;exact Pe h f ⟨k2.nd,k2.ln,k2.p0,k2.gd,ks,k2.kd,k2.rw,k2.sp⟩ We We e
  grind
theorem Pd(h:c.Ok)(hm:0<mo){s:GS}(e:A1 c mo (iH c)=some s):xP c mo (iH c) s.fl.length 0 s:=Pe h mo (Sw h hm) Wp We e
def IU(l:List QnW):(iu l).map (·.1)=l.map (·.1):=by unfold iu;rw[i0];rfl
def acM{hs:At}{s:GS}(k:xP c mo hs n j s):∀q∈iu s.rs,D.bf q.2=true:=λq e=>by
 obtain⟨r,b,rfl⟩:=ip.1 e;exact fU λd hd=>by obtain⟨x,a,rfl⟩:=ip.1 hd;exact agc ((k.rw r b).2 x a)
def V1(p:Pl):(lZ p).m7=true:=by
 show(D.tup _).m7=true;rw[D.m7,D.bf,D.bf,D.m7,D.m7,bE,bE];rfl
def F7(c:CH):BA:=inR c.is (yy c).1
abbrev zW:=top 60
abbrev LQ:=CH×Nat
abbrev zX:At:=["chart","most","start","names","growth","number","sign"]
def vZ:LQ->BA:=λ(c,mo)=>[c.d,.int mo]
def v5:LQ->Prop:=λ(c,mo)=>(c.Ok/\0<mo/\mo<=20)/\A1 c mo (iH c)≠none
def v7:LQ->T:=λ(c,mo)=>(.tup [.sh QsU,.sh (.tup (F7 c)),.lst ((((A1 c mo (iH c)).getD Qfb).fl.map lZ).map T.sh),.dct (d8 QvH)]:T)
structure LR(X:Cx)(CL:BM):Prop extends EL X zX ["begun","signs","Growth","len","tuple"],fF X.K X.mg CL where
 LV:Fc X CL "begun" 64 1 vX qy qz
 zY:Fc X CL "signs" 1 1 m9 iL kK
 acN:Fm X CL "Growth" 1 3 sU sV sW
 mH:Ar X CL "Growth" "number_of" 1 3 dH dI dJ
 jw:Hf X CL "Growth" "number_of" 1 3 c6 eo eu c7
 Fj:Ar X CL "Growth" "grow" 67 3 gZ g6 g7
 GK:Hf X CL "Growth" "grow" 67 3 gH jn jo gI
theorem O1(E:LR X CL)(h:c.Ok/\0<mo/\mo<=20)(G:A1 c mo (iH c)=none->∃u W,X=Cx.gS u (XE u W)/\eL b W Qez) :
  cQ X CL b (bN zW) (entry zX [c.d,.int mo]) {nx:=λ_=>False,rt:=λL _=>∃s,A1 c mo (iH c)=some s/\L=.tup [.sh QsU,.sh (.tup (F7 c)),.lst ((s.fl.map lZ).map T.sh),.dct QmL]}:=by
 obtain⟨l,m0,m1⟩:=h;have a:=l.k;have n1:=a.n1;have wl:=a.wl;have H:=zu l;have q:D.bf (F7 c)=true:=(AY a.ir (yy c).1).2;refine aF E.g Qak (jc (d:=.tup [.lst (F7 c),.lst ((yy c).1.map .int),.lst ((yy c).2.map .int)]) (aH (c_ (c.bs.map j7,c.nm,c.ks,c.es,c.ss,c.is,c.os.map .tup,c.ws.map dN) E.LV QA (ah QD av) (by exact⟨l.nl,a.n0,We,a.kl,a.sl,a.il,a.ir,a.kinds,H⟩) ?cl) (t2:=.tup [.lst ((F7 c).map T.sh),.lst (((yy c).1.map .int).map T.sh),.lst (((yy c).2.map .int).map T.sh)]) rfl) ?fr) ?_
 case cl=>
  show T.clean (.tup [.lst ((F7 c).map T.sh),.lst _,.lst _])=true;rw[T.clean,T.dW,T.dW,T.dW,T.dW,bW q,aO,aO];rfl
 case fr=>rw[T.cu,T.cD,T.cD,T.cD,T.cD,bF,bF,bF]
 have v:(c.ws.map ue).map z6=c.ws.map dN:=by rw[i0];rfl
 have i:zP ((c.ws.map ue).map (·.2.1))=iH c:=by rw[i0];rfl
 refine aF E.g Qax (gX (aH (c_ (c.bs.map j7,c.nm,dG c.ks c.es c.ss,c.is.map .tup,c.os.map .tup,c.ws.map ue) E.zY QN (ah (mE QD (by show c.d=_;unfold CH.d;rw[v])) av) (by dsimp only [iL];rw[List.length_map];lia) (qW _)) (by show T.lst _=_;rw[i]))) ?_;refine aF E.g Qar (ME (c.d,mo,X.w) E.acN QU Qv0 trivial) ?_;refine JW (qM (dl:=[.lst _,.lst _]) (λy=>(y,c.d,mo,X.w,(⟨[],[],8*mo⟩:GS),yy c)) (.ins "Growth" (MN c.d mo X.w Qfb)) E.jw (E.ll 4).1 Qo6 (aG QnH (aG (bK QaD ai AG) bu)) (λ_ _=>⟨⟨List.nodup_nil,Nat.zero_le _,We⟩,λz=>by have:=z.2;dsimp only [List.length_nil]at this;lia⟩) Qck (λz _=>⟨rfl,.inl (by dsimp only;rw[af8];rfl),trivial⟩)) ?_;refine aF E.g Qaq jG ?_;show cQ X CL b _ [some QbB,some Qci,some Qd6,some _,some _,some (.sh (.int 0)),none] _;refine CK E.g (λk U=>∃(n:Nat) (s:GS) (o:Qej),xP c mo (iH c) n 0 s/\n<=s.fl.length/\A1 c mo (iH c)=nN c mo (iH c) (mo-n) n s/\k=mo-n/\U=[some QbB,some _,some Qd6,some _,some (.ins "Growth" (MN c.d mo X.w s)),some Qbj,o]) _
  ⟨0,nI c mo,none,Sw l m0,i8 _,rfl,rfl,rfl⟩ ?_
 rintro k U ⟨n,s,o,hs,hn,he,rfl,rfl⟩;have C:=hs.ln;refine⟨_,_,(UG Qal (ak (cU (cK ..) E.d9 (jd Qre rfl (KC eV) (bF _)) Q1))).1,λF=>?_,λF=>?_⟩
 .obtain⟨f,hf⟩:∃f,mo-n=f+1:=⟨mo-n-1,We⟩;rw[hf,nN,cq We]at he;refine fS E.g QaF (λj U=>∃(s2:GS) (o:Qej),Ej c mo n ((iH c).take j) s=some s2/\xP c mo (iH c) n j s2/\n<s2.fl.length/\U=[some QbB,some _,some Qd6,some _,some (.ins "Growth" (MN c.d mo X.w s2)),some Qbj,o]) (dX QbU) ⟨s,o,rfl,hs,We,rfl⟩ (λj U ⟨_,_,_,_,_,e⟩=>by subst e;exact iq rfl) ?turn ?fin
  case turn=>
   rintro j d U B ⟨s2,o,e2,k2,r,rfl⟩;rw[j2]at B;obtain⟨sg,i,rfl⟩:=nr.1 B;have A:=k2.pre l m1 r i;cases p:F6 c mo s2 n sg with
   | none=>
    have x:A1 c mo (iH c)=none:=by
     have hl:=(lr.1 i).1;have J:=by
      have h2:=t4 j (iH c);rw[tJ hl,(lr.1 i).2]at h2;exact h2.symm
     have K:Ej c mo n (iH c) s=none:=by
      rw[J,zC,e2];show Ej c mo n (sg::_) s2=none;rw[Ej,p];rfl
     rw[he,K];rfl
    obtain⟨u,W,rfl,I⟩:=G x;exact JW (NK (t:=.sh .non) (U2:=[some T.bad,none,none,none,none,none,none]) (dl:=[.int n,.str sg]) (λy=>(y,c,mo,u.w,s2,n,sg)) U6 (λ_=>I) E.Fj (E.ll 4).1 Qo6 QsE (λ_ _=>⟨A,p⟩)).m Qpg
   | some s3=>
    obtain⟨k3,M⟩:=Ry l (sA _) k2 i r p;refine JW (qM (dl:=[.int n,.str sg]) (λy=>(y,c,mo,X.w,s2,n,sg)) _ E.GK (E.ll 4).1 Qo6 QsE (λ_ _=>⟨A,by rw[p];intro z;cases z⟩) Qck (λz _=>⟨rfl,.inl (by rw[p];rfl),trivial⟩)) (aq ⟨s3,_,?_,k3,We,rfl⟩);rw[qq i,zC,e2];show Ej c mo n [sg] s2=some s3;rw[Ej,p];rfl
  case fin=>
   rintro U ⟨s2,o,e2,k2,r,rfl⟩;rw[cK,md]at e2;rw[cK]at k2;refine akA E.g Qaq rfl ai (aq ⟨mo-Q4,We,n+1,s2,o,?_,r,?_,rfl,rfl⟩)
   .have ks:=k2.ks;rw[KH]at ks;exact⟨k2.nd,k2.ln,k2.p0,k2.gd,ks,k2.kd,k2.rw,k2.sp⟩
   .rw[he,e2,show mo-Q4=f by lia];rfl
 .have x:A1 c mo (iH c)=some s:=by
   rw[he];cases mo-n with
   | zero=>rfl
   | succ f=>rw[nN,bX We]
  exact aX (nE (aG QbU (aG (eG E.fc (ak (bK QaD ai lW)) q Qbd) (aG (aoP (U1 Qre rfl (KC eV)) (U2:=[some QbB,some _,some Qd6,some _,some (.ins "Growth" (Ir c.d mo Qo4 _ _ _)),some Qbj,o]) (by show [_,_,_,_,some (T.lV [.fld "flats"] _ _),_,_]=_;unfold MN;rw[af9 eV (af3 _)])) (aG (U1 (fY E.aY E.pD Qgf rfl rfl C1) rfl (KC C1)) bu)))) aD) ⟨s,x,rfl⟩
def agJ(E:LR X CL) :
  j6 X CL b zW zX vZ v5 v7:=by
 rintro⟨c,mo⟩ h;dsimp only [v5,vZ,v7]at h ⊢;obtain⟨h1,h2⟩:=h;refine(O1 E h1 λz=>absurd z h2).mono QeM λv U z=>?_;obtain⟨s,e,k⟩:=z;rw[e];exact k
abbrev Bs:Type:=CH×Nat
def oO:Bs->BA:=λ(c,mo)=>[c.d,.int mo]
def oQ:Bs->Prop:=λ(c,mo)=>(c.Ok/\0<mo/\mo<=20)/\A1 c mo (iH c)=none
noncomputable def oR:Bs->Str:=λ(c,mo)=>"TooWide"
def acO(E:LR Qbx CL)(c mo)(h:oQ (c,mo))(a:eL b W (CL (oR (c,mo)))) :
  cQ Qbx CL b (bN zW) (entry zX (oO (c,mo))) {nx:=λ_=>False,rt:=λ_ _=>False}:=by
 dsimp only [oQ,oO,oR]at h a ⊢;refine(O1 E h.1 λ_=>⟨X,W,rfl,a⟩).mono QeM λv U z=>?_;obtain⟨s,e,_⟩:=z;rw[h.2]at e;cases e
noncomputable def qE:FG zX ["chart","most"] ["begun","signs","Growth","len","tuple"] (ao zW):=fG
abbrev sC:=inClass (top 62) 0
abbrev sE:=BA×BA×BA×BA×(List (oi×BA))
noncomputable abbrev sF:At:=["self","boxes","signs","begin","flats","rows","key"]
def uX:sE->BA:=λ(bs,hs,bg,pr,kvs)=>[.lst bs,.lst hs,.tup bg,.lst pr,.dct Qhq]
def uY:sE->Prop:=λ(bs,hs,bg,pr,kvs)=>D.bf bs=true/\D.bf hs=true/\D.bf pr=true/\(∀q∈kvs,D.bf q.2=true)/\(kvs.map (·.1)).Nodup/\kvs.length<=5000
def uZ:sE->BS:=λ(bs,hs,bg,pr,kvs)=>(Od bs hs bg pr kvs:BS)
theorem LW(E:Gp sF ["list","tuple"] X CL)(bs hs bg pr:BA)(kvs:QcU)(y:Addr)(h:D.bf bs=true/\D.bf hs=true/\D.bf pr=true/\(∀q∈kvs,D.bf q.2=true)/\(kvs.map (·.1)).Nodup/\kvs.length<=5000) :
  cQ X CL b (bN sC) (JL sF y "Table" [.lst bs,.lst hs,.tup bg,.lst pr,.dct Qhq]) {nx:=λU=>U[0]? = some (some (.pin y QqW)),rt:=λ_ _=>False}:=by
 obtain⟨h1,h2,s,r,p,v⟩:=h;apply fZ E.iK E.wJ (E.ll 0).1 (cS E.cJ QH h1 QA aU).m rfl Qaz;rw[yO];apply fZ E.iK E.wN (E.ll 0).1 (cS E.cJ QP h2 QA aU).m rfl Qaz;rw[gO Wl,yO];apply fZ E.iK E.wO (E.ll 0).1 (Xr E.fc QbU QN).m rfl Qaz;rw[gO Wl,gO Wl,yO];apply fZ E.iK E.wM (E.ll 0).1 (cS E.cJ QaL s QA aU).m rfl Qaz;rw[gO Wl,gO Wl,gO Wl,yO];apply fZ E.iK E.rE (E.ll 0).1 DQ.m rfl Qaz;rw[gO Wl,gO Wl,gO Wl,gO Wl];refine Va E.g QaF (λj U=>∃o,U=[some (.pin y (.ins _ Qqu)),some _,some _,some _,some _,some _,o]) QbX ⟨_,rfl⟩ (λj U ⟨_,e⟩=>by subst e;exact iq rfl) ?turn ?fin
 case turn=>
  rintro w j k d U c ⟨o,rfl⟩;have n:=c;unfold mF at c;rw[j2]at c;obtain⟨q,l,e⟩:=nr.1 c;cases e;have f:=kA l;have hv:=Vw (by rw[Eg];exact p) n;have hn:q.1∉(d8 Qmk).map _:=λhm=>by
   rw[Rw,xm]at hm;obtain⟨i,hi,e⟩:=y3 hm;rw[o4]at hi;rw[List.getElem_take]at e;have a:i<(kvs.map (·.1)).length:=by lia
   have:=(List.getElem?_inj a p).1 (show(kvs.map _)[i]? = (kvs.map _)[j]? by
    rw[kf a,e,j2,l];rfl)
   lia
  refine U4 q.1 E.u (cS E.cJ (DR q.1 E.u Qal Qvd hv) (r q f) QA aU) (fY E.iK E.rE Qcb rfl rfl XT) Qvd rfl (by rfl) hn (by unfold d8;rw[cK,o4];lia) (aq ⟨some (tX q.1),?_⟩);have e:T.lV [.fld "rows"] (.dct (d8 Qmk++[(q.1,.lst Qog)])) (.pin y (.ins "Table" Qqu))=.pin y (.ins "Table" (N8 bs hs bg pr (.dct (d8 Qve)))):=by
   have t:d8 Qmk++[(q.1,T.lst Qog)]=d8 Qve:=by
    unfold d8;rw[rk,l,i5];rfl
   rw[t];exact XU
  show [some (T.lV [.fld _] _ _),_,_,_,_,_,_]=_;rw[e]
 case fin=>
  rintro U ⟨o,rfl⟩;rw[show(mF kvs).length=kvs.length by unfold mF;rw[cK],md];exact aq rfl
noncomputable def qc:FG sF ["self","boxes","signs","begin","flats","rows"] ["list","tuple"] (ao sC):=fG
abbrev oS:=top 63
abbrev u9:=CH×Nat
noncomputable abbrev oU:At:=["chart","most","parts"]
def ly:u9->BA:=λ(c,mo)=>[c.d,.int mo]
def lz:u9->Prop:=λ(c,mo)=>(c.Ok/\0<mo/\mo<=20)/\A1 c mo (iH c)≠none
def jb:u9->T:=λ(c,mo)=>(.ins "Table" (Od QdP ((iH c).map .str) (F7 c) (((A1 c mo (iH c)).getD Qfb).fl.map lZ) QvH):T)
structure B7(X:Cx)(CL:BM):Prop extends EL X oU ["grown","Table"],fF X.K X.mg CL where
 agK:Fc X CL "grown" 68 2 vZ v5 v7
 agL:Fm X CL "Table" 1 6 uX uY uZ
 acP:o8 X CL "grown" 68 2 oO oQ oR
theorem O2(E:B7 X CL) :
  j6 X CL b oS oU ly lz jb:=by
 rintro⟨c,mo⟩ h;dsimp [jb]at h ⊢;obtain⟨⟨a,m0,m1⟩,i⟩:=h;obtain⟨s,e⟩:∃s,A1 c mo _=some s:=Option.ne_none_iff_exists'.1 i;have hs:=Pd a m0 e;apply aF E.g Qak (jc (d:=.tup _) (cF (c,mo) E.agK QA Qv0 ⟨⟨a,m0,m1⟩,i⟩) (by
  show T.cu (.tup _)=_;rw[e];rw[T.cu,T.cD,T.cD,T.cD,T.cD,bF,T.cu,T.cu,T.cu,A0]))
 have k:=hs.ln;have j:(iu s.rs).length<=5000:=by
  have hl:=LN a;have e2:=congrArg List.length hs.ks;rw[cK]at e2;have f:=kH (f:=λm=>(iH c).map (CZ m)) QsF λm _=>by rw[cK];exact hl
  unfold Oe at e2;rw[List.take_zero,List.map_nil,js]at e2;rw[nh]at f;unfold iu;rw[cK];lia
 exact aX (aH (ME (c.bs.map j7,(iH c).map .str,F7 c,s.fl.map lZ,iu s.rs) E.agL QN (aj (tT E.bU E.wI QaK NX) (aj (bK QaD ai lW) (aj QnH (aj (bK QaD ai AG) (aj (bK QaD ai NF) aL))))) ⟨dZ Qcm _,ig _,dZ (V1) _,acM hs,by rw[IU];exact hs.kd,j⟩) (by rw[e];rfl)) rfl
abbrev qd:Type:=CH×Nat
def gJ:qd->BA:=λ(c,mo)=>[c.d,.int mo]
def gK:qd->Prop:=λ(c,mo)=>(c.Ok/\0<mo/\mo<=20)/\A1 c mo (iH c)=none
noncomputable def gM:qd->Str:=λ(c,mo)=>"TooWide"
def LX(E:B7 Qbx CL)(c mo)(h:gK (c,mo))(a:eL b W (CL (gM (c,mo)))) :
  cQ Qbx CL b (bN oS) (entry oU (gJ (c,mo))) {nx:=λ_=>False,rt:=λ_ _=>False}:=by
 dsimp only [gK,gJ,gM]at h a ⊢;exact aF E.g Qak (U8 (t:=.sh .non) (U2:=[some T.bad,none,none]) (c,mo) U6 a E.acP QA (gD (v_ (E.ll 0).1).m (gD (v_ (E.ll 1).1).m CT)) h) Qpg
noncomputable def iP:FG oU ["chart","most"] ["grown","Table"] (ao oS):=fG
abbrev yk:=top 84
abbrev ym:=CH×Nat
noncomputable abbrev yo:At:=["chart","most","wide"]
def mY:ym->BA:=λ(c,mo)=>[c.d,.int mo]
def mZ:ym->Prop:=λ(c,mo)=>(c.Ok/\0<mo/\mo<=20)/\A1 c mo (iH c)=none
noncomputable def m5:ym->T:=λ(c,mo)=>(.sh QbA:T)
structure Sx(X:Cx)(CL:BM):Prop extends EL X yo ["flattened","TooWide"],fF X.K X.mg CL where
 B8:Fc X CL "flattened" 69 2 ly lz jb
 sG:o8 X CL "flattened" 69 2 gJ gK gM
 st:X.stack=X.env::X.outer
 fm:X.env.frame=some X.env.locals
 nx:X.xe=λ_ _=>False
 jx:exmOne X.K QgU QgU=some true
def Sy(E:Sx X CL) :
  j6 X CL b yk yo mY mZ m5:=by
 rintro⟨c,mo⟩ h;dsimp only [mZ,mY,m5]at h ⊢;refine aF E.g Qak mC ?_;refine SE (c:="TooWide") (δ1:=[some QbB,some Qci,some (.sh (.bl false))]) E.st E.fm E.nx (λp=>akv (SF (X:=X.pinned p) (c,mo) E.nx E.sG.pin QA (ah (ak (v_ (E.ll 0).1.pin)) (ah (ak (v_ (E.ll 1).1.pin)) av)) h)) (.hit QN E.rG E.jx Wm) λev=>?_;refine Su E.g.nd (E.ll 2).hand mC (aq ?_);exact aX QaD rfl
noncomputable def B9:FG yo ["chart","most"] ["flattened","TooWide"] (ao yk):=fG
noncomputable def u5(n:Nat):At:=("all":Str)::List.replicate n ("leaf":Str)
noncomputable def vb(n:Nat):AT:=-1::List.replicate n 0
noncomputable def x4(n:Nat):AT:=List.replicate Q4 (-1)
def wd(k:Nat):bM:=⟨(k:Int)+1,"go",[zq (.num "<" (-1) 0 (-1) ((k:Int) % 3))],[],-1,"new"⟩
def Yn(n:Nat):List bM:=(List.range n).map wd
theorem Kj(k:Nat)(h:k<=61):(k:Int).natAbs.log2<1920/\(toString (k:Int):Str).length<=50:=by
 have h2:((List.range 62).all λk=>decide ((k:Int).natAbs.log2<1920)&&decide ((toString (k:Int):Str).length<=50))=true:=by decide +kernel
 have:=me.1 h2 k Qhi;simp_all
def LY(n:Nat):D.bf ((Yn n).map dN)=true:=by
 unfold Yn;rw[i0];exact dZ Qcm _
def gi(n:Nat):D.bf (List.replicate n (D.tup []))=true:=by
 refine fU λd hd=>?_;rw[LI hd];rfl
abbrev Sz:=top 82
abbrev SD:=Nat
noncomputable abbrev SG:At:=["many","tree","names","ways"]
def Fl:SD->BA:=λm=>[.int m]
def Fo:SD->Prop:=λm=>m<=60
def Fp:SD->T:=λm=>(.ins "Chart" (lX [] ((tD Qd8).map .str) (.ins "Tree" (zf (u5 m) (vb m) (x4 m))) QvJ QvJ ((Yn m).map dN)):T)
structure alC(X:Cx)(CL:BM):Prop extends EL X SG ["Tree","range","Chart"],fF X.K X.mg CL where
 EF:Fm X CL "Tree" 1 4 kX kY kZ
 zN:Fm X CL "Chart" 1 7 jR jS jT
theorem alD(E:alC X CL) :
  j6 X CL b Sz SG Fl Fo Fp:=by
 intro m h;obtain⟨n,hn⟩:∃n:Nat,n=m:=⟨m,rfl⟩;subst hn;have h:n<=60:=h;have sz:∀{m:Nat},m<=61->1*m<=sizeLine:=λ{m} q=>by rw[ko];lia
 have a:∀(d:D) (m:Nat),(List.replicate m [d]).flatten=List.replicate m d:=λd m=>List.flatten_replicate_singleton;have n1:((n:Int)+1).toNat=n+1:=by lia
 refine aF E.g Qfq (aH (mk_ (u5 n,vb n,x4 n) E.EF QA
  (ah (mE (aW (qO (aW (ds:=[.str "all"]) Qni) (aW (vG (ds:=[.str "leaf"]) (aW Qni) QD rfl We We (sz We))) rfl (by rw[a];exact fU λd hd=>by rw[LI hd];rfl) (by rw[a,pz,ko];show 1+_<=_;lia))) (by rw[a,k4];unfold u5;rw[kn,w1];rfl))
  (ah (mE (aW (qO (ds:=[.int (-1)]) Qse (aW (vG (ds:=[.int 0]) (aW (b8 (aG jG bu) aD)) QD rfl We We (sz We))) rfl (by rw[a];exact fU λd hd=>by rw[LI hd];rfl) (by rw[a,pz,ko];show 1+_<=_;lia))) (by rw[a,k4];unfold vb;rw[kn,w1];rfl))
  (ah (mE (aW (vG (ds:=[.int (-1)]) Qse Qqh rfl We We (sz We))) (by rw[a,n1];unfold x4;rw[w1])) av))) trivial Qkl) rfl) ?_
 refine oY (p:=λ_=>true) (gg:=λd=>T.sh Qh1) E.g Qak Qe9 (dY E.fE Qqh We QN) Qay (λC s0 o f0 l d hd=>?AO) (lx (cj (by simp[ck];lia))) ?rest Qaz Qch
 case AO=>
  obtain⟨i,hi,rfl⟩:=ip.1 hd;have s:i<n+1:=by
   have:=ma.1 hi;lia
  obtain⟨q1,r⟩:=Kj i We;have c:(0+i)=(i:Int):=mx _;have j:(D.int (0+i)).tS.toNat=i:=by show(0+(i:Int)).toNat=i;lia
  refine⟨rfl,λ_=>aH (nA dg (ak (mL E.oG y9 (jA 0) ((c▸q1)))) ((by rw[c,ko];show 1+(toString _:Str).length<=_;lia))) ?_⟩;show T.sh _=T.sh _;rfl
 case rest=>
 have em:((ck 0 ((n:Int)+1).toNat).filter λ_=>true).map Qmc=((tD Q4).map D.str).map T.sh:=by
  rw[fM,n1];unfold ck tD;rw[i0,i0,i0];refine mB λk _=>?_;show T.sh Qlt=_;rw[show(0+(k:Int)).toNat=k by lia];rfl
 rw[em];refine oY (p:=λ_=>true) (gg:=λd=>T.sh QtY) E.g Qax Qe9 (dY E.fE QD We QN) Qay (λC s0 o f0 l d hd=>?acm) (lx (cj (by simp[ck];lia))) ?acn Qaz Qch
 case acm=>
  obtain⟨i,hi,rfl⟩:=ip.1 hd;have c:(0+i)=(i:Int):=mx _;have j:(D.int (0+i)).tS.toNat=i:=by show(0+(i:Int)).toNat=i;lia
  refine⟨rfl,λ_=>aH (bG (aj (cy (jA 0) ai) (aj cg (aj (bG (aj (bG (aj cg (aj (bG (aj QbZ (aj jG aL)) aD) (aj (bG (aj QbZ (aj (bZ (jA 0) ai Wm) aL)) aD) aL))) aD) aL) aD) (aj Qpe (aj QbZ (aj cg aL)))))) aD) ?_⟩;show T.sh _=T.sh _;rfl
 case acn=>
 have f:((ck 0 (n:Int).toNat).filter λ_=>true).map (λd=>T.sh QtY)=((Yn n).map dN).map T.sh:=by
  rw[fM];unfold ck Yn;rw[i0,i0,i0];refine mB λk _=>?_;show T.sh (dN (wd (0+(k:Int)).toNat))=_;rw[show(0+(k:Int)).toNat=k by lia];rfl
 rw[f];have e:∀m,m=n+1->D.lst (List.replicate m [D.tup []]).flatten=D.lst _:=λm q=>by rw[a,q]
 exact aX (HI (Xb:=xG _ _ _) (λv=>([],(tD Q4).map .str,v,List.replicate Q4 _,List.replicate _ _,(Yn n).map dN)) E.zN QU
  (qi (aW Qkk) (qi Qjj
   (DM (vM (E.ll 1).1)
    (ah Qpz (ah Qpz QjJ)))))
  (λv=>rfl) (λv=>⟨rfl,ig _,gi _,gi _,LY n⟩) QnP (rj rfl (ig _)) (rA (gi _) (gi _) (LY n))) rfl
noncomputable def V2:FG SG ["many"] ["Tree","range","Chart"] (ao Sz):=fG
noncomputable def ow:Nat->At
 | 0=>["all"]
 | k+1=>ow k++(["one","leaf","leaf"]:At)
noncomputable def rg:Nat->AT
 | 0=>[-1]
 | k+1=>rg k++([0,(3*k+1:Nat),(3*k+1:Nat)]:AT)
noncomputable def q3:Nat->AT
 | 0=>[-1]
 | k+1=>q3 k++[((3*k+1:Nat):Int)+1,-1,-1]
def LU(k:Nat)(a c:Int):bM:=⟨((3*k+1:Nat):Int)+a,("s":Str)++sI (k:Int),[],[],((3*k+1:Nat):Int)+c,"new"⟩
def og:Nat->List bM
 | 0=>[]
 | k+1=>og k++[LU k 1 2]++[LU k 2 1]
def sP:CH:=⟨[],(tD 37).map .str,ow 12,rg 12,q3 12,List.replicate 37 [],List.replicate 37 [],og 12⟩
theorem LZ:∀k,((ow k).map D.str).length=3*k+1
 | 0=>rfl
 | k+1=>by
  rw[ow,i5,ke,LZ k];rfl
abbrev SJ:=top 83
abbrev SK:=Nat
noncomputable abbrev SM:At:=["many","kinds","elders","starts","ways","k","one","names","rows"]
noncomputable def Ft:SK->BA:=λn=>[.int n]
def Fv:SK->Prop:=λn=>n=12
def Fw:SK->T:=λn=>(.ins "Chart" (lX [] ((tD 37).map .str) (.ins "Tree" (zf (ow 12) (rg 12) (q3 12))) QvM QvM ((og 12).map dN)):T)
structure alF(X:Cx)(CL:BM):Prop extends EL X SM ["range","len","str","Chart","Tree","list"],fF X.K X.mg CL where
 zN:Fm X CL "Chart" 1 7 jR jS jT
 EF:Fm X CL "Tree" 1 4 kX kY kZ
theorem alG(E:alF X CL) :
  j6 X CL b SJ SM Ft Fv Fw:=by
 intro n h;subst h;refine aF E.g Qfq Qni ?_;refine aF E.g Qak Qiw ?_;refine aF E.g Qax Qiw ?_;refine aF E.g Qar Qkk ?_;refine fS E.g Qaq (λj U=>∃m l,U=[some (.sh (.int ((12:Nat):Int))),some (.lst (((ow j).map .str).map T.sh)),some (.lst (((rg j).map .int).map T.sh)),some (.lst (((q3 j).map .int).map T.sh)),some (.lst (((og j).map dN).map T.sh)),m,l,none,none])
  (dY E.fE QD Wm QA) ⟨none,none,rfl⟩ (λj U ⟨_,_,e⟩=>by subst e;exact iq rfl) ?turn ?fin
 case turn=>
  rintro j d U t ⟨m,l,rfl⟩;obtain⟨rfl,r⟩:=jI t;rw[mx];obtain⟨q1,s⟩:=Kj j We;have kl:=LZ j;have ll:∀{α:Type} (f:Nat->List α) (a c:Nat),(f 0).length<=a->(∀k,(f QaM).length<=(f k).length+c)->(f j).length<=a+12*c:=λf a c h0 h1=>by
   have:∀k,(f k).length<=a+k*c:=λk=>by
    induction k with
    | zero=>lia
    | succ k y=>have:=h1 k;rw[Nat.succ_mul];lia
   have h2:=this j;have z:=y4 c (lx r);lia
  have A:=ll rg 1 3 (ik _) λk=>by rw[rg,ke];exact ik _
  have sl:=ll q3 1 3 (ik _) λk=>by rw[q3,ke];exact ik _
  have wl:=ll og 0 2 (ik _) λk=>by rw[og,ke,ke];exact ik _
  refine aF E.g QaF QvP ?_;refine nJ (E.ll 1).1 rfl (Gk QlC rfl) rfl (by rw[cK,kl];show _+3<=_;lia) ?_;refine nJ (E.ll 2).1 rfl (Gk (aW (e7 (aj jG (aj Qc4 (aj Qc4 aL))) aD)) rfl) rfl (by rw[cK,cK];show _+3<=_;lia) ?_;refine nJ (E.ll 3).1 rfl (Gk (aW (e7 (aj QiJ (aj QbZ (aj QbZ aL))) aD)) rfl) rfl (by rw[cK,cK];show _+3<=_;lia) ?_;refine DT Qgf rfl rfl (bG (ds:=[.int _,.str _,.tup [],.tup [],.int _,.str "new"]) (aj QiJ (aj (nA dg Qra ((by rw[ko];show 1+(toString (j:Int):Str).length<=_;lia))) Qpw)) aD) rfl rfl WE ?_;refine DT Qgf rfl rfl (bG (ds:=[.int _,.str _,.tup [],.tup [],.int _,.str "new"]) (aj QiJ (aj (nA dg Qra ((by rw[ko];show 1+(toString (j:Int):Str).length<=_;lia))) Qpw)) aD) rfl rfl WE ?_;refine aq ⟨some (.sh (.int (j:Nat))),some (.sh (.int (3*j+1:Nat))),?_⟩;rw[ow,rg,q3,og,i5,i5,i5,i5,i5,i5,i5,i5,i5,i5];rfl
 case fin=>
  rintro U ⟨m,l,rfl⟩;show cQ X CL b _ [_,some _,some _,some _,some _,_,_,_,_] _;have kl:=LZ 12;refine oY (p:=λ_=>true) (gg:=λd=>T.sh Qh1) E.g Qbb Qe9 (dY E.fE (ak QvP) Wm QA) Qay (λC s0 x f0 w d hd=>?AO) aD ?rest (by exact iq rfl) Qch
  case AO=>
   obtain⟨i,hi,rfl⟩:=ip.1 hd;have B:i<37:=ma.1 hi;obtain⟨q1,s⟩:=Kj i We;have o:Qcs=(i:Int):=mx _;have u:(D.int Qcs).tS.toNat=i:=by show(0+(i:Int)).toNat=i;lia
   refine⟨rfl,λ_=>aH (nA dg (ak (mL E.oG y9 (jA 0) ((by rw[o];exact q1)))) ((by rw[o,ko];show 1+(toString (i:Int):Str).length<=_;lia))) ?_⟩;show T.sh _=T.sh _;rw[u];unfold nz;rw[o];rfl
  case rest=>
  have em:((ck 0 ((37:Nat):Int).toNat).filter λ_=>true).map Qmc=((tD 37).map D.str).map T.sh:=by
   rw[fM];unfold ck tD;rw[i0,i0,i0,k4];refine mB λk _=>?_;show T.sh Qlt=_;rw[show(0+(k:Int)).toNat=k by lia];rfl
  rw[em];refine oY E.g Qdc Qe9 (dX (Hm (ds:=(ow 12).map .str) (E.ll 1).1 rfl)) Qay (λC s0 x f0 w d hd=>⟨rfl,λ_=>bG (ds:=[]) aL aD⟩) aD ?_ (by exact iq rfl) Qch;rw[show(((ow 12).map D.str).filter λ_=>true).map _=(List.replicate 37 (D.tup [])).map T.sh from rfl];have q:D.bf ((og 12).map dN)=true:=by decide +kernel
  exact aX (HI (f:="tree") (Xb:=xG _ _ _) (λv=>([],(tD 37).map .str,v,List.replicate 37 QjA,List.replicate 37 QjA,(og 12).map dN)) E.zN Q1
   (qi (aW (ds:=[]) Qkk) (qi Qjk (DM (aH (mk_ (ow 12,rg 12,q3 12) E.EF Qbd (ah QH (ah Qjj QjJ)) trivial Qkl) rfl)
    (ah (aW (cS E.cJ QnZ (gi _) Qb4 aU)) (ah QnZ Qoa)))))
   (λv=>rfl) (λv=>⟨rfl,ig _,gi _,gi _,q⟩) QnP (rj rfl (ig _)) (rA (gi _) (gi _) q)) rfl
noncomputable def V3:FG SM ["many"] ["range","len","str","Chart","Tree","list"] (ao SJ):=fG
abbrev Fx:=top 79
abbrev Fy:=CH×Pl×(Da×AT)
noncomputable abbrev Fz:At:=["chart","flat","branch","some","move"]
def yp:Fy->BA:=λ(c,p,br)=>[c.d,lZ p,oD br]
def yq:Fy->Prop:=λ(c,p,br)=>(c.Ok/\Gd c p)/\br.2.Nodup/\∀k∈br.2,0<=k/\k<(c.ws.length:Int)
def yr:Fy->T:=λ(c,p,br)=>(.sh (.tup [.tup Qc5,lZ Qc6]):T)
structure acR(X:Cx)(CL:BM):Prop extends EL X Fz ["kept","list","moved","tuple"],fF X.K X.mg CL where
 uV:Fc X CL "kept" 5 2 uT qD uU
 LK:Fc X CL "moved" 66 4 qC ng kT
theorem acS(E:acR X CL) :
  j6 X CL b Fx Fz yp yq yr:=by
 rintro⟨c,p,br⟩ h;obtain⟨⟨a,e⟩,pn,pk⟩:=h;have f:=C3 a pn pk;have n1:=a.k.n1;have wl:=a.k.wl;have wo:=a.k.wo;have pl:br.2.length<=63:=by
  have:=iJ pn pk;lia
 have i:D.bf (ML c p _)=true:=fU λd hd=>C4 (Ku a f d hd);have em:kT (c.bs.map j7,c.nm,c.ks,c.es,c.ss,c.is,c.os,c.ws,p.1,p.2,qG c br.2)=T.tup [.lst ((ML c p _).map _),.lst (((toN c p _).1.map _).map _),.lst (((toN c p _).2.map _).map _)]:=rfl;refine aF E.g Qax (aH (c_ (c.bs.map j7,c.nm,c.ks,c.es,c.ss,c.is.map _,c.os.map _,c.ws,br.2) E.uV QA (ah QD (ah (aW (ki E.cJ QnH QN aU)) av)) (⟨a.k.pre.1,We,a.k.kl,pl,pk,λw hw=>⟨(wo w hw).1,by have:=(wo w hw).2.1;lia⟩⟩) (aO _)) rfl) ?_;refine aF E.g Qar (jc (d:=.tup [.lst Qc5,.lst ((toN c p QaW).1.map .int),.lst ((toN c p QaW).2.map .int)]) (aH (c_ _ E.LK QU (ah QD (ah (aW (ki E.cJ (bK Qbn ai lW) QN aU)) (ah (aW (ki E.cJ (bK Qbn ai pe) QN aU)) QjJ))) (⟨a.k,⟨e.s,e.b⟩,e.m,f⟩) ?cl) em) ?fr) ?_
 case cl=>
  rw[em];rw[T.clean,T.dW,T.dW,T.dW,bW i,aO,aO];rfl
 case fr=>rw[T.cu,T.cD,T.cD,T.cD,T.cD,bF,bF,bF]
 exact aX (bG (aj (eG E.fc (ak (bK QdO ai lW)) i Q1) (aj (bG (aj (eG E.fc (ak (bK QdO ai pe)) (bE _) Q1) (aj (eG E.fc (ak (bK QdO ai AG)) (bE _) Q1) aL)) aD) aL)) aD) rfl
noncomputable def IV:FG Fz ["chart","flat","branch"] ["kept","list","moved","tuple"] (ao Fx):=fG
def O4(c:CH)(p:Pl)(l:CS)(x:Qbu):Db×List lY:=l.foldl (VA c p) x
theorem V4(c:CH)(p:Pl):∀(l:CS) (x:Qbu),x.1.length<=(O4 c p l x).1.length
 | [],x=>ik _
 | br::l,x=>ky (by show _<=(t8 x.1 _).length;unfold t8;split<;>simp) (V4 c p l _)
theorem O5(c:CH)(mo:Nat)(p:Pl):∀(l:CS) (x:Qbu),x.1.length<=mo->(Iu c mo p l x=some (O4 c p l x)/\(O4 c p l x).1.length<=mo)\/(Iu c mo p l x=none/\mo<(O4 c p l x).1.length)
 | [],x,h=>.inl ⟨rfl,h⟩
 | br::l,x,h=>by
  rw[Iu];by_cases hw:rf c mo p x br
  .rw[cq hw];refine .inr ⟨rfl,mm ?_ (V4 c p l _)⟩;show mo<(t8 x.1 _).length;unfold t8;rw[bX hw.1,ke,hw.2];simp
  .rw[bX hw];apply O5 c mo p l _;show(t8 x.1 _).length<=mo;unfold t8;split
   .exact h
   .rename_i hn;have:x.1.length≠mo:=λz=>hw ⟨hn,z⟩;simp;lia
theorem acT(fl:Db)(p:Pl):∀i,i<Za fl p->(t8 fl p)[i]? ≠ some p:=λi hi e=>by
 unfold Za at hi;unfold t8 at e;split at hi
 .rename_i hm;rw[cq hm]at e;obtain⟨hl,e⟩:=lr.1 e;have:=List.not_of_lt_findIdx hi;simp_all
 .rename_i hm;rw[bX hm,wz hi]at e;exact hm (kA e)
def acU{p:Pl}{l:CS}(h:l[j]? = some br)(x:Qbu):O4 c p (l.take QF) x=VA c p (O4 c p (l.take j) x) br:=by
 unfold O4;rw[qq h,List.foldl_append];rfl
theorem SN{c:CH}{p:Pl}:∀(l:CS) (x:Qbu),x.1.Nodup->(O4 c p l x).1.Nodup/\(O4 c p l x).1.length<=x.1.length+l.length/\(O4 c p l x).2.length=x.2.length+l.length/\x.1 <+: (O4 c p l x).1
 | [],x,h=>⟨h,ik _,rfl,List.prefix_rfl⟩
 | br::l,x,h=>by
  obtain⟨b1,_,_,b,_⟩:=Vz h _;obtain⟨k1,k2,k3,a⟩:=SN l QjH b1;have e1:(VA c p x br).1.length<=x.1.length+1:=b;have e2:(VA c p x br).2.length=x.2.length+1:=ke;refine⟨k1,?_,?_,List.IsPrefix.trans (by show x.1 <+: t8 x.1 _;unfold t8;split;exact List.prefix_rfl;simp) a⟩
  .show(O4 c p l _).1.length<=_;simp;lia
  .show(O4 c p l _).2.length=_;rw[k3,mi];lia
def Pc(l:Db):∀d∈l.map lZ,qU 8 d/\∃ds,d=.tup ds:=λd hd=>by
 obtain⟨p,_,rfl⟩:=ip.1 hd;exact⟨vK p,_,rfl⟩
theorem OE{U:BB}{k:Nat}{pos p1 p2:Pos}(f:c.Ok)(F:Fc X CL "signs" k 1 m9 iL kK)(e:Gl X "signs")(n:Vn X i "chart")(h:U[i]? = some (some QbB):=by rfl):bY X CL b (.Call (.Name "signs" p1) [.Name "chart" p2] [] pos) U (.lst (((iH c).map .str).map T.sh)) U:=by
 have wl:=f.k.wl;have a:(c.ws.map ue).map z6=c.ws.map dN:=by rw[i0];rfl
 have g:zP ((c.ws.map ue).map (·.2.1))=iH c:=by simp;rfl
 exact aH (c_ (c.bs.map j7,c.nm,dG _ _ _,c.is.map _,c.os.map _,c.ws.map ue) F e (ah (mE (ak (v_ n h)) (by unfold CH.d;rw[a])) av) (by dsimp [iL];simp;lia) (qW _)) (by show T.lst _=_;rw[g])
def r8(c:CH)(mo:Nat):T:=match A1 c mo (iH c) with
 | some s=>.tup [.lst ((s.fl.map lZ).map T.sh),.dct QmL]
 | none=>.sh .non
abbrev L0:=top 80
abbrev L5:=CH×Nat
abbrev L6:At:=["chart","start","most","flats","rows","many","at","sign","made","branch","step"]
def Bt:L5->BA:=λ(c,mo)=>[c.d,.tup [.lst (F7 c),.lst ((yy c).1.map .int),.lst ((yy c).2.map .int)],.int mo]
def Bu:L5->Prop:=λ(c,mo)=>(c.Ok/\0<mo/\mo<=20)/\∀p sg,(F5 c p sg).length<=300
def Bv:L5->T:=λ(c,mo)=>(r8 c mo:T)
structure agM(X:Cx)(CL:BM):Prop extends EL X L6 ["tuple","len","signs","branches","list","_law_behind"],fF X.K X.mg CL where
 zY:Fc X CL "signs" 1 1 m9 iL kK
 yj:Fc X CL "branches" 3 4 jW gA jX
 acW:Fc X CL "_law_behind" 67 3 yp yq yr
 B6:o8 X CL "branches" 3 4 iC f7 iD
theorem agN(E:agM X CL) :
  j6 X CL b L0 L6 Bt Bu Bv:=by
 rintro⟨c,mo⟩ h;obtain⟨⟨m,m0,m1⟩,L⟩:=h;have n1:=m.k.n1;have wl:=m.k.wl;have P:=m.q (c.bs.map (·.2)) (cK ..);refine aF E.g Qax (e7 (ds:=[lZ (yy c)]) (aj (bG (aj (eG E.fc (ak (bK Qbn ai pe)) (bE _) QA) (aj (eG E.fc (ak (bK Qbn ai AG)) (bE _) QA) aL)) aD) aL) aD) ?_;refine aF E.g Qar DQ ?_;refine aF E.g Qaq jG ?_;refine aF E.g QaF jG ?_;refine CK E.g (λk U=>∃(n:Nat) (s:GS) (v r a l:Qej),xP c mo (iH c) n 0 s/\n<=s.fl.length/\A1 c mo (iH c)=nN c mo (iH c) (mo-n) n s/\k=mo-n/\U=[some QbB,some Qd6,some Qci,some Qro,some Qpk,some (.sh (.int ((8*mo-s.sp:Nat):Int))),some Qbj,v,r,a,l]) _
  ⟨0,nI c mo,none,none,none,none,Sw m m0,i8 _,rfl,rfl,by show _=[_,_,_,some (T.lst [T.sh (lZ (yy c))]),some (T.dct []),some (T.sh (.int ((8*mo-8*mo:Nat):Int))),_,_,_,_,_];rw[Nat.sub_self];rfl⟩ ?_
 rintro k U ⟨n,s,v,r,a,l,hs,hn,he,rfl,rfl⟩;have Z:=hs.ln;refine⟨_,_,(UG Qam (ak (cU (cK ..) E.d9 Qa8 QN))).1,λhp=>?_,λhp=>?_⟩
 .obtain⟨f,hf⟩:∃f,mo-n=f+1:=⟨mo-n-1,We⟩;rw[hf,nN,cq We]at he;refine fS E.g Qbb (λj U=>∃(s2:GS) (v r a l:Qej),Ej c mo n ((iH c).take j) s=some s2/\xP c mo (iH c) n j s2/\n<s2.fl.length/\U=[some QbB,some Qd6,some Qci,some (.lst ((s2.fl.map lZ).map T.sh)),some Qmd,some QqJ,some Qbj,v,r,a,l]) (dX (gX (OE m E.zY QU (E.ll 0).1))) ⟨s,v,r,a,l,rfl,hs,We,rfl⟩ (λj U ⟨_,_,_,_,_,_,_,_,e⟩=>by subst e;exact iq rfl) ?turn ?fin
  case turn=>
   rintro j d U R ⟨s2,v,r,a,l,e2,k2,A,rfl⟩;rw[j2]at R;obtain⟨sg,C,rfl⟩:=nr.1 R;have O:=k2.pre m m1 A C;have kl:=k2.ln;have W:=k2.sp;obtain⟨p,w⟩:∃p,p=s2.fl.getD n ([],[]):=⟨_,rfl⟩;have N:s2.fl[n]? = some p:=by rw[w,kq,kf A];rfl
   have I:Gd c p:=k2.gd p (kA N);have g3:=OH I;have h3:=L p sg;refine aF E.g Qdc Qa1 ?_;have CP:xq (s2.fl.map lZ) (n:Int)=some (lZ p):=c9 (by rw[j2,N];rfl);refine fS E.g QkA (λi U=>∃(a l:Qej),U=[some QbB,some Qd6,some Qci,some (.lst (((O4 c p ((F5 c p sg).take i) (s2.fl,[])).1.map lZ).map T.sh)),some Qmd,some _,some Qbj,some QdM,some (.lst (((O4 c p ((F5 c p sg).take i) (s2.fl,[])).2.map Rx).map T.sh)),a,l])
    (dX (gX (aH (c_ (c.bs.map j7,c.nm,c.ks,c.es,c.ss,c.is.map .tup,c.os.map .tup,c.ws,p.1,sg,300) E.yj Q1 (ah QD (ah (aW (ki E.cJ (fq (bI (bQ Qa8 Qam CP) ai lW) (by show D.bf _=true;exact bE _)) Qbd aU)) (ah QbK Qpd))) (by dsimp only [gA];exact⟨⟨m.k.pre.1,We,m.k.kl⟩,⟨We,P.ok,P.g⟩,⟨We,I.b⟩,h3,Wm⟩) QrG) (t2:=.lst (((F5 c p sg).map oD).map T.sh)) rfl))) ⟨a,l,rfl⟩ (λj U ⟨_,_,e⟩=>by subst e;exact Nat.le_of_ble_eq_true rfl) ?Oh ?fin2
   case Oh=>
    rintro i d U hi ⟨a,l,rfl⟩;rw[j2]at hi;obtain⟨br,B,rfl⟩:=nr.1 hi;obtain⟨pn,pk⟩:=Ei sg br (kA B);obtain⟨u1,u2,o,G⟩:=SN (c:=c) (p:=p) ((F5 c p sg).take i) (s2.fl,[]) k2.nd;rw[acU B];rw[o4]at u2 o;generalize O4 c p ((F5 c p sg).take i) (s2.fl,[])=x at u1 u2 o G ⊢;dsimp only at u2 o G;have M:xq (x.1.map lZ) (n:Int)=some (lZ p):=by
     obtain⟨t,Y⟩:=G;refine c9 ?_;rw[j2,<- Y,wz A,N];rfl
    have S:=C3 m pn pk;have V:D.bf Qc5=true:=fU λd hd=>C4 (Ku m S d hd);have H:((x.2.map Rx).map T.sh).length<=1000000:=by rw[cK,cK];simp only[List.length_nil]at o;lia
    refine aF E.g (E.ll 10) (aH (c_ (c,p,br) E.acW Qb4 (ah QD (ah (bQ Qa8 Qam M) (ah (aA QkA) av))) ⟨⟨m,I⟩,pn,pk⟩ (by
     show(D.tup _).m7=true;rw[D.m7,D.bf,D.bf,D.bf,D.m7,V,V1];rfl)) (t2:=.sh _) rfl) ?_
    have K:VA c p x br=(t8 x.1 Qc6,x.2++[(br.1,ML c p QaW,Za x.1 Qc6)]):=rfl;rw[K];generalize toN c p QaW=q;obtain⟨_,_,_,_,b5⟩:=Vz u1 q;refine tP (λU=>U=[some QbB,some QkN,some Qci,some (.lst (((t8 x.1 q).map lZ).map T.sh)),some Qmd,some QqJ,some Qbj,some QdM,some QrL,some (.sh (oD br)),some QrY]) (abk (q:=decide (q∉x.1)) E.u QsG Qa8 (vK q) (Pc x.1) (by rw[zB,p3])) (λz=>?_) (λz=>aq ?_) ?_
    .refine DT (cO (E.ll 3).1 rfl) rfl rfl (bK QnE ai pe) rfl rfl (by rw[cK,cK];lia) (aq ?_);unfold t8;rw[bX (l1 z),i5,i5];rfl
    .unfold t8;rw[cq (Decidable.not_not.1 (mN z))];rfl
    rintro U rfl;refine DT (cO (E.ll 8).1 rfl) rfl rfl (bG (ds:=[.tup QjN,.tup Qc5,.int (Za x.1 q:Nat)]) (aj (bK (v_ (E.ll 9).1) ai lW) (aj (bK QnE ai lW) (aj (Xy E.u Qa8 QsG (vK q) (Pc _) (by rw[j2,b5];rfl) λi hi e=>?no) aL))) aD) rfl rfl H (aq ⟨some (.sh (oD br)),some QrY,?_⟩)
    case no=>
     rw[j2]at e;obtain⟨q2,h1,h2⟩:=nr.1 e;rw[C2 h2]at h1;exact acT x.1 q i hi h1
    rw[show((x.2++[(br.1,ML c p QaW,Za x.1 q)]).map Rx).map T.sh=(x.2.map Rx).map T.sh++[T.sh (.tup _)] by rw[i5,i5];rfl];rfl
   case fin2=>
    rintro U ⟨a,l,rfl⟩;rw[cK,md];obtain⟨u1,u2,o,_⟩:=SN (c:=c) (p:=p) Qkb (s2.fl,[]) k2.nd;have y:=O5 c mo p Qkb (s2.fl,[]) kl;generalize O4 c p Qkb (s2.fl,[])=x at u1 u2 o y ⊢;dsimp only [List.length_nil]at u2 o;rw[Nat.zero_add]at o;refine aF E.g Qaq (aH (cy Qal (ak (cU (cK ..) E.d9 QnZ QN))) (t2:=.sh (.int (((8*mo-s2.sp)+x.2.length:Nat):Int))) rfl) ?_;refine dR (kh (lE (HL (ak (cU (cK ..) E.d9 Qa8 QN)) QP).1 (λ_=>jv (HL Qal (ak (xB ai QP (.inl ⟨Wm,Wm⟩)))).1))) (λz=>?_) (λz=>aq ?_)
    .have F:F6 c mo s2 n sg=none:=by
      unfold F6;rw[<- w];by_cases hw:s2.sp<(F5 c p sg).length
      .rw[cq hw]
      .rw[bX hw];obtain q|q:=y
       .exfalso;rw[Bool.or_eq_true,p3,p3]at z;have:=q.2;lia
       .rw[q.1];rfl
     have J:A1 c mo (iH c)=none:=by
      have hl:j<(iH c).length:=(lr.1 C).1;have ee:=by
       have h2:=t4 j (iH c);rw[tJ hl,(lr.1 C).2]at h2;exact h2.symm
      have K:Ej c mo n (iH c) s=none:=by
       rw[ee,zC,e2];show Ej c mo n (sg::_) s2=none;rw[Ej,F];rfl
      rw[he,K];rfl
     refine aX Jy ?_;show _=r8 c mo;unfold r8;rw[J]
    .rw[Bool.or_eq_false_iff,decide_eq_false_iff_not,decide_eq_false_iff_not]at z;have hw:¬ s2.sp<(F5 c p sg).length:=by lia
     have F:F6 c mo s2 n sg=some ⟨x.1,s2.rs++[(CZ n sg,x.2)],s2.sp-x.2.length⟩:=by
      unfold F6;rw[<- w,bX hw];obtain q|q:=y
      .rw[q.1];rfl
      .exfalso;have:=q.2;lia
     obtain⟨k3,l3⟩:=Ry m (sA _) k2 C A F;refine afd (CZ n sg) E.u (E.ll 4).1 QnY (aH (nE (aG Qc4 (aG Qc7 bu)) aD) (t2:=tX (CZ n sg)) rfl) rfl (by rw[show(d8 (iu s2.rs)).map (·.1)=s2.rs.map (·.1) by unfold d8 iu;rw[i0,i0];rfl];exact O.key) (by have:=O.rl;unfold d8 iu;rw[cK,cK];lia) (aq ⟨_,some QdM,none,a,l,?_,k3,We,?_⟩)
     .rw[qq C,zC,e2];show Ej c mo n [sg] s2=_;rw[Ej,F];rfl
     .rw[show d8 (iu s2.rs)++[(CZ n sg,T.lst ((x.2.map Rx).map T.sh))]=d8 (iu (s2.rs++[(CZ n sg,x.2)])) by unfold d8 iu;rw[i5,i5];rfl,show 8*mo-s2.sp+x.2.length=8*mo-(s2.sp-x.2.length) by lia];rfl
  case fin=>
   rintro U ⟨s2,v,r,a,l,e2,k2,A,rfl⟩;rw[cK,md]at e2;rw[cK]at k2;refine aF E.g QaF (aH QiJ rfl) (aq ⟨mo-Q4,We,n+1,s2,v,r,a,l,?_,A,?_,rfl,rfl⟩)
   .have ks:=k2.ks;rw[KH]at ks;exact⟨k2.nd,k2.ln,k2.p0,k2.gd,ks,k2.kd,k2.rw,k2.sp⟩
   .rw[he,e2,show mo-Q4=f by lia];rfl
 .have J:A1 c mo (iH c)=some s:=by
   rw[he];cases mo-n with
   | zero=>rfl
   | succ f=>rw[nN,bX We]
  refine aX (nE (aG Qji (aG QeW bu)) aD) ?_;show _=r8 c mo;unfold r8;rw[J]
noncomputable def O6:FG L6 ["chart","start","most"] ["tuple","len","signs","branches","list","_law_behind"] (ao L0):=fG
def Sm:Nat->D->Prop
 | _,.int _=>True
 | _,.str _=>True
 | n+1,.lst ds=>∀d∈ds,Sm n d
 | n+1,.tup ds=>∀d∈ds,Sm n d
 | _,_=>False
def L7{ds:BA}(h:j<ds.length):xq ds (j:Int)=some ds[j]:=c9 (kf h)
abbrev s_same:=top 66
abbrev SQ:=D
noncomputable abbrev SR:At:=["found","due","k"]
def vd:SQ->BA:=λd=>[d,d]
def ve(dd:Nat):SQ->Prop:=λd=>Sm dd d
noncomputable def qF:SQ->T:=λd=>(.sh QbA:T)
structure alI(X:Cx)(CL:BM)(dd:Nat):Prop extends EL X SR ["isinstance","str","int","bool","list","tuple","len","range","_law_same"],fF X.K X.mg CL where
 n5:∀d',d'<dd->Fc X CL "_law_same" (1+d') 2 vd (ve d') qF
theorem alJ{dd:Nat}(E:alI X CL dd) :
  j6 X CL b s_same SR vd (ve dd) qF:=by
 intro d h;dsimp [qF]at h ⊢;cases d with
 | int i=>
  refine dR Qh2 Qce (λ_=>aq ?_);refine dR Qla (λa=>?_) Qce;apply aX (Aq (yB E.bL E.Og QA QU QD) (λl=>(Aq (ajK (UX E.bL E.ak1 QA Q1 QD)) (λk=>(Ao (eY QD QH).2)))));simp
 | str x=>
  refine dR Qh2 (λa=>?_) Qce;apply aX (Aq (wg E.bL E.oG QA QN QD) (λl=>(Ao (iS QD QH).2)));simp
 | lst ds=>
  obtain⟨n,rfl⟩:∃n,dd=n+1:=by
   cases dd with
   | zero=>exact absurd h (by intro z;cases z)
   | succ n=>exact⟨n,rfl⟩
  have hd:=h;refine PU (i:=1) (ds:=ds) rfl (by simp[T.cu]) λhl=>?_;rw[ko]at hl;refine dR Qh2 Qce (λ_=>aq ?_);refine dR Qla Qce (λ_=>aq ?_);refine dR Qpl Qce (λ_=>aq ?_);refine dR (Dv (ak (CG E.d9 QD Qb3)) Qsf).1 (λa=>by simp at a) (λ_=>aq ?_);refine fS E.g Qak (λj U=>∃o,U=[some _,some _,o])
   (dY E.fE Qsf We Qfp) ⟨_,rfl⟩ (λj U ⟨_,e⟩=>by subst e;exact iq rfl) ?turn ?fin
  case turn=>
   rintro j d U f ⟨o,rfl⟩;obtain⟨rfl,c⟩:=jI f;have c:j<ds.length:=by lia
   rw[mx];refine dR (oW (fX (c_ ds[j] (E.n5 n We) QjZ (ah (bQ QD QP (L7 c)) (ah (bQ QH QP (L7 c)) av)) (by exact hd _ (o2 _)) rfl))) (λa=>by cases a) Qtb
  case fin=>
   rintro U ⟨o,rfl⟩;exact aX mC rfl
 | tup ds=>
  obtain⟨n,rfl⟩:∃n,dd=n+1:=by
   cases dd with
   | zero=>exact absurd h (by intro z;cases z)
   | succ n=>exact⟨n,rfl⟩
  have hd:=h;refine PU (i:=1) (ds:=ds) rfl (by simp[T.cu]) λhl=>?_;rw[ko]at hl;refine dR Qh2 Qce (λ_=>aq ?_);refine dR Qla Qce (λ_=>aq ?_);refine dR Qpl Qce (λ_=>aq ?_);refine dR (Dv (ak (yL E.d9 QD Qb3)) Qsg).1 (λa=>by simp at a) (λ_=>aq ?_);refine fS E.g Qak (λj U=>∃o,U=[some _,some _,o])
   (dY E.fE Qsg We Qfp) ⟨_,rfl⟩ (λj U ⟨_,e⟩=>by subst e;exact iq rfl) ?turn ?fin
  case turn=>
   rintro j d U f ⟨o,rfl⟩;obtain⟨rfl,c⟩:=jI f;rw[mx];refine dR (oW (fX (c_ ds[j] (E.n5 n We) QjZ (ah (bI QD QP (L7 c)) (ah (bI QH QP (L7 c)) av)) (by exact hd _ (o2 _)) rfl))) (λa=>by cases a) Qtb
  case fin=>
   rintro U ⟨o,rfl⟩;exact aX mC rfl
 | non=>exact absurd h (by intro z;cases dd<;>cases z)
 | bl _=>exact absurd h (by intro z;cases dd<;>cases z)
 | ins _ _=>exact absurd h (by intro z;cases dd<;>cases z)
 | any=>exact absurd h (by intro z;cases dd<;>cases z)
 | jt _=>exact absurd h (by intro z;cases dd<;>cases z)
 | dct _=>exact absurd h (by intro z;cases dd<;>cases z)
 | j5 _ _ _=>exact absurd h (by intro z;cases dd<;>cases z)
 | val _=>exact absurd h (by intro z;cases dd<;>cases z)
noncomputable def L8:FG SR ["found","due"] ["isinstance","str","int","bool","list","tuple","len","range","_law_same"] (ao s_same):=fG
abbrev SV:=top 81
abbrev SW:=(List (oi×BA))
noncomputable abbrev SX:At:=["found","due","spot"]
def FD:SW->BA:=λkvs=>[.dct Qhq,.dct Qhq]
def FE:SW->Prop:=λkvs=>(kvs.map (·.1)).Nodup/\kvs.length<=5000/\∀q∈kvs,Sm 8 (.lst q.2)
noncomputable def zZ:SW->T:=λkvs=>(.sh QbA:T)
structure alK(X:Cx)(CL:BM):Prop extends EL X SX ["isinstance","dict","len","_law_same"],fF X.K X.mg CL where
 n5:Fc X CL "_law_same" 9 2 vd (ve 8) qF
theorem alL(E:alK X CL) :
  j6 X CL b SV SX FD FE zZ:=by
 intro kvs h;dsimp [zZ]at h ⊢;obtain⟨nd,hl,l⟩:=h;have a:(mF kvs).length<=1000000:=by unfold mF;rw[cK];lia
 refine dR (Ri (q:=false) (kh (lE (oW (fX (aoZ E.bL E.RY QA QN QD))) (λ_=>jv (Dv (ak (NC E.d9 QD a QU)) (ak (NC E.d9 QH a QU))).1))) Wp) (λz=>by cases z) (λ_=>aq ?_);refine Va E.g Qak (λj U=>∃o,U=[some _,some _,o]) Qbn ⟨_,rfl⟩ (λj U ⟨_,e⟩=>by subst e;exact iq rfl) ?turn ?fin
 case turn=>
  rintro m j k d U c ⟨o,rfl⟩;have f:=c;unfold mF at c;rw[j2]at c;obtain⟨q,i,e⟩:=nr.1 c;cases e;have hv:=Vw (by rw[Eg];exact nd) f;refine dR (Ri (q:=false) (kh (lE (aaH q.1 E.u Qm1 QD rfl) (λ_=>jv (oW (fX (c_ (D.lst q.2) E.n5 Q1 (ah (DR q.1 E.u QD Qm1 hv) (ah (DR q.1 E.u QH Qm1 hv) av)) (l q (kA i)) rfl)))))) (by rw[hv];rfl)) (λz=>by cases z) (λ_=>aq (aq ⟨ _,rfl⟩))
 case fin=>
  rintro U ⟨o,rfl⟩;exact aX mC rfl
noncomputable def V5:FG SX ["found","due"] ["isinstance","dict","len","_law_same"] (ao SV):=fG
def O7(n m:Nat)(c:Int):xM:=if c % 3=1 then .Ea (decide (c / 3 % 2=0)) Qva else .num ((["<","<=","=","!="]:At).getD (c / 3 % 4).toNat Str.empty) (c / 12 % ((n:Int)+1)-1) (Om (c / 12 / 4)) (c / 48 % ((n:Int)+1)-1) (Om (c / 48 / 4))
theorem agO(n m:Nat)(c:Int):Oo n m c=zq (O7 n m c):=by
 unfold Oo O7;split
 .have:c / 3 % 2=0\/c / 3 % 2=1:=by lia
  obtain e|e:=this
  .rw[e];rfl
  .rw[e];rfl
 .rfl
theorem acX{vs:AT}(hm:1<=m)(hv:vs.length=n)(c:Int):(O7 n m c).Ok m vs:=by
 unfold O7;split
 .exact⟨lL _ We,l8 _ We⟩
 .have a1:=lL (c / 12) (b:=n+1) We;have a2:=l8 (c / 12) (b:=n+1) We;have b1:=lL (c / 48) (b:=n+1) We;have b2:=l8 (c / 48) (b:=n+1) We;refine⟨?_,We,We⟩;have:c / 3 % 4=0\/c / 3 % 4=1\/c / 3 % 4=2\/c / 3 % 4=3:=by lia
  obtain e|e|e|e:=this<;>rw[e]<;>decide +kernel
theorem acY{s:AT}{vs:AT}(hm:1<=es.length)(hv:vs.length=n):rD es.length vs (zK s es n):=λw hw=>by
 obtain⟨k,_,rfl⟩:=ip.1 hw;refine⟨(List.range (aE s (200+12*k+1) % 3).toNat).map λ(j:Nat)=>O7 n es.length (aE s (200+12*k+1+1+j)),?_,WE,λa b=>?_⟩
 .show IC s _ _ n=_;simp;exact mB λj _=>agO _ _ _
 .obtain⟨j,_,rfl⟩:=ip.1 b;exact acX hm hv _
theorem acZ(s:AT)(n:Nat)(c:Int):Y8 n (zJ s n c):=by
 have h1:=lL Qkw (b:=n+1) We;have h2:=l8 Qkw (b:=n+1) We;have a:pO n (c / 16 % Q4-1):=by
  unfold pO;lia
 unfold zJ;split
 .exact⟨.call _,rfl,trivial⟩
 .split
  .exact⟨.say _ _ _,rfl,a⟩
  .have d:=lL Qdl (b:=n) We;have e:=l8 Qdl (b:=n) We;exact⟨.put _ _ _,rfl,⟨d,We⟩,a⟩
def IW(s:AT)(q:Int)(n:Nat):∀d∈gV s q n,Y8 n d:=λd hd=>by
 obtain⟨k,_,rfl⟩:=ip.1 hd;exact acZ _ _ _
theorem O8{s:AT}(n:Nat)(he:1<=es.length):(zK s es n).length<=8/\∀w∈zK s es n,xp es.length w/\∀d∈w.lG,Y8 n d:=by
 refine⟨by unfold zK;rw[cK,nh];exact IJ _ _,λw hw=>?_⟩;obtain⟨k,f,rfl⟩:=ip.1 hw;have f:=ma.1 f;have a:=II he (show(lK s es.length).getD k 0∈lK s es.length by
  rw[kq,kf f];exact o2 _)
 generalize (lK s es.length).getD k 0=src at a;have g:=EA s (200+12*(k:Int)+4) n;refine⟨⟨a,?_,?_,by show(gV _ _ _).length<=12;lia,jD _ _ _,xW _ _ _ _⟩,IW _ _ _⟩
 .show Qk1=-1\/(0<=Qk1/\Qk1<((es.length:Nat):Int));split
  .exact .inl rfl
  .refine .inr ?_;unfold EC;split
   .have h:0<(iG es QbI).length:=List.length_pos_of_mem (qZ a.1 a.2 rfl);have j:=lL (aE s Qif / 4) (b:=((iG es QbI).length:Nat)) We;have i:=l8 (aE s Qif / 4) (b:=((iG es QbI).length:Nat)) We;rw[kq,kf We];have:=qY (o2 (l:=iG es QbI) (n:=(aE s Qif / 4 % ((iG es QbI).length:Nat)).toNat) We);exact⟨this.1,this.2.1⟩
   .exact⟨lL _ We,l8 _ We⟩
 .show tY (if _ then("new":Str) else VN _);split
  .exact .inl rfl
  .generalize aE s (200+12*(k:Int)+8)=c;unfold VN;have:(c % 3).toNat=0\/(c % 3).toNat=1\/(c % 3).toNat=2:=by lia
   obtain e|e|e:=this<;>rw[e]
   .exact .inl rfl
   .exact .inr Qae
   .exact .inr Qay
def O9(s:AT)(q:Int)(n:Nat):EU:=(List.range n).map λ(k:Nat)=>gV s Qjo (wk s)
def SY(a:AT)(n:Nat):CH:=⟨Gs a,(tD (jQ a n).length).map .str,A2 a Qfv n,jQ a n,VG a Qfv (A2 a Qfv n) 16 n,O9 a 100 n,O9 a 103 n,zK a Qfv (wk a)⟩
theorem agP(a:AT)(n1:1<=n)(r:n<=9):(SY a n).Ok:=by
 obtain⟨c,j⟩:=C5 a n1 We;have h:=ab7 a Qfv;have i:=VF a Qfv;rw[c]at h i;obtain⟨p,f⟩:=O8 (s:=a) (es:=jQ a n) (wk a) We;have m:=ach a;have b:(Gs a).length=wk a:=by unfold Gs wk;rw[cK,nh]
 have rows:∀(q:Int),∀l∈O9 a q n,(l.length<=12/\D.bf l=true)/\∀d∈l,Y8 (Gs a).length d:=λq l hl=>by
  obtain⟨k,_,rfl⟩:=ip.1 hl;have:=EA a Qjo (wk a);exact⟨⟨We,jD _ _ _⟩,by rw[b];exact IW _ _ _⟩
 have il:∀q,(O9 a q n).length=n:=λq=>by unfold O9;rw[cK,nh]
 refine⟨⟨by show 0<(jQ a n).length;lia,by show(jQ a n).length<=61;lia,?_,?_,?_,?_,λk g=>h k (by rw[<- c];exact g),j,λk g e=>?_,λl hl=>(rows 100 l hl).1,λl hl=>(rows 103 l hl).1,λw hw=>(f w hw).1,ky p Wm⟩,λbs o=>acY (by show 1<=(jQ a n).length;lia) (o.trans b),λl hl=>(rows 100 l hl).2,λl hl=>(rows 103 l hl).2,λw hw=>by show ∀d∈w.lG,Y8 (Gs a).length d;rw[b];exact(f w hw).2,?_,by show(Gs a).length<=1000;lia⟩
 .exact(KL ..).trans c.symm
 .exact(VH ..).trans c.symm
 .exact(il _).trans c.symm
 .exact(il _).trans c.symm
 .have:=agi (s:=a) (base:=16) i g (by have:=l1 e;rwa [k4]at this)
  rwa [c]at this
 .show((tD (jQ a n).length).map D.str).length=_;unfold tD;rw[cK,cK,nh];rfl
def sH{ws:BA}{t:T}(h1:D.bf bs=true)(h2:D.bf nm=true)(d:t.clean=true)(c:D.bf is=true)(b:D.bf os=true)(a:D.bf ws=true):T.cX QtS=true:=by
 unfold lX D8 xG;rw[mv,mv,ri,T.cX,T.cX,T.cX,T.cX,T.cX,T.cX,bW h1,bW h2,d,bW c,bW b,bW a];rfl
noncomputable def sJ(n:Nat)(l:AT):Sm Q4 (.tup QbY):=λd hd=>by
 obtain⟨i,_,rfl⟩:=ip.1 hd;cases n<;>trivial
theorem vf{a c:D}(h1:Sm n a)(h2:Sm n c):Sm Q4 (.tup [a,c]):=λd hd=>by
 obtain rfl|hd:=fP.1 hd
 .exact h1
 simp_all
def apx(n:Nat)(p:Pl):Sm (n+2) (lZ p):=vf (sJ n _) (sJ n _)
def Ll(h:wb m d)(n:Nat):Sm (n+2) d:=by
 have two:∀{a b:D},Sm _ a->Sm Q4 b->Sm _ _:=vf;have tm:=λa b=>sJ n [a,b];have e:∀{a b c:D},Sm _ a->Sm _ b->Sm _ c->Sm (n+2) (.tup _):=λh1 h2 f d hd=>by
  obtain rfl|hd:=fP.1 hd
  .exact h1
  .exact two h2 f d hd
 obtain⟨x,rfl,_⟩:=h;cases x with
 | N5 q=>
  cases q with
  | put i a c=>exact e trivial trivial (tm a c)
  | call s=>exact two trivial trivial
  | say s a c=>exact e trivial trivial (tm a c)
 | keep i p q=>
  intro d hd;obtain rfl|hd:=fP.1 hd
  .trivial
  .exact e (a:=.int i) (b:=.int p) (c:=.int q) trivial trivial trivial d hd
 | _=>exact two trivial trivial
def alM{r:lY}(h:zt c r)(n:Nat):Sm (n+4) (Rx r):=λd hd=>by
 obtain rfl|hd:=fP.1 hd
 .intro d hd;obtain⟨q,_,rfl⟩:=ip.1 hd;intro d hd;obtain rfl|hd:=fP.1 hd
  .trivial
  .exact vf (sJ n [_,_]) (sJ n [_,_]) d hd
 .exact vf (n:=n+3) (a:=.tup _) (c:=.int _) (λx b=>Ll (h.i x b) n) trivial d hd
def JE(c:CH):Bool:=decide ((0<c.es.length/\c.es.length<=61/\c.ks.length=c.es.length/\c.ss.length=c.es.length/\c.is.length=c.es.length)/\c.os.length=c.es.length/\c.nm.length=c.es.length/\c.bs.length=0/\c.ws.length<=60) &&
 ((List.range c.es.length).all λk=>decide (-1<=c.es.getD k 0/\c.es.getD k 0<k)&&((k==0 || decide (c.es.getD k 0=((k-1:Nat):Int)\/c.es.getD k 0∈bV c.es ((k-1:Nat):Int)))&&decide ((aV c.ks k=true/\eS c.ks k=false/\bw c.ks k=false/\iG c.es k=[])\/(aV c.ks k=false/\eS c.ks k=true/\bw c.ks k=false/\c.ss.getD k 0∈iG c.es k)\/(aV c.ks k=false/\eS c.ks k=false/\bw c.ks k=true)))) &&
 ((c.is++c.os).all (·.isEmpty)&&c.ws.all λw=>decide ((0<=w.src/\w.src<c.es.length)/\(w.jj=-1\/(0<=w.jj/\w.jj<c.es.length))/\w.mode="new")&&(w.lG.isEmpty&&D.bf w.asks))
theorem V6(h:JE c=true)(m:∀bs:AT,bs.length=c.bs.length->rD c.es.length bs c.ws):c.Ok:=by
 unfold JE at h;rw[lj,lj,lj,p3,me,me,me]at h;obtain⟨⟨⟨⟨n0,n1,kl,sl,il⟩,ol,nl,bl,wl⟩,g⟩,i,hw⟩:=h;have g:∀k:Nat,k<c.es.length->_:=λk hl=>by
  have:=g k (ma.2 hl);rw[lj,lj,p3,Bool.or_eq_true,p3,p3]at this;exact this
 have i:∀l∈c.is++c.os,l=[]:=λl hl=>List.isEmpty_iff.1 (i l hl);have hw:∀w∈c.ws,_:=λw hl=>by
  have:=hw w hl;rw[lj,lj,p3,List.isEmpty_iff]at this;exact this
 have j:∀l∈c.is++c.os,l.length<=12/\D.bf l=true:=λl hl=>by rw[i l hl];exact⟨i8 _,rfl⟩
 have rd:∀l∈c.is++c.os,∀d∈l,Y8 c.bs.length d:=λl hl d hd=>by rw[i l hl]at hd;cases hd
 refine⟨⟨n0,n1,kl,sl,il,ol,λk hl=>?_,⟨λk hl=>(g k hl).1,λk hl=>?_⟩,λk hl e=>?_,λl hl=>j l (i4 _ hl),λl hl=>j l (iF _ hl),λw hl=>?_,wl⟩,m,λl hl=>rd l (i4 _ hl),λl hl=>rd l (iF _ hl),λw hl d hd=>?_,nl,We⟩
 .rcases(g k hl).2.2 with z|z|z
  .exact .inl z
  .exact .inr (.inl ⟨z.1,z.2.1,z.2.2.1⟩)
  .exact .inr (.inr z)
 .rcases(g (k+1) hl).2.1 with z|z
  .cases z
  .exact z
 .rcases(g k hl).2.2 with z|z|z
  .rw[z.2.1]at e;cases e
  .exact z.2.2.2
  .rw[z.2.1]at e;cases e
 .obtain⟨⟨a,b,d⟩,e,f⟩:=hw w hl;exact⟨a,b,.inl d,by rw[e];exact i8 _,by rw[e];rfl,f⟩
 .rw[(hw w hl).2.1]at hd;cases hd
def alO:sP.Ok:=V6 Wl λbs _ w hw=>⟨[],List.isEmpty_iff.1 (me.1 (show(og 12).all (λw=>w.asks.isEmpty)=true by decide +kernel) w hw),Wp,Wp ⟩
def ac1:((List.range 11).all λmo=>mo==0 || (A1 sP mo (iH sP)).isNone)=true:=by decide +kernel
def V7(n:Nat):CH:=⟨[],(tD Q4).map .str,u5 n,vb n,x4 n,List.replicate Q4 [],List.replicate Q4 [],Yn n⟩
def agQ:((List.range 61).all λn=>decide (n<20) || (JE (V7 n)&&decide (iH (V7 n)=[("go":Str)]/\xO (Yn n) (yy (V7 n)).1 "go" (vb n) QsV=(List.range n).map λ(k:Nat)=>[(k:Int)])))=true:=by decide +kernel
theorem Iy{ws:QR}:∀(l:AT) (q:Da) (p:AT) (h:CC),l.Nodup->(∀w∈l,¬ vJ ws w=[])->(∀w∈l,d7 h w=none)->2 ^ l.length<=(tH ws (l.map λw=>[w]) q p h).length
 | [],q,p,h,_,_,_=>ik _
 | w::l,q,p,h,nd,a,hn=>by
  simp at nd;have nx:∀c,∀v∈l,d7 (h++[(w,c)]) v=none:=λc v hv=>by
   rw[Iq,hn v Qfa,bX (λz=>nd.1 (by rw[z];exact hv))];rfl
  have i1:=Iy l Qka Qdk _ nd.2 QvQ (nx true);have b:=Iy l q p _ nd.2 QvQ (nx false);rw[kn,zy (a w Wp) (hn w Wp),ke,zx,mi,Nat.pow_succ];lia
def alP{k:Nat}(h:k<n):(Yn n).getD k w0=wd k:=by
 unfold Yn;rw[kq,j2,oI h];rfl
theorem alQ(h1:20<=n)(h2:n<=60)(m0:0<mo)(m1:mo<=20):(V7 n).Ok/\A1 (V7 n) mo (iH (V7 n))=none:=by
 have z:=me.1 agQ n Qhi;rw[kv (show ¬ n<20 by lia),Bool.false_or,lj,p3]at z;obtain⟨d,c,b⟩:=z;refine⟨V6 d λbs _ w hw=>?_,?_⟩
 .obtain⟨k,_,rfl⟩:=ip.1 hw;refine⟨[.num "<" (-1) 0 (-1) ((k:Int) % 3)],rfl,iq rfl,λa h=>?_⟩;rw[kx.1 h];exact⟨Wl,.inl rfl,.inl rfl⟩
 .rw[c];obtain⟨m,rfl⟩:∃m,mo=m+1:=⟨mo-1,We⟩;have x:=Iy (ws:=Yn n) ((List.range n).map λ(k:Nat)=>(k:Int)) [] [] [] (List.pairwise_map.2 (List.nodup_range.imp λ{x y} q z=>q (Int.ofNat.inj z))) (λw hw=>by
   obtain⟨k,g,rfl⟩:=ip.1 hw;unfold vJ;rw[k4,alP (ma.1 g)];intro z;cases z) (λw _=>rfl)
  rw[cK,nh,i0]at x;have f:2 ^ 20<=2 ^ n:=Nat.pow_le_pow_right Wm h1;have e:F6 (V7 n) Qd8 (nI (V7 n) Qd8) 0 "go" = none:=by
   unfold F6;refine cq ?_;show 8*Qd8<(tH (Yn n) (xO (Yn n) (yy (V7 n)).1 "go" (vb n) QsV) [] [] []).length;rw[b];exact mm (show 8*Qd8<2 ^ 20 by lia) (ky f x)
  unfold A1;rw[nN,cq (show 0<(nI (V7 n) Qd8).fl.length from Nat.one_pos),Ej,e];rfl
theorem agR(r:ET)(q:Da)(p:AT)(h:CC):∀F:AT,(∀l∈r,∀w∈l,d7 h w=none->w∈F)->(tH ws r q p h).length<=2 ^ F.length:=by
 refine Vu (ws:=ws) (P:=λr q p h=>∀F:AT,(∀l∈r,∀w∈l,d7 h w=none->w∈F)->(tH ws r q p h).length<=2 ^ F.length) ?_ ?_ ?_ ?_ ?_ (Aj r) r (ik _) q p h
 .intro q p h F _;rw[Kv];exact Nat.one_le_two_pow
 .intro r q p h i F a;rw[zx];exact i F λl hl=>a l Qhl
 .intro w l r q p h b i F a;rw[Ec b];exact i F λl hl=>a l Qhl
 .intro w l r q p h b hf i F a;rw[Ed b hf];refine i F λm hm=>?_;obtain rfl|hm:=fP.1 hm
  .exactλv hv=>a _ gk v Qfa
  .exact a m Qhm
 .intro w l r q p h g hn i1 f F a;have hw:=a _ gk w gk hn;have nx:∀(c:Bool) (v:Int),(d7 h v=none->v∈F)->d7 (h++[(w,c)]) v=none->v∈F.erase w:=λc v hv e=>by
   rw[Iq,Option.or_eq_none_iff]at e;refine(List.mem_erase_of_ne λz=>?_).2 (hv e.1);rw[cq z.symm]at e;cases e.2
  have a1:=i1 (F.erase w) λm hm v hv=>nx true v (a m Qhm v hv);have a2:=f (F.erase w) λm hm v hv=>nx false v (by
   obtain rfl|hm:=fP.1 hm
   .exact a _ gk v Qfa
   .exact a m Qhm v hv)
  rw[List.length_erase_of_mem hw]at a1 a2;rw[zy g hn,ke];obtain⟨k,d⟩:∃k,F.length=k+1:=⟨F.length-1,by have:=List.length_pos_of_mem hw;lia⟩;rw[d,Nat.add_sub_cancel]at a1 a2;rw[d,Nat.pow_succ];lia
theorem alR(hw:c.ws.length<=8)(p:Pl)(sg:Str):(F5 c p sg).length<=300:=by
 refine ky (agR _ _ _ _ ((List.range c.ws.length).map λ(k:Nat)=>k) λl hl w hw _=>?_) ?_
 .obtain⟨m,_,rfl⟩:=ip.1 hl;obtain⟨h0,h1⟩:=Kr hw;exact ip.2 ⟨w.toNat,ma.2 We,We⟩
 .simp;exact ky (Nat.pow_le_pow_right Wm hw) Wm
noncomputable def V8(h:Y8 m d)(n:Nat):Sm (n+2) d:=Ll h.it n
def apy(h:c.Ok):∀d∈F7 c,wb c.bs.length d:=λd hd=>by
 obtain⟨m,_,z⟩:=mn.1 hd;obtain rfl|z:=fP.1 z
 .exact⟨.W4 m,rfl,trivial⟩
 .exact(Ks h.i _ d z).it
theorem alS(h:c.Ok){w:bM}(hw:w∈c.ws):Sm 7 (dN w):=λd hd=>by
 obtain⟨l,e,_,_⟩:=h.q (c.bs.map (·.2)) (cK ..) w hw;obtain rfl|hd:=fP.1 hd
 .trivial
 obtain rfl|hd:=fP.1 hd
 .trivial
 obtain rfl|hd:=fP.1 hd
 .intro d hd;rw[e]at hd;obtain⟨a,_,rfl⟩:=ip.1 hd;cases a with
  | Ea op m=>exact vf trivial trivial
  | num mk b1 m1 b2 m2=>
   intro d hd;obtain rfl|hd:=fP.1 hd
   .trivial
   .exact vf (sJ 3 [_,_]) (sJ 3 [_,_]) d hd
 obtain rfl|hd:=fP.1 hd
 .exactλd hd=>V8 (h.w w hw d hd) 3
 exact vf (n:=6) (a:=.int _) (c:=.str _) trivial trivial d hd
def HA(c:CH):D:=A5 QdP c.es c.ks c.ss QnO (c.os.map .tup) Qjz
abbrev KU:=top 85
abbrev KO:=AT
abbrev KI:At:=["script","parts","chart","most","cell","start","due","table"]
noncomputable def v8:KO->BA:=λa=>[.lst QeX]
def v9:KO->Prop:=λa=>a.length<=63
noncomputable def wc:KO->T:=λa=>(.sh QbA:T)
structure apz(X:Cx)(CL:BM):Prop extends EL X KI ["_law_parts","_law_chart","_law_cell","_law_too_wide","_law_wide","_law_many","begun","_law_table","flattened","TooWide","_law_same","signs","tuple","_law_rows"],fF X.K X.mg CL where
 agS:Fc X CL "_law_parts" 5 2 vR vS vU
 agT:Fc X CL "_law_chart" 3 1 A6 A7 A8
 cY:Fc X CL "_law_cell" 1 2 iz cC f6
 FH:Fc X CL "_law_too_wide" 70 2 mY mZ m5
 alT:Fc X CL "_law_wide" 3 1 Fl Fo Fp
 alU:Fc X CL "_law_many" 3 1 Ft Fv Fw
 LV:Fc X CL "begun" 64 1 vX qy qz
 agU:Fc X CL "_law_table" 68 3 Bt Bu Bv
 B8:Fc X CL "flattened" 69 2 ly lz jb
 n5:Fc X CL "_law_same" 9 2 vd (ve 8) qF
 zY:Fc X CL "signs" 1 1 m9 iL kK
 alV:Fc X CL "_law_rows" 10 2 FD FE zZ
 sG:o8 X CL "flattened" 69 2 gJ gK gM
 st:X.stack=X.env::X.outer
 fm:X.env.frame=some X.env.locals
 nx:X.xe=λ_ _=>False
 jx:exmOne X.K QgU QgU=some true
theorem apA(E:apz X CL) :
  j6 X CL b KU KI v8 v9 wc:=by
 intro a h;dsimp only [v9,v8,wc]at h ⊢;have hs:a.length<=1000:=by lia
 obtain⟨n1,A,_⟩:=VP a (most:=9) Wm;have j:=agP a n1 A;have t:(SY a QbN).ws.length<=8:=(O8 (s:=a) (es:=jQ a QbN) (wk a) (by have:=(C5 a n1 A).1;lia)).1;have u:(SY a QbN).nm=(tD (SY a QbN).es.length).map .str:=rfl;refine aF E.g Qfq (aH (cF (a,9) E.agS QA (aG QaK (aG jG bu)) ⟨hs,Wm,Wm⟩) (t2:=.sh (HA (SY a QbN))) (by
  show T.sh (A5 _ _ _ _ (X8 a 100 QbN) (X8 a 103 QbN) _)=T.sh (A5 _ _ _ _ ((O9 a 100 QbN).map .tup) ((O9 a 103 QbN).map .tup) _);unfold X8 O9;rw[i0,i0];rfl)) ?_
 have L:(SY a QbN).es.length<=9:=by have:=(C5 a n1 A).1;show(jQ a QbN).length<=9;lia
 generalize SY a QbN=c at j u t L ⊢;have G:D.bf QdP=true:=dZ Qcm _;have ii:∀l:EU,pC l->D.bf (l.map D.tup)=true:=λl h=>fU λd hd=>by
  obtain⟨x,B,rfl⟩:=ip.1 hd;exact(h x B).2
 have F:D.bf Qjz=true:=fU λd hd=>by
  obtain⟨w,hw,rfl⟩:=ip.1 hd;have:=j.k.wo w hw;show(true&&(true&&(D.bf w.asks&&(D.bf w.lG&&QrV))))=true;rw[this.2.2.2.2.1,this.2.2.2.2.2];rfl
 refine aF E.g Qak (jc (d:=c.d) (c_ (c.bs.map j7,c.es,c.ks,c.ss,c.is.map .tup,c.os.map .tup,c.ws.map dN) E.agT QN QoI ⟨G,ii _ j.k.ir,ii _ j.k.or,F,show c.es.length<=40 by lia⟩ (sH G (ig _) (jC c.ks c.es c.ss) (ii _ j.k.ir) (ii _ j.k.or) F)) (by
  show T.cu QkX=_;rw[xH,AK];unfold CH.d;rw[u])) ?_
 have Y:=lL (aE a 61) (show(10:Int)≠0 by decide);have W:=l8 (aE a 61) (show(0:Int)<10 by decide);obtain⟨mo,R⟩:∃mo:Nat,(mo:Int)=1+aE a 61 % 10:=⟨(1+aE a 61 % 10).toNat,We⟩;have m0:0<mo:=by lia
 have m1:mo<=10:=by lia
 have m2:mo<=20:=by lia
 refine aF E.g Qax (aH (cy ai (ak (bZ (ak (c_ ((a,61)) E.cY QU QbV (by dsimp only [cC];exact(⟨We,We,hs⟩)) rfl)) ai Wm))) (t2:=.sh (.int mo)) (by rw[R])) ?_;refine aF E.g Qar (aH (c_ ((a,63)) E.cY QU QbV (by dsimp only [cC];exact(⟨We,We,hs⟩)) rfl) (t2:=.sh (.int (aE a 63))) rfl) ?_;generalize aE a 63=cl;refine tP (λU=>U=[some Qur,some (.sh (HA c)),some QbB,some Qci,some (.sh (.int cl)),none,none,none]) (eY (ak (bZ QaL ai Wm)) ai).1 (λ_=>?_) (λ_=>aq rfl) ?_
 .have V:=lL (cl / 8) (show(41:Int)≠0 by decide);have S:=l8 (cl / 8) (show(0:Int)<41 by decide);obtain⟨n,hn⟩:∃n:Nat,(n:Int)=20+cl / 8 % 41:=⟨(20+cl / 8 % 41).toNat,We⟩;obtain⟨I,H⟩:=alQ (n:=n) We We m0 m2;have v2:A1 sP mo (iH sP)=none:=by
   have:=me.1 ac1 mo Qhi;rw[n4.2 We,Bool.false_or]at this;exact Option.isNone_iff_eq_none.1 this
  exact dR (Ri (q:=false) (kh (lE (oW (fX (c_ (V7 n,mo) E.FH Q1 (ah (mE (Ni (c_ n E.alT Qbd (ah (mE (ak (cy ai (ak (bZ (ak (dc QaL ai ⟨Wm,Wm⟩)) ai Wm)))) (by rw[hn])) av) (show n<=60 by lia) (sH rfl (ig _) Qkl (gi _) (gi _) (LY n)))) (by
   show T.cu QkX=_;rw[xH,AK];unfold CH.d V7;rw[w1];rfl)) QeQ) ⟨⟨I,m0,m2⟩,H⟩ rfl))) (λ_=>jv (oW (fX (c_ (sP,mo) E.FH Q1 (ah (mE (Ni (c_ 12 E.alU Qb4 Qpd rfl (sH rfl (ig _) Qkl (gi _) (gi _) Wl))) (by
   show T.cu QkX=_;rw[xH,AK];unfold CH.d sP;rw[w1];rfl)) QeQ) ⟨⟨alO,m0,m2⟩,v2⟩ rfl)))))) rfl) (λz=>by cases z) (λ_=>aq Qd1)
 rintro U rfl;have v:D.bf (F7 c)=true:=(AY j.k.ir (yy c).1).2;refine aF E.g Qaq (jc (d:=.tup [.lst (F7 c),.lst ((yy c).1.map .int),.lst ((yy c).2.map .int)]) (aH (c_ (c.bs.map j7,c.nm,c.ks,c.es,c.ss,c.is,c.os.map .tup,c.ws.map dN) E.LV Qb3 Qc8 (by dsimp only [qy];exact⟨j.nl,j.k.n0,We,j.k.kl,j.k.sl,j.k.il,j.k.ir,j.k.kinds,zu j⟩) ?cl) (t2:=.tup [.lst ((F7 c).map T.sh),.lst (((yy c).1.map .int).map T.sh),.lst (((yy c).2.map .int).map T.sh)]) rfl) ?fr) ?_
 case cl=>
  show T.clean (.tup [.lst ((F7 c).map T.sh),.lst (((yy c).1.map .int).map T.sh),.lst (((yy c).2.map .int).map T.sh)])=true;rw[T.clean,T.dW,T.dW,T.dW,T.dW,bW v,aO,aO];rfl
 case fr=>rw[T.cu,T.cD,T.cD,T.cD,T.cD,bF,bF,bF]
 have tab:∀{U:BB} {pp p1 p2 K J:Pos},U[2]? = some (some QbB)->U[5]? = some (some QkN)->U[3]? = some (some Qci)->bY X CL b (.Call (.Name "_law_table" p1) [.Name "chart" p2,.Name "start" K,.Name "most" J] [] pp) U (r8 c mo) U:=λh1 h2 P=>cF (c,mo) E.agU Qfp (aj (v_ (E.ll 2).1 h1) (aj (v_ (E.ll 5).1 h2) (aj (v_ (E.ll 3).1 P) aL))) ⟨⟨j,m0,m2⟩,alR t⟩;unfold r8 at tab;cases e:A1 c mo (iH c) with
 | none=>
  rw[e]at tab;refine aF E.g QaF QvG ?_;refine aF E.g Qbb Jy ?_;refine SE (c:="TooWide") (δ1:=[some Qur,some (.sh (HA c)),some QbB,some Qci,some (.sh (.int cl)),some QkN,some Qhh,some Qhh]) E.st E.fm E.nx (λp=>aoI (X:=X.pinned p) E.g.nd (E.ll 7).pin (SF (X:=X.pinned p) (c,mo) E.nx E.sG.pin QjZ (ah (ak (v_ (E.ll 2).1.pin)) (ah (ak (v_ (E.ll 3).1.pin)) av)) ⟨⟨j,m0,m2⟩,e⟩)) (.hit (E.gg 9) E.rG E.jx Wm) λev=>?_;refine Su E.g.nd (E.ll 7).hand Jy (aq ?_);refine dR (Ri (q:=true) (kh (lE (q:=true) (Q8 Qam).1 (λz=>by cases z))) rfl) (λ_=>?_) (λz=>by cases z);exact aX (Aq (p:=true) (q:=true) (Q8 Qam).2 (λ_=>Ao (Q8 QbK).2)) rfl
 | some s=>
  rw[e]at tab;dsimp only at tab;have y:=Pd j m0 e;have C:T.cu (.ins "Table" Qqm)=Ck QdP ((iH c).map .str) (F7 c) QeU QdQ:=abP ..;refine aF E.g QaF (jc (d:=.tup [.lst QeU,.dct (mF QdQ)]) QvG (by rw[T.cu,T.cD,T.cD,T.cD,bF,T.cu,A0])) ?_;refine aF E.g Qbb Jy ?_;refine akw E.nx ?_;refine aF E.g Qbb (jc (aH (cF (c,mo) E.B8 QjZ (aj QaD Qnc) ⟨⟨j,m0,m2⟩,by rw[e];intro z;cases z⟩) (t2:=.ins "Table" Qqm) (by show T.ins "Table" (Od _ _ _ (((A1 c mo (iH c)).getD _).fl.map lZ) (iu ((A1 c mo (iH c)).getD _).rs))=_;rw[e];rfl)) C) (aq ?_);unfold Ck;refine dR (Ri (q:=false) (kh (lE (afh Qam) (λ_=>jv (afH QbK)))) rfl) (λz=>by cases z) (λ_=>aq ?_);have o:∀{n:Nat} {l:BA},(∀d∈l,Sm n d)->Sm Q4 (.lst l):=λh=>h;refine dR (Ri (q:=false) (kh (lE (oW (fX (c_ (D.lst QdP) E.n5 Qdh (ah (cH E.iK E.wJ QbK N9) QlZ) (o (n:=7) λd hd=>?s1) rfl))) (λ_=>jv (oW (fX (c_ (D.lst ((iH c).map .str)) E.n5 Qdh (ah (cH E.iK E.wN QbK Oa) (ah (aW (OE j E.zY (E.gg 11) (E.ll 2).1)) av)) (o (n:=7) λd hd=>?s2) rfl)))))) rfl) (λz=>by cases z) (λ_=>aq ?_)
  case s1=>
   obtain⟨q,_,rfl⟩:=ip.1 hd;exact vf (n:=6) (a:=.str q.1) (c:=.int q.2) trivial trivial
  case s2=>
   obtain⟨q,_,rfl⟩:=ip.1 hd;trivial
  refine dR (Ri (q:=false) (kh (lE (oW (fX (c_ (D.tup (F7 c)) E.n5 Qdh (ah (cH E.iK E.wO QbK Ob) (ah (ak (eG E.fc (ak (bK QbX ai lW)) v (E.gg 12))) av)) (show ∀d∈F7 c,Sm 7 d fromλd hd=>Ll (apy j d hd) 5) rfl))) (λ_=>jv (oW (fX (c_ (D.lst QeU) E.n5 Qdh (ah (cH E.iK E.wM QbK Oc) (ah (bI Qam ai lW) av)) (o (n:=7) λd hd=>?s3) rfl)))))) rfl) (λz=>by cases z) (λ_=>aq ?_)
  case s3=>
   obtain⟨q,_,rfl⟩:=ip.1 hd;exact apx 5 q
  refine aX (Aq (p:=true) (q:=true) (c_ QdQ E.alV (E.gg 13) (ah (cH E.iK E.rE QbK Ru) (ah (bI Qam ai pe) av)) ⟨by rw[IU];exact y.kd,?len,λq N=>?s4⟩ rfl) (λ_=>Aq (p:=true) (q:=true) (c_ (D.lst Qjz) E.n5 Qdh (ah (cH E.bU E.cW QP fC) QlZ) (o (n:=7) λd hd=>?s5) rfl) (λ_=>Ao (c_ (D.lst QnO) E.n5 Qdh (ah (cH E.bU E.t9 QP Ik) QlZ) (o (n:=7) λd hd=>?s6) rfl)))) rfl
  case len=>
   have hl:=LN j;have e2:=congrArg List.length y.ks;have O:=y.ln;rw[cK]at e2;have f:=kH (f:=λm=>(iH c).map (CZ m)) (c:=60) QsF λm _=>by rw[cK];exact hl
   unfold Oe at e2;rw[List.take_zero,List.map_nil,js]at e2;rw[nh]at f;unfold iu;rw[cK];lia
  case s4=>
   obtain⟨r,M,rfl⟩:=ip.1 N;refine o (n:=7) λd hd=>?_;obtain⟨x,B,rfl⟩:=ip.1 hd;exact alM ((y.rw r M).2 x B) 3
  case s5=>
   obtain⟨w,hw,rfl⟩:=ip.1 hd;exact alS j hw
  case s6=>
   obtain⟨l,hl,rfl⟩:=ip.1 hd;exactλd hd=>V8 (j.i l hl d hd) 4
noncomputable def S6:FG KI ["script"] ["_law_parts","_law_chart","_law_cell","_law_too_wide","_law_wide","_law_many","begun","_law_table","flattened","TooWide","_law_same","signs","tuple","_law_rows"] (ao KU):=fG
noncomputable def cl(aR bB aJ aS aP bO dm:Addr):Str->Addr:=λc=>if c="Chart" then aR else if c="Tree" then bB else if c="Growth" then aJ else if c="Table" then aS else if c="TooWide" then aP else if c="#goable.<locals>.<lambda>" then bO else if c="#kept.<locals>.<lambda>" then dm else 0
variable{aR bB aJ aS aP bO dm:Addr}
def Pa:cl aR bB aJ aS aP bO dm "#goable.<locals>.<lambda>" = bO:=by unfold cl;rw[bX Wl];rw[bX Wl];rw[bX Wl];rw[bX Wl];rw[bX Wl];rw[cq rfl]
def Yo:cl aR bB aJ aS aP bO dm "#kept.<locals>.<lambda>" = dm:=by unfold cl;rw[bX Wl];rw[bX Wl];rw[bX Wl];rw[bX Wl];rw[bX Wl];rw[bX Wl];rw[cq rfl]
def ac5:cl aR bB aJ aS aP bO dm "Chart" = aR:=by unfold cl;rw[cq rfl]
def agV:cl aR bB aJ aS aP bO dm "Tree" = bB:=by unfold cl;rw[bX Wl];rw[cq rfl]
def Yp:cl aR bB aJ aS aP bO dm "Growth" = aJ:=by unfold cl;rw[bX Wl];rw[bX Wl];rw[cq rfl]
def ac6:cl aR bB aJ aS aP bO dm "Table" = aS:=by unfold cl;rw[bX Wl];rw[bX Wl];rw[bX Wl];rw[cq rfl]
def S7:cl aR bB aJ aS aP bO dm "TooWide" = aP:=by unfold cl;rw[bX Wl];rw[bX Wl];rw[bX Wl];rw[bX Wl];rw[cq rfl]
def agW{x:Str}(h:HK x=true)(h0:cl aR bB aJ aS aP bO dm x≠0):(cl aR bB aJ aS aP bO dm x,Ng x)∈([(bO,"goable.<locals>.<lambda>"),(dm,"kept.<locals>.<lambda>")]:Cs):=by
 unfold cl at h0 ⊢;rw[bX (λe=>by rw[e]at h;exact absurd h Wl)]at h0 ⊢;rw[bX (λe=>by rw[e]at h;exact absurd h Wl)]at h0 ⊢;rw[bX (λe=>by rw[e]at h;exact absurd h Wl)]at h0 ⊢;rw[bX (λe=>by rw[e]at h;exact absurd h Wl)]at h0 ⊢;rw[bX (λe=>by rw[e]at h;exact absurd h Wl)]at h0 ⊢;by_cases b:x="#goable.<locals>.<lambda>"
 .rw[cq b,b,show Ng _="goable.<locals>.<lambda>" by decide +kernel];simp
 rw[bX b]at h0 ⊢;by_cases a:x="#kept.<locals>.<lambda>"
 .rw[cq a,a,show Ng _="kept.<locals>.<lambda>" by decide +kernel];simp
 rw[bX a]at h0 ⊢;exact absurd rfl h0
theorem all_mk{l:QnN}{w:World}{K:Frag}{h:Heap}{mg:Bi}{T0:BY}{fa eg h5 g0 S9 h4 ee h3 ed eb gY ey gN Ca z7 ho hk Pb Pg Yq hj hh wW jy GL FJ GN Ph GO Pj Yr hg ew Pk yt hO et bx Ys Tc Ma er Yt GP hN Td Te Mb hc hb Pn V qe Mf z8 vg Tf en el hM ha U ek bt:Addr}(g:K.In h)(G:Qvw)(ag:mg "law" = some (.ref fa))
  {ej hL g5 Tg hK ei hJ eh df g4 de fo Pp Mg fk fg Pq Pr Yu ff fe GQ yu GR FL GU Pu GV Pw Yv fb da Px Ti hI c8 bp Yw Tj Mh c5 Yx GX hH Tp Tq Mi e8 e6 Py T GY e5 Mj Pz Tr c4 c3 hG e4 g_same c2 S:QaT}
  (e3:InG K "Chart" aR) (bU:yE K aR) (FN:makesIn K aR=true) (FP:keepIn K (.ref aR)=true)
  (GZ:bC K aR "boxes")
  (G0:bC K aR "names")
  (Ml:bC K aR "tree")
  (PB:bC K aR "ins")
  (Mm:bC K aR "outs")
  (Mp:bC K aR "ways")
  (c1:InG K "Tree" bB) (iU:yE K bB) (Mq:makesIn K bB=true) (Mr:keepIn K (.ref bB)=true)
  (Ms:bC K bB "kinds")
  (G3:bC K bB "elders")
  (G4:bC K bB "starts")
  (hF:InG K "Growth" aJ) (aY:yE K aJ) (IX:makesIn K aJ=true) (IY:keepIn K (.ref aJ)=true)
  (FQ:bC K aJ "chart")
  (G5:bC K aJ "most")
  (FT:bC K aJ "flats")
  (Cv:bC K aJ "places")
  (G6:bC K aJ "rows")
  (wu:bC K aJ "spare_rows")
  (eX:InG K "Table" aS) (iK:yE K aS) (PD:makesIn K aS=true) (PF:keepIn K (.ref aS)=true)
  (G7:bC K aS "boxes")
  (G8:bC K aS "signs")
  (G9:bC K aS "begin")
  (Hg:bC K aS "flats")
  (Mt:bC K aS "rows")
  (Yy:InG K "TooWide" aP)
  {Tt Tv:Str} {Bw:Addr} {Tw FU Tz:B2} {TF TH:Bool} {TJ:At} {PJ:Option Bool} {TL:Do} {TN TQ TV TX TY:Qg5} (T3:K.lookup aP=some (excClassObj Tt Tv aP Bw Tw FU TF TJ Tz TH PJ TL TN TQ TV TX TY "ValueError.__new__")) (T4:Wq 2 (nsOkIn K Bw=true)) (T5:nsIn K Bw "__init__" = some none) (T6:Wq 2 (tailIn K UW FU=true))
  (n6:Wq 5 (exmOne K (.ref aP) (.ref aP)=some true))
  (cP:jB K "_law_cell" Rz eg ej)
  (hC:jB K "_law_elders" El h5 hL)
  (eW:jB K "_law_kinds" KN g0 g5)
  (T7:jB K "_law_inner" rK S9 Tg)
  (hB:jB K "_law_chosen" Eo h4 hK)
  (cx:jB K "_law_name" RK ee ei)
  (hA:jB K "_law_number" Es h3 hJ)
  (cw:jB K "_law_term" RN ed eh)
  (cv:jB K "_law_asks" RT eb df)
  (eT:jB K "_law_deeds" KR gY g4)
  (cp:jB K "_law_ways" KY ey de)
  (eR:jB K "_law_parts" C7 gN fo)
  (F:oa K bB "__init__" "Tree.__init__" uv Ca Pp)
  (I:oa K aR "__init__" "Chart.__init__" rQ z7 Mg)
  (eP:jB K "_law_chart" K3 ho fk)
  (eM:jB K "inner" C8 hk fg)
  (PL:jB K "opened_in" uy Pb Pq)
  (R:jB K "opened" EG Pg Pr)
  (Yz:jB K "in_rows" Ba Yq Yu)
  (eK:jB K "begun" K9 hj ff)
  (eJ:jB K "signs" Lc hh fe)
  (O:oa K aJ "__init__" "Growth.__init__" pI wW GQ)
  (n:oa K aJ "number_of" "Growth.number_of" fD jy yu)
  (Hh:jB K "open_leaves" k7 GL GR)
  (FW:jB K "at_next_leaf" nR FJ FL)
  (Hi:jB K "number_asks" pN GN GU)
  (PN:jB K "with_pick" uD Ph Pu)
  (Hj:jB K "at_next_way" pU GO GV)
  (PR:jB K "with_held" uH Pj Pw)
  (YB:jB K "further" Be Yr Yv)
  (eI:jB K "above" Lf hg fb)
  (cn:jB K "fits" R3 ew da)
  (z9:jB K "goable" zT Pk Px)
  {qA:Addr} {YC:Do} {IZ:Cl} {YD:D2} (YF:Wq 1 (Px.code=.ref qA)) (ib:K.lookup qA=some ⟨.type "code",YC,.fields IZ,YD⟩) (ia:Wq 1 (IZ[11]? = some (.ref bO))) (I0:Wq 2 (codeHdIn K qA bO=true)) (YG:Wq 3 (bO≠0)) (YH:Wq 2 (K.lookup bO=none)) (YJ:Wq 3 (bO∈T0))
  (D:jB K "branches" kO yt Ti)
  (hz:jB K "within" E1 hO hI)
  (cm:jB K "left" Li et c8)
  (bo:jB K "top" KA bx bp)
  (YK:jB K "way_top" Bj Ys Yw)
  (T8:jB K "all_left" x9 Tc Tj)
  (Mu:jB K "remembered" rX Ma Mh)
  (cf:jB K "road" Sd er c5)
  (YL:jB K "entered" Bm Yt Yx)
  (Hl:jB K "all_entered" pX GP GX)
  (hy:jB K "heeded" Fb hN hH)
  (T9:jB K "out_rows" yd Td Tp)
  (Ua:jB K "way_rows" yg Te Tq)
  (Mv:jB K "has_target" se Mb Mi)
  (eH:jB K "moved" Dc hc e8)
  (eF:jB K "depth" Ly hb e6)
  (PV:jB K "tops_meet" uQ Pn Py)
  (Mw:jB K "kept" LD V T)
  {uV:Addr} {eE:Do} {V9:Cl} {eD:D2} (eC:Wq 1 (T.code=.ref uV)) (h8:K.lookup uV=some ⟨.type "code",eE,.fields V9,eD⟩) (h9:Wq 1 (V9[11]? = some (.ref dm))) (Wa:Wq 2 (codeHdIn K uV dm=true)) (eA:Wq 3 (dm≠0)) (gz:Wq 2 (K.lookup dm=none)) (gx:Wq 3 (dm∈T0))
  (r:oa K aJ "grow" "Growth.grow" i9 qe GY)
  (L:jB K "grown" zW Mf e5)
  (N:oa K aS "__init__" "Table.__init__" sC z8 Mj)
  (M:Tx K "flattened" oS vg Pz ["chart","most"])
  (Ub:jB K "_law_too_wide" yk Tf Tr)
  (cc:jB K "_law_wide" Sz en c4)
  (cb:jB K "_law_many" SJ el c3)
  (hx:jB K "_law_behind" Fx hM hG)
  (gv:jB K "_law_table" L0 ha e4)
  (FY:jB K "_law_same" s_same U g_same)
  (b7:jB K "_law_rows" SV ek c2)
  (P:jB K "law" KU bt S)
  (bj:Rj K "len")
  (gr:Rj K "range")
  (bc:Rj K "int")
  (bb:Rj K "str")
  (gq:Rj K "tuple")
  (hu:Rj K "sorted")
  (ba:Rj K "max")
  (b6:Rj K "list")
  (PX:Rj K "enumerate")
  {gm:Tok} (b5:AH K "SIGN" 1 gm)
  {yw:Tok} (Aa:AH K "ROWS_FOR_A_FLAT" 8 yw)
  {gh:Tok} (b4:AH K "LEAF" 0 gh)
  {ht:Tok} (gc:AH K "ASKED" 2 ht)
  {YM:Tok} (hq:AH K "PICKED" 3 YM)
  {f5:Tok} (b0:AH K "HELD" 4 f5)
  {f3:Tok} (ea:AH K "ASKS" 2 f3)
  {d6:Tok} (aT:AH K "WAY" 1 d6)
  (d5:Rj K "dict")
  {YN:Tok} (hZ:AH K "SOURCE" 0 YN)
  (Uc:Rj K "reversed")
  {YQ:Tok} (hY:AH K "TARGET" 4 YQ)
  {fT:Tok} (d4:AH K "MODE" 5 fT)
  {hX:Tok} (fR:AH K "DEEDS" 3 hX)
  (aI:Rj K "any")
  (Mx:Rj K "isinstance")
  (y_bool:Rj K "bool")
  (FZ:Wq 3 (dm≠bO))
  : ∃(fd:QaT) (ts:Cs),(∀p∈ts,p.1∈T0/\ts.lookup p.1=some p.2/\K.lookup p.1=none/\∃c,CodeHd h c p.1)/\(∀(s:Qb) (v:Value),BindsTo s fd ⟨[v],[]⟩ [("script",v)])/\∀base:Heap,K.In base->base.Ns mainGlobals mg->DP mg base->dz l.prog w K mg base oj 71 fa fd ["script"] (spT K ts 1 v8 v9 wc):=by
 have e:=ag.symm.trans (lh g G P.m);cases e;obtain⟨k,rfl,rfl,rfl,rfl,rfl,rfl,rfl,ar⟩:∃k:Str->Addr,aR=k "Chart" /\ bB=k "Tree" /\ aJ=k "Growth" /\ aS=k "Table" /\ aP=k "TooWide" /\ bO=k "#goable.<locals>.<lambda>" /\ dm=k "#kept.<locals>.<lambda>" /\ ∀x,HK x=true->k x≠0->(k x,Ng x)∈([(bO,"goable.<locals>.<lambda>"),(dm,"kept.<locals>.<lambda>")]:Cs):=⟨(cl aR bB aJ aS aP bO dm),ac5.symm,agV.symm,Yp.symm,ac6.symm,S7.symm,Pa.symm,Yo.symm,λx=>agW⟩;have vj:=F.bA ["self","kinds","elders","starts"];have sM:=I.bA ["self","boxes","names","tree","ins","outs","ways"];have PY:=lh g G R.m;have PZ:=R.bA ["tree","memory","mood","mode"];have wX:=O.bA ["self","chart","most"];have J:=n.bA ["self","opens","memory"];have hW:=lh g G z9.m;have hV:=z9.bA ["chart","opens","leaf","sign"];have sN:=lh g G D.m;have sO:=D.bA ["chart","opens","sign","most"];have d3:=lh g G Mw.m;have d0:=Mw.bA ["chart","found"];have lA:=r.bA ["self","number","sign"];have My:=lh g G L.m;have Mz:=L.bA ["chart","most"];have Ab:=N.bA ["self","boxes","signs","begin","flats","rows"];have vm:=lh g G M.m;have vn:=M.b;have ae:=lh g G FY.m;have aa:=FY.bA ["found","due"];have h7:=lh g G P.m;have h6:=P.bA ["script"];have MA:=lh g G e3;have Ud:=lh g G c1;have P0:=lh g G hF;have Wb:=lh g G eX;have YR:=lh g G Yy;have Ue:J2 K (k "TooWide"):=⟨⟨_,_,_,_,_,_,_,_,_,_,_,_,_,_,_,_,T3,T4.1,T5,T6.1⟩⟩;have f:fF K mg k:=⟨mM g G bj,mM g G gr,mM g G bc,mM g G bb,mM g G gq,mM g G hu,mM g G ba,mM g G b6,iU,Ms,G3,G4,bU,iK,GZ,G7,G0,Ml,PB,Mm,Mp,mM g G PX,⟨_,lh g G b5⟩,⟨_,lh g G Aa⟩,aY,FQ,G5,FT,Hg,Cv,G6,Mt,wu,YR,Ue,⟨_,lh g G b4⟩,⟨_,lh g G gc⟩,⟨_,lh g G hq⟩,⟨_,lh g G b0⟩,⟨_,lh g G ea⟩,⟨_,lh g G aT⟩,mM g G d5,⟨_,lh g G hZ⟩,mM g G Uc,⟨_,lh g G hY⟩,⟨_,lh g G d4⟩,⟨_,lh g G fR⟩,mM g G aI,G8,G9,mM g G Mx,mM g G y_bool⟩;refine⟨S,[((k "#goable.<locals>.<lambda>"),"goable.<locals>.<lambda>"),((k "#kept.<locals>.<lambda>"),"kept.<locals>.<lambda>")],?tabs,?bind,λbase kb _ bl=>?_⟩
 case tabs=>
  intro p j;simp only[fP,km,or_false]at j;obtain rfl|rfl:=j
  .exact⟨YJ.1,by simp only[mf,vc],YH.1,qA,codeHd_of_K g I0.1⟩
  .exact⟨gx.1,by simp only[mf,vc,beq_false_of_ne FZ.1],gz.1,uV,codeHd_of_K g Wa.1⟩
 case bind=>
  obtain⟨dV,oc,od,kV,doc,pm,an,eB,ct,F3,rfl,lk,iV⟩:=P.ex;cases (show dV=.none from P.dn);exactλs v=>.of_eq rfl
 have q:=@aoU l.prog w mg base K h k g G;have A:=q 0 iz cC f6 cP  VD.1 λd u p=>ak2 (by exact⟨gE u VD,f⟩) p;have hU:=q 1 rH nM rJ hC  Iz.1 λd u p=>ab5 (by exact⟨gE u Iz,f,bJ A d⟩) p;have fI:=q 1 A3 vO A4 eW  Oi.1 λd u p=>agh (by exact⟨gE u Oi,f,bJ A d⟩) p;have F0:=q 0 mO gw mP T7  Oj λd u p=>RJ (by exact⟨cE u ud,f,dF ud 0 rfl,dF ud 1 rfl⟩) p;have hT:=q 1 xT rL xU hB  IA.1 λd u p=>acd (by exact⟨gE u IA,f,bJ F0 d,bJ A d⟩) p;have Z:=q 1 zH uf ug cx  VJ.1 λd u p=>ak7 (by exact⟨gE u VJ,f,bJ A d⟩) p;have P1:=q 0 rM rN rO hA  IB.1 λd u p=>acf (by exact⟨gE u IB,f⟩) p;have Y:=q 1 uh um uo cw  VL.1 λd u p=>ak9 (by exact⟨gE u VL,f,bJ P1 d⟩) p;have dE:=q 2 Ex zI Ey cv  VM.1 λd u p=>alb (by exact⟨gE u VM,f,bJ A d,bJ Y d⟩) p;have Wc:=q 2 vP kI vQ eT  Ot.1 λd u p=>agk (by exact⟨gE u Ot,f,bJ A d,bJ Z d,bJ Y d⟩) p;have dC:=q 3 zL uq zM cp  agl λd u p=>alf (by exact⟨cE u KZ,f,dF KZ 0 rfl,dF KZ 3 rfl,bJ A d,bJ Z d,bJ dE d,bJ Wc d,bJ F0 d⟩) p;have fA:=q 4 vR vS vU eR  aco λd u p=>agp (by exact⟨cE u ED,f,dF ED 0 rfl,dF ED 6 rfl,bJ A d,bJ hU d,bJ fI d,bJ hT d,bJ dC d,bJ P1 d,bJ Wc d⟩) p;have vo:dz l.prog w K mg base oj 1 Ca _ ["self","kinds","elders","starts"] (q4 K k "Tree" 4 kX kY kZ):=CJ F.1 rP.1 λeB o outer s H E b a y d j=>by
  obtain⟨p0,p1,p2⟩:=a;refine Ow ?_ p0 p1 p2 y j;exact⟨gE ⟨⟨rP.nd,rfl,.never⟩,d.units⟩ rP,f⟩
 have sQ:dz l.prog w K mg base oj 1 z7 _ ["self","boxes","names","tree","ins","outs","ways"] (q4 K k "Chart" 7 jR jS jT):=CJ I.1 pF.1 λeB o outer s H E b a y d j=>by
  obtain⟨p0,p1,p2,z,t,B⟩:=a;refine K2 ?_ p0 p1 p2 z t B y j;exact⟨gE ⟨⟨pF.nd,rfl,.never⟩,d.units⟩ pF,f⟩
 have fy:=q 2 A6 A7 A8 eP  Ox.1 λd u p=>agr (by exact⟨gE u Ox,f,⟨⟨_,_,_,⟨Mq,F.a,F.i,Mr⟩,vo,Ud,vj⟩,d.mono Wm⟩,⟨⟨_,_,_,⟨FN,I.a,I.i,FP⟩,sQ,MA,sM⟩,d.mono Wm⟩⟩) p;have Wd:=q 0 vV m8 vW eM  acr λd u p=>agt (by exact⟨cE u Oz,f,dF Oz 1 rfl⟩) p;have P4:=q 1 pG pH k6 PL  zO.1 λd u p=>OD (by exact⟨gE u zO,f,bJ Wd d⟩) p;have YS:∀dd,dz l.prog w K mg base oj (3+dd) Pg Pr ["tree","memory","mood","mode"] (Qf K k 4 nO (nP dd) kJ):=by
  intro dd
  induction dd using Nat.strongRecOn with
  | ind dd ih=>
   rw[show 3+dd=(2+dd)+1 by lia];exact jH R.1 A9.1 λeB o outer s H E b a _ d j=>by
    refine acu (dd:=dd) ?_ j;exact⟨gE ⟨⟨A9.nd,rfl,.never⟩,d.units⟩ A9,f,bJ P4 d We,λd' hd=>⟨⟨_,_,_,ih d' hd,PY,R.kp,PZ⟩,d.mono We⟩⟩
 have hS:=YS 60;have P5:=DN hS PY R.kp PZ;have Jb:=q 0 oH lM lN Yz  EJ.1 λd u p=>Yb (by exact⟨gE u EJ,f⟩) p;have MB:=q 63 vX qy qz eK  OI.1 λd u p=>agw (by exact⟨gE u OI,f,bJ P5 d,bJ Jb d⟩) p;have De:=q 0 m9 iL kK eJ  OL.1 λd u p=>agz (by exact⟨gE u OL,f⟩) p;have wY:dz l.prog w K mg base oj 1 wW _ ["self","chart","most"] (q4 K k "Growth" 3 sU sV sW):=CJ O.1 nQ.1 λeB o outer s H E b a y d j=>by
  obtain⟨p0,p1,p2⟩:=a;refine Gv ?_ p0 p1 p2 y j;exact⟨gE ⟨⟨nQ.nd,rfl,.never⟩,d.units⟩ nQ,f⟩
 have gB:dz l.prog w K mg base oj 1 jy _ ["self","opens","memory"] (uu K k 3 c6 eo eu c7):=Sk n.1 dM.1 (λa j=>by
  obtain⟨p0,p1,p2,z,t,B⟩:=a;dsimp only [c6,c7]
  repeat (first|exact trivial|refine⟨rfl,?_⟩)) λeB o outer s H E b a d j=>by
  refine xX ?_ _ j;exact⟨gE ⟨⟨dM.nd,rfl,.never⟩,d.units⟩ dM,f⟩
 have fW:dz l.prog w K mg base QgX 1 jy _ ["self","opens","memory"] (Cd K k 3 dH dI dJ):=U9 n.1 dM.1 λeB o outer s H E b a d j C=>by
  obtain⟨p0,p1,p2,z,t,B⟩:=a;refine wm ?_ p0 p1 p2 z t B j C;exact⟨gE ⟨⟨dM.nd,rfl,yU rfl rfl⟩,d.units⟩ dM,f⟩
 have wZ:=q 0 l0 mh jf Hh  EK λd u p=>Gy (by exact⟨cE u uB,f,dF uB 0 rfl⟩) p;have F2:=q 0 iM iN iO FW  sX.1 λd u p=>ER (by exact⟨gE u sX,f⟩) p;have Ho:=q 0 mj jg mq Hi  uC.1 λd u p=>Gz (by exact⟨gE u uC,f⟩) p;have P6:=q 0 pR pS pT PN  zQ.1 λd u p=>OO (by exact⟨gE u zQ,f⟩) p;have Hq:=q 0 jh ji jk Hj  uG.1 λd u p=>GA (by exact⟨gE u uG,f⟩) p;have P7:=q 0 k8 gR k9 PR  zR.1 λd u p=>OQ (by exact⟨gE u zR,f⟩) p;have Jc:=q 1 uK uL uM YB  EV.1 λd u p=>Ye (by exact⟨gE u EV,f,bJ F2 d,bJ Ho d,bJ P6 d,bJ Hq d,bJ P7 d⟩) p;have Ac:=q 0 kL kM kN eI  OU.1 λd u p=>agA (by exact⟨gE u OU,f⟩) p;have dA:=q 0 EW EX zS cn  VW.1 λd u p=>alk (by exact⟨gE u VW,f⟩) p;have hR:dz l.prog w K mg base oj 2 Pk _ ["chart","opens","leaf","sign"] (Qf K k 4 xY xZ rT):=jH z9.1 IK λeB o outer s H E b a iV d j=>by
  refine acy ?_ j;exact⟨cE ⟨⟨IK.nd,rfl,.never⟩,d.units⟩ Bh,f,dF Bh 0 rfl,dF Bh 7 rfl,bJ Ac d,bJ dA d,M1 bl kb iV YF.1 (I0.1) (YG.1),UT d,d⟩
 have P8:=DN hR hW z9.kp hV;have Ug:dz l.prog w K mg base oj 3 yt _ ["chart","opens","sign","most"] (Qf K k 4 jW gA jX):=jH D.1 oJ λeB o outer s H E b a _ d j=>by
  refine R6 ?_ j;exact⟨cE ⟨⟨oJ.nd,rfl,.never⟩,d.units⟩ gj,f,dF gj 0 rfl,dF gj 1 rfl,dF gj 2 rfl,bJ wZ d,bJ Jc d,bJ P8 d⟩
 have yx:=DN Ug sN D.kp sO;have vp:dz l.prog w K mg base QgX 3 yt _ ["chart","opens","sign","most"] (si K k 4 iC f7 iD):=Rc D.1 oJ λeB o outer s H E b a d j C=>by
  obtain⟨p0,p1,p2,z,t,B,p6,p7,p8,p9,af⟩:=a;refine OV ?_ p0 p1 p2 z t B p6 p7 p8 p9 af j C;exact⟨cE ⟨⟨oJ.nd,rfl,yU rfl rfl⟩,d.units⟩ gj,f,dF gj 0 rfl,dF gj 1 rfl,dF gj 2 rfl,bJ wZ d,bJ Jc d,bJ P8 d⟩
 have Ad:=q 1 kP kQ kR hz  IL.1 λd u p=>acA (by exact⟨gE u IL,f,bJ Ac d⟩) p;have dy:=q 2 E4 E5 E6 cm  agD λd u p=>alr (by exact⟨cE u Lk,f,dF Lk 0 rfl,dF Lk 2 rfl,bJ Ad d⟩) p;have ax:=q 2 Lp Lq C9 bo  Pm.1 λd u p=>apo (by exact⟨gE u Pm,f,bJ Ac d,bJ Ad d⟩) p;have By:=q 3 lP jE lQ YK  E7.1 λd u p=>Yi (by exact⟨gE u E7,f,bJ ax d⟩) p;have Uh:=q 4 rW mR mS T8  B3.1 λd u p=>Sb (by exact⟨gE u B3,f,bJ dy d,bJ By d⟩) p;have MC:=q 0 nV jY nW Mu  wU.1 λd u p=>Lr (by exact⟨gE u wU,f⟩) p;have du:=q 1 E8 zU uO cf  VZ.1 λd u p=>alv (by exact⟨gE u VZ,f,bJ Ac d⟩) p;have YT:=q 63 oK oM oN YL  E9.1 λd u p=>Yk (by exact⟨gE u E9,f,bJ du d,bJ P5 d,bJ Wd d⟩) p;have Hr:=q 64 jl gF jm Hl  uP.1 λd u p=>GF (by exact⟨gE u uP,f,bJ YT d,bJ By d⟩) p;have P9:=q 2 r6 nX nY hy  IQ.1 λd u p=>acH (by exact⟨gE u IQ,f,bJ Ad d⟩) p;have Ui:=q 3 r9 mU mV T9  B4.1 λd u p=>Sh (by exact⟨gE u B4,f,bJ P9 d⟩) p;have Uj:=q 0 sd mW mX Ua  B5.1 λd u p=>Si (by exact⟨gE u B5,f⟩) p;have Ae:=q 0 jZ f9 j3 Mv  wV.1 λd u p=>Ls (by exact⟨gE u wV,f⟩) p;have MD:=q 65 qC ng kT eH  acI λd u p=>agF (by exact⟨cE u Fg,f,dF Fg 0 rfl,dF Fg 5 rfl,bJ Uh d,bJ MC d,bJ Hr d,bJ Ui d,bJ Uj d,bJ Jb d,bJ Ae d,bJ P9 d⟩) p;have fw:=q 1 Bq vY Br eF  OW.1 λd u p=>agH (by exact⟨gE u OW,f,bJ Ac d⟩) p;have Qa:=q 2 qa lg lq PV  zV.1 λd u p=>OY (by exact⟨gE u zV,f,bJ Ad d⟩) p;have dt:dz l.prog w K mg base oj 5 V _ ["chart","found"] (Qf K k 2 uT qD uU):=jH Mw.1 V0 λeB o outer s H E b a iV d j=>by
  refine alB ?_ j;exact⟨cE ⟨⟨V0.nd,rfl,.never⟩,d.units⟩ LJ,f,dF LJ 0 rfl,dF LJ 5 rfl,bJ Ae d,bJ By d,bJ fw d,bJ Qa d,M1 bl kb iV eC.1 (Wa.1) (eA.1),UT d,d⟩
 have Uk:=DN dt d3 Mw.kp d0;have w9:dz l.prog w K mg base oj 67 qe _ ["self","number","sign"] (uu K k 3 gH jn jo gI):=Sk r.1 gf.1 (λa j=>by
  obtain⟨p0,p1,p2,z,t,B,p6⟩:=a;dsimp only [gH,gI]
  repeat (first|exact trivial|refine⟨rfl,?_⟩)) λeB o outer s H E b a d j=>by
  refine GJ ?_ _ j;exact⟨gE ⟨⟨gf.nd,rfl,.never⟩,d.units⟩ gf,f,bJ yx d,bJ MD d,bJ Uk d,⟨⟨_,_,_,⟨n.a,n.i,n.kp⟩,fW,J⟩,d.mono Wm,aY⟩,⟨⟨_,_,_,⟨n.a,n.i,n.kp⟩,gB,J⟩,d.mono Wm,aY⟩,⟨⟨_,_,_,vp,sN,D.kp,sO⟩,d.mono Wm⟩⟩
 have vq:dz l.prog w K mg base QgX 67 qe _ ["self","number","sign"] (Cd K k 3 gZ g6 g7):=U9 r.1 gf.1 λeB o outer s H E b a d j C=>by
  obtain⟨p0,p1,p2,z,t,B,p6⟩:=a;refine Fi ?_ p0 p1 p2 z t B p6 j C;exact⟨gE ⟨⟨gf.nd,rfl,yU rfl rfl⟩,d.units⟩ gf,f,bJ yx d,bJ MD d,bJ Uk d,⟨⟨_,_,_,⟨n.a,n.i,n.kp⟩,fW,J⟩,d.mono Wm,aY⟩,⟨⟨_,_,_,⟨n.a,n.i,n.kp⟩,gB,J⟩,d.mono Wm,aY⟩,⟨⟨_,_,_,vp,sN,D.kp,sO⟩,d.mono Wm⟩⟩
 have fv:dz l.prog w K mg base oj 68 Mf _ ["chart","most"] (Qf K k 2 vZ v5 v7):=jH L.1 qE.1 λeB o outer s H E b a _ d j=>by
  refine agJ ?_ j;exact⟨gE ⟨⟨qE.nd,rfl,.never⟩,d.units⟩ qE,f,bJ MB d,bJ De d,⟨⟨_,_,_,⟨IX,O.a,O.i,IY⟩,wY,P0,wX⟩,d.mono Wm⟩,⟨⟨_,_,_,⟨n.a,n.i,n.kp⟩,fW,J⟩,d.mono Wm,aY⟩,⟨⟨_,_,_,⟨n.a,n.i,n.kp⟩,gB,J⟩,d.mono Wm,aY⟩,⟨⟨_,_,_,⟨r.a,r.i,r.kp⟩,vq,lA⟩,d.mono Wm,aY⟩,⟨⟨_,_,_,⟨r.a,r.i,r.kp⟩,w9,lA⟩,d.mono Wm,aY⟩⟩
 have Wf:=DN fv My L.kp Mz;have Qc:dz l.prog w K mg base QgX 68 Mf _ ["chart","most"] (si K k 2 oO oQ oR):=Rc L.1 qE.1 λeB o outer s H E b a d j C=>by
  obtain⟨p0,p1⟩:=a;refine acO ?_ p0 p1 j C;exact⟨gE ⟨⟨qE.nd,rfl,yU rfl rfl⟩,d.units⟩ qE,f,bJ MB d,bJ De d,⟨⟨_,_,_,⟨IX,O.a,O.i,IY⟩,wY,P0,wX⟩,d.mono Wm⟩,⟨⟨_,_,_,⟨n.a,n.i,n.kp⟩,fW,J⟩,d.mono Wm,aY⟩,⟨⟨_,_,_,⟨n.a,n.i,n.kp⟩,gB,J⟩,d.mono Wm,aY⟩,⟨⟨_,_,_,⟨r.a,r.i,r.kp⟩,vq,lA⟩,d.mono Wm,aY⟩,⟨⟨_,_,_,⟨r.a,r.i,r.kp⟩,w9,lA⟩,d.mono Wm,aY⟩⟩
 have Af:dz l.prog w K mg base oj 1 z8 _ ["self","boxes","signs","begin","flats","rows"] (q4 K k "Table" 6 uX uY uZ):=CJ N.1 qc.1 λeB o outer s H E b a y d j=>by
  obtain⟨p0,p1,p2,z,t⟩:=a;refine LW ?_ p0 p1 p2 z t y j;exact⟨gE ⟨⟨qc.nd,rfl,.never⟩,d.units⟩ qc,f⟩
 have Qd:dz l.prog w K mg base oj 69 vg _ ["chart","most"] (Qf K k 2 ly lz jb):=jH M.1 iP.1 λeB o outer s H E b a _ d j=>by
  refine O2 ?_ j;exact⟨gE ⟨⟨iP.nd,rfl,.never⟩,d.units⟩ iP,f,bJ Wf d,⟨⟨_,_,_,⟨PD,N.a,N.i,PF⟩,Af,Wb,Ab⟩,d.mono Wm⟩,⟨⟨_,_,_,Qc,My,L.kp,Mz⟩,d.mono Wm⟩⟩
 have Cb:=DN Qd vm M.kp vn;have Ag:dz l.prog w K mg base QgX 69 vg _ ["chart","most"] (si K k 2 gJ gK gM):=Rc M.1 iP.1 λeB o outer s H E b a d j C=>by
  obtain⟨p0,p1⟩:=a;refine LX ?_ p0 p1 j C;exact⟨gE ⟨⟨iP.nd,rfl,yU rfl rfl⟩,d.units⟩ iP,f,bJ Wf d,⟨⟨_,_,_,⟨PD,N.a,N.i,PF⟩,Af,Wb,Ab⟩,d.mono Wm⟩,⟨⟨_,_,_,Qc,My,L.kp,Mz⟩,d.mono Wm⟩⟩
 have Ul:=q 69 mY mZ m5 Ub  B9.1 λd u p=>Sy (by exact⟨gE u B9,f,bJ Cb d,⟨⟨_,_,_,Ag,vm,M.kp,vn⟩,d.mono Wm⟩,rfl,rfl,rfl,n6.1⟩) p;have dr:=q 2 Fl Fo Fp cc  V2.1 λd u p=>alD (by exact⟨gE u V2,f,⟨⟨_,_,_,⟨Mq,F.a,F.i,Mr⟩,vo,Ud,vj⟩,d.mono Wm⟩,⟨⟨_,_,_,⟨FN,I.a,I.i,FP⟩,sQ,MA,sM⟩,d.mono Wm⟩⟩) p;have dq:=q 2 Ft Fv Fw cb  V3.1 λd u p=>alG (by exact⟨gE u V3,f,⟨⟨_,_,_,⟨FN,I.a,I.i,FP⟩,sQ,MA,sM⟩,d.mono Wm⟩,⟨⟨_,_,_,⟨Mq,F.a,F.i,Mr⟩,vo,Ud,vj⟩,d.mono Wm⟩⟩) p;have hP:=q 66 yp yq yr hx  IV.1 λd u p=>acS (by exact⟨gE u IV,f,bJ Uk d,bJ MD d⟩) p;have fu:=q 67 Bt Bu Bv gv  O6.1 λd u p=>agN (by exact⟨gE u O6,f,bJ De d,bJ yx d,bJ hP d,⟨⟨_,_,_,vp,sN,D.kp,sO⟩,d.mono Wm⟩⟩) p;have ft:∀dd,dz l.prog w K mg base oj (1+dd) U g_same ["found","due"] (Qf K k 2 vd (ve dd) qF):=by
  intro dd
  induction dd using Nat.strongRecOn with
  | ind dd ih=>
   rw[show 1+dd=(0+dd)+1 by lia];exact jH FY.1 L8.1 λeB o outer s H E b a _ d j=>by
    refine alJ (dd:=dd) ?_ j;exact⟨gE ⟨⟨L8.nd,rfl,.never⟩,d.units⟩ L8,f,λd' hd=>⟨⟨_,_,_,ih d' hd,ae,FY.kp,aa⟩,d.mono We⟩⟩
 have dk:=ft 8;have X:=DN dk ae FY.kp aa;have dj:=q 9 FD FE zZ b7  V5.1 λd u p=>alL (by exact⟨gE u V5,f,bJ X d⟩) p;have aw:dz l.prog w K mg base oj 71 _ _ ["script"] (Qf K k 1 v8 v9 wc):=jH P.1 S6.1 λeB o outer s H E b a _ d j=>by
  refine apA ?_ j;exact⟨gE ⟨⟨S6.nd,rfl,.never⟩,d.units⟩ S6,f,bJ fA d,bJ fy d,bJ A d,bJ Ul d,bJ dr d,bJ dq d,bJ MB d,bJ fu d,bJ Cb d,bJ X d,bJ De d,bJ dj d,⟨⟨_,_,_,Ag,vm,M.kp,vn⟩,d.mono Wm⟩,rfl,rfl,rfl,n6.1⟩
 exact aw.imp (afb Qcm Qcm ar)
def walk{l:QnN}{q:Qag}{loose:At}{r:Qnq}{e:QmE}{d:DefRec}{K:Params->Frag}{T0:BY}(hn:l.most=some 63)(b:QmQ)
  (j:∀(w:World) (h:Heap),e w h->(K w.params).In h) (m:∀(w:World) (h:Heap),e w h->∀P∈T0,h.get? P=some (tabObj #[]))
  (F:∀(w:World) (mg:Bi) (g:Addr) (h:Heap),(K w.params).In h->h.Ns mainGlobals mg->mg d.name=some (.ref g) →
   ∃(fd:QaT) (ts:Cs),(∀p∈ts,p.1∈T0/\ts.lookup p.1=some p.2/\(K w.params).lookup p.1=none/\∃c,CodeHd h c p.1)/\(∀(s:Qb) (u:Value),BindsTo s fd ⟨[u],[]⟩ [("script",u)])/\∀base:Heap,(K w.params).In base->base.Ns mainGlobals mg->DP mg base->dz l.prog w Qg3 mg base oj 71 g fd ["script"] (spT Qg3 ts 1 v8 v9 wc)) :
  PySem.W.WalkO q loose r e l.row.toRowW d [] Qls:=
 aaC (n:=63) (k:=71) (x:="script") (sp:=λw ts=>spT Qg3 ts 1 v8 v9 wc) hn Wm b ⟨rfl,Wm,Wm⟩ j m F (λ_ _ _ a ns hl o i=>afc rfl hl rfl o i)
end Law
end
namespace PySem.W.Fast
def tw10157025248586437024:=0
def tw10157415486922742727:=0
def tw10209336229776859061:=0
def tw10239348434964304045:=0
def tw10252500554307211114:=0
def tw10333258016265799888:=0
def tw10364080012076883164:=0
def tw10381106509137126658:=0
def tw10504307314555381990:=0
def tw10585647294814188235:=0
def tw10778489067842671244:=0
def tw10845611576490245868:=0
def tw10857032325803393581:=0
def tw10861470691598198217:=0
def tw10923115717823932614:=0
def tw10951976140264429105:=0
def tw11195312443399304995:=0
def tw11219488687330532585:=0
def tw112586589297172779:=0
def tw11298183443952387454:=0
def tw11404255619358418380:=0
def tw1163382793775282433:=0
def tw11850816598748201073:=0
def tw11937131896383681916:=0
def tw12172034851976844218:=0
def tw12180130731081733264:=0
def tw12368323203404792319:=0
def tw12438043431282854016:=0
def tw12493118704415471232:=0
def tw12532761025187860369:=0
def tw12566162668521674089:=0
def tw12626445970042757851:=0
def tw12665188503284636473:=0
def tw12670643853736298159:=0
def tw12743486498466710031:=0
def tw12833175470133652296:=0
def tw12835297301360264642:=0
def tw12839954934740510953:=0
def tw12890101099147065166:=0
def tw13038717099372834875:=0
def tw13096784665285465659:=0
def tw13109258788146395923:=0
def tw13174476903520052918:=0
def tw13261282220897541581:=0
def tw13318068454307010448:=0
def tw13323325858603470012:=0
def tw13492801236714383445:=0
def tw13587808696564385627:=0
def tw13595251484732890280:=0
def tw13640205759079715875:=0
def tw13669341954019404558:=0
def tw13725143799002449899:=0
def tw13849672198706579453:=0
def tw13851427562822361364:=0
def tw14082732471652895956:=0
def tw14152499755679986128:=0
def tw14303966354984005365:=0
def tw14312166616694804610:=0
def tw14326494867069320901:=0
def tw14330829266378108160:=0
def tw14356337668212472598:=0
def tw14442332346554766898:=0
def tw14542198933525370450:=0
def tw14783011501580749058:=0
def tw147913473802347613:=0
def tw14869597044885102433:=0
def tw14910225694850206364:=0
def tw14979261212946895721:=0
def tw14998383433097010471:=0
def tw15514060262918718443:=0
def tw15623544547692329133:=0
def tw15714526342475120582:=0
def tw15845402494557284158:=0
def tw15868474076201258426:=0
def tw15952074066141522318:=0
def tw15964192877099261569:=0
def tw16030048157380250157:=0
def tw16171552513523823793:=0
def tw16223642518833382936:=0
def tw16252708694272606407:=0
def tw16276074411953694100:=0
def tw16371021964175689236:=0
def tw16475879974257926490:=0
def tw1651515649635214323:=0
def tw16554482603299148778:=0
def tw16579042120868337951:=0
def tw16608590420810869960:=0
def tw1664647648374173109:=0
def tw16646613009287267455:=0
def tw16687636799682604743:=0
def tw16740112128900021013:=0
def tw16756888617133147470:=0
def tw16790971461816929253:=0
def tw16908940734105706104:=0
def tw16939660717694990372:=0
def tw16957013893924895309:=0
def tw17005462159869528623:=0
def tw17011110566174903107:=0
def tw17080459833360565491:=0
def tw17131881606271117632:=0
def tw17158466424669127185:=0
def tw17270183096240502937:=0
def tw17351739668638405467:=0
def tw17382952219032316334:=0
def tw17427434953297259197:=0
def tw17543056989985935200:=0
def tw17552925330401517785:=0
def tw17560267513382581989:=0
def tw17583272063119372951:=0
def tw17734187159870353848:=0
def tw178563839811549365:=0
def tw17910119980281706133:=0
def tw17917435783443334646:=0
def tw17999644345224282311:=0
def tw18023126570146736600:=0
def tw1802713632508155849:=0
def tw18126326122311699663:=0
def tw18169088663030866283:=0
def tw1825302770868735523:=0
def tw1838295297405344558:=0
def tw1895465881640601768:=0
def tw193067388568959727:=0
def tw1941098217979454559:=0
def tw2046038076477023759:=0
def tw208112292547113344:=0
def tw2136527297706512651:=0
def tw2155190131054603050:=0
def tw216334882651828551:=0
def tw2536416113438913261:=0
def tw2590173990365851675:=0
def tw2758196693947843027:=0
def tw2782118132790507574:=0
def tw2989926494342644981:=0
def tw3209786826926102395:=0
def tw3258798128244580976:=0
def tw3278506504273033795:=0
def tw3283915616262561713:=0
def tw3288626541664373974:=0
def tw3328247232542994319:=0
def tw3422751314437295504:=0
def tw3557041414263472988:=0
def tw3627901881264927351:=0
def tw3652552890188187872:=0
def tw3684748295609467769:=0
def tw3716527470700778149:=0
def tw3814856856083324062:=0
def tw3861314618328692885:=0
def tw3888534314273002377:=0
def tw3946815616304842977:=0
def tw3972354582767717203:=0
def tw4001204286394935400:=0
def tw4158328063481670643:=0
def tw431736489787343255:=0
def tw4325795559519152549:=0
def tw4408110028599121365:=0
def tw4411384511054218539:=0
def tw4494385552019059824:=0
def tw4507359188370903134:=0
def tw4602010943581026728:=0
def tw4707743963684395754:=0
def tw4729090598878558858:=0
def tw4741682168633704321:=0
def tw4843490130551605199:=0
def tw4897149218034482899:=0
def tw5032199520154045405:=0
def tw5050972660980944451:=0
def tw5187101118202417022:=0
def tw5236975867776082940:=0
def tw5336950920773402565:=0
def tw5353955160511519521:=0
def tw5449021224728637285:=0
def tw5538356988323306967:=0
def tw5561107643488431307:=0
def tw5646361604225863540:=0
def tw5944355188787949081:=0
def tw5951198545762649222:=0
def tw6027834433050844907:=0
def tw6054109755111198081:=0
def tw6108320776522900969:=0
def tw6193800543644975513:=0
def tw6357113406343894035:=0
def tw63845060111672852:=0
def tw6759690828911099649:=0
def tw6815223721258033126:=0
def tw6854862150581274022:=0
def tw6856669567558245935:=0
def tw6887648548677327545:=0
def tw6922371856502626130:=0
def tw6968997538756107757:=0
def tw7119145832429951340:=0
def tw7163069234687393157:=0
def tw7259163309006254963:=0
def tw727285417155462394:=0
def tw7301717275583128181:=0
def tw7348569077889826970:=0
def tw7461426912006330766:=0
def tw7573305810849678520:=0
def tw7586856590160777318:=0
def tw7820630324126137989:=0
def tw8043407696025192725:=0
def tw8071565569550994745:=0
def tw8082215274232048374:=0
def tw8109863258445526420:=0
def tw8130422992224833688:=0
def tw8199913021098330833:=0
def tw8216720217032755552:=0
def tw8296998196502365665:=0
def tw8330624635038967718:=0
def tw8441571899763425588:=0
def tw8466318924350725152:=0
def tw8480176334716055557:=0
def tw8576889686993536741:=0
def tw8629799345119850510:=0
def tw8691560365861014142:=0
def tw8986102616612822320:=0
def tw9063655943821320837:=0
def tw9246488088776895700:=0
def tw9426799876016729145:=0
def tw9431036147638111773:=0
def tw9479081932985247072:=0
def tw9581820328242263138:=0
def tw9664304235789979517:=0
def tw971925037540692678:=0
def tw9762299791927559553:=0
def tw9772994527561931368:=0
def tw9830209924241079497:=0
def tw9914964488316713849:=0
def tw9931273959757758559:=0
end PySem.W.Fast
open PySem PySem.W PyProof.Rows
set_option maxRecDepth 100000 in
set_option maxHeartbeats 0 in
theorem PySem.Challenge.cw_moodtree_k51_the_table_holds : PySem.Challenge.rw_moodtree_k51_the_table.Holds := by
 w_on; o_law; k_head; (case hw => w_witness2)
 k_fill
 refine Law.walk (l := PySem.Challenge.rw_moodtree_k51_the_table) rfl rfl (λw h Y => PySem.W.km_in_of Y) (λw h Y => PySem.W.km_tabs_of Y) ?F
 case F =>
   intro w mg fa h KX G hmg
   apply Law.all_mk KX G hmg
   all_goals first | exact L3.Wq.mk (n := 1) rfl | (refine L3.Wq.mk (n := 2) ?_; kernel_rfl) | (refine L3.Wq.mk (n := 3) ?_; decide) | (refine L3.Wq.mk (n := 5) ?_; kts_exm) | (apply L3.fn1 <;> k_is) | (apply L3.fn2 <;> k_is) | (apply L3.fnD <;> first | k_is | rfl | ((repeat (intro _)); exact ⟨_, rfl, rfl⟩)) | (apply L2.yE.mk <;> k_is) | ((try delta L3.InG); (try delta L2.bC); (try delta L3.Rj); (try delta L3.AH); k_is)
